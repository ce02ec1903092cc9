import PyProof.Rows.All
import Wide.All
import OpenK.AllK
import Wide.FinOn
import PySem.Challenge.RW_firstanswers_k10_whole_words_in_order
import HandS.Base
import HandS.Call
import HandS.List
import HandS.Ends
import HandS.Dict
import HandS.More
import HandS.Defaults
import HandS.Words
import HandS.Star
import PyProof.ReprRoads
import HandS.Nested
import HandS.ExcOwn
import HandS.TryMany
import HandS.EndTab
import HandS.GenList
import HandS.GenOver
import HandS.Comp
import PyProof.ZipIter
import PyProof.RangeIter
import PyProof.GenQ
import PyProof.GenObj
import HandS.Iter
import HandS.HeadHook1
import HandS.HeadHook2
import HandS.Exc
import HandS.ExcInit
import HandS.WordsExc
import KE.KExcInit
import HandS.TryOnly
import PyProof.InstEq
import PyProof.StrOps2
import HandS.Deep
import HandS.SlotsOwn
import HandS.ExcIs
import HandS.ExcField
import HandS.IsInst
import KE.KExcIs
import HandS.Property
import PyProof.EqKinds
import HandS.MakeKwOnly
import HandS.Flow
import PyProof.Rows.Digits
import HandS.MethStar
import HandS.Wide
import HandS.Gcd
import PyProof.SumWalkG
import PyProof.WalksMore
import HandS.WordsList
import HandS.SetTxt0
import HandS.SetFor
import PyProof.StrWalks
import PyProof.DictUpdate
import PyProof.Ns1
import KE.KStar
import HandS.MakeKw
import HandS.ClsMeth
import HandS.HeadHook4
import HandS.HeadNt
import HandS.Head0
import HandS.Head1
import HandS.Head2
import HandS.Head3
import HandS.Text
import KE.DataEq
import HandS.ListItems
import HandS.Conv
import PyProof.Rows.SortShellAny
import HandS.Codes
import PyProof.Rows.SortStr
import HandS.Walk
import HandS.SortKw
import HandS.StrMore
import HandS.DictComp
import HandS.Replace
import HandS.Style
import PyProof.SliceStr2
import KE.DataCmp
import HandS.WordsDict
import PyProof.StrLawsRepr
set_option Elab.async false
set_option linter.all false
set_option maxRecDepth 100000
set_option maxHeartbeats 0
/-! Defs that show data (repr): their promise wants that no show is under way around them. -/
namespace Ver
open PySem PySem.Spec PyProof.Rows L2
/-- a promise for callers around whom nothing is being shown -/
def FnG (P : Program) (w : World) (K : PySem.W.Frag) (mg : Str → Option Value) (base : Heap) (CX : CXT) (k : Nat) (f : Addr) (sp : Sp) : Prop :=
  ∀ (A : Around) (outer : List Env) (s : Shared) (H : Hp) (us : List Value) (vs : List V) (Q : VK) (E : XK), A.guards = some [] → Room k A →
    Env0 P w K mg base A outer s H → Vals vs us → sp vs H Q E → codeAny (model P w) A (.call (.ref f) ⟨us, []⟩) (CR CX outer P w H s Q E) s
section
variable {P : Program} {w : World} {K : PySem.W.Frag} {mg : Str → Option Value} {base : Heap} {CX : CXT} {k : Nat} {f : Addr} {fd : FuncData} {sp : Sp}
variable {x qual : Str} {params : Arguments} {body : List Stmt} {scope : Scope} {N ps : List Str} {kws : List (Str × V)}
theorem FnG.ofR (F : FnR P w K mg base CX k f sp) : FnG P w K mg base CX k f sp := fun A outer s H us vs Q E _ hr e0 r h => F A outer s H us vs Q E hr e0 r h
theorem FnG.mono {j : Nat} (F : FnG P w K mg base CX j f sp) (h : j ≤ k) : FnG P w K mg base CX k f sp := fun A outer s H us vs Q E g hr e0 r q => F A outer s H us vs Q E g (hr.mono h) e0 r q
/-- the rule for such a def, its body as a term -/
theorem okG (F : FunD K x qual params body scope [] kws f fd) (S : FnScope N ps scope)
    (hb : ∀ (s : Shared) (us : List Value), us.length = ps.length → BindsTo s fd ⟨us, []⟩ (ps.zip us)) (len : ∀ vs H Q E, sp vs H Q E → vs.length = ps.length)
    (hbody : ∀ (cdv : Value) (A : Around) (outer : List Env) (s : Shared) (H : Hp) (vs : List V) (Q : VK) (E : XK), A.guards = some [] → Room k (A.deeper (envOfC qual scope s.heap.objs.size f cdv)) → sp vs H Q E →
      ∃ t, PSs (cxOf CX P w K mg base N qual scope f cdv A outer s H E) body t ∧ t { nx := fun _ H' => Q .non H', rt := Q } (start N vs) H) : FnG P w K mg base CX (k + 1) f sp := by
  obtain ⟨⟨oc, od, dV, kV, doc, pm, an, cdv, ct, osl, rfl, lk, hcd, _⟩, _⟩ := F
  intro A outer s H us vs Q E hg hr e0 r hsp
  have hl := len _ _ _ _ hsp
  refine StX.run_bnd (G := fun xs H2 => xs = vs ∧ H2 = H) lk hcd S hr e0 (fun A' Ex Q' q => ?_) fun s2 H2 xs g hr' => ?_
  · exact hb s us (by rw [← r.length]; exact hl) _ A' Ex Q' (q s H vs us e0 Un.refl rfl (fun _ _ z => z) r hl ⟨rfl, rfl⟩)
  · obtain ⟨rfl, rfl⟩ := g
    exact hbody cdv A outer s2 H2 xs Q E hg hr' hsp
end
section
variable {X : Cx} {CX : CXT} {k : Nat} {f : Addr} {sp : Sp} {E : XK} {x : Str} {p pos : Pos} {e : Expr} {es : List Expr} {t : TA}
/-- f(e, ..) -/
theorem pe_callG (F : FnG X.prog X.w X.K X.mg X.base CX k f sp) (hr : Room k X.A) (hgd : X.A.guards = some []) (hg : Gl X x) (hm : X.mg x = some (.ref f)) (hk : PySem.W.keepIn X.K (.ref f) = true) (hx : Passes CX X E)
    (ha : PA X (e :: es) t) (hdb : (x == ("__debug__" : Str)) = false := by decide) (he : starEach (e :: es) X.env = (false, eval e X.env) :: starEach es X.env := by rfl)
    (hpl : (backTo pos (starEach es X.env)).any (·.1) = false := by rfl) : PE X (.Call (.Name x p) (e :: es) [] pos) (fun σ H Q => t σ H fun vs H1 => sp vs H1 Q E) := by
  refine ⟨fun pins s σ H Q I h => wpAny_Call_Name_kw (ld_glob I hg hm (PySem.W.callWith_K (h₀ := X.base) I.ok.mod.kin hk (thn (ha.run pos pins s σ H _ I h) fun us s1 z => ?_) he hpl) hdb)⟩
  obtain ⟨vs, H1, I1, r, q⟩ := z
  refine ⟨I1.kIn, wpAny_call (codeAny_mono (F X.A X.stack s1 H1 us vs Q E hgd hr I1.env0 r q) fun rs s' hq => ?_)⟩
  match rs, hq with
  | .error e', hq => exact hx pins σ H1 s1 e' s' I1 hq
  | .ok (.ret u), hq => exact I1.after hq
  | .ok .next, hq => exact hq.elim
  | .ok .brk, hq => exact hq.elim
  | .ok .cont, hq => exact hq.elim
end
/-- the same rule for a def that lets no exception out -/
theorem ok0 {P : Program} {w : World} {K : PySem.W.Frag} {mg : Str → Option Value} {base : Heap} {k : Nat} {f : Addr} {fd : FuncData} {sp : Sp} {x qual : Str} {params : Arguments} {body : List Stmt} {scope : Scope} {N ps : List Str} {kws : List (Str × V)}
    (F : FunD K x qual params body scope [] kws f fd) (S : FnScope N ps scope)
    (hb : ∀ (s : Shared) (us : List Value), us.length = ps.length → BindsTo s fd ⟨us, []⟩ (ps.zip us)) (len : ∀ vs H Q E, sp vs H Q E → vs.length = ps.length)
    (hbody : ∀ (cdv : Value) (A : Around) (outer : List Env) (s : Shared) (H : Hp) (vs : List V) (Q : VK) (E : XK), A.guards = some [] → Room k (A.deeper (envOfC qual scope s.heap.objs.size f cdv)) → sp vs H Q E →
      ∃ t, PSs (cxOf CX0 P w K mg base N qual scope f cdv A outer s H E).nox body t ∧ t { nx := fun _ H' => Q .non H', rt := Q } (start N vs) H) : FnG P w K mg base CX0 (k + 1) f sp :=
  okG F S hb len fun cdv A outer s H vs Q E hg hr h => by
    obtain ⟨t, ht, q⟩ := hbody cdv A outer s H vs Q E hg hr h
    exact ⟨t, ht.nox, q⟩
section
variable {X : Cx} {CX : CXT} {k : Nat} {f C : Addr} {sp : Sp} {E : XK} {x m : Str} {p pos apos : Pos} {e o : Expr} {es : List Expr} {t : TA} {ta : TE} {pins : List (Addr × Obj)} {σ : L2.St} {H : Hp} {s : Shared} {Q : VK} {us : List Value} {vs : List V}
/-- the callee's run, seen by the caller -/
theorem runG (F : FnG X.prog X.w X.K X.mg X.base CX k f sp) (hr : Room k X.A) (hgd : X.A.guards = some []) (hx : Passes CX X E) (I : Inv X pins σ H s) (r : Vals vs us) (h : sp vs H Q E) :
    wpAny (model X.prog X.w) X.A (call (.ref f) us) (EP X pins σ Q) X.xe s :=
  wpAny_call (codeAny_mono (F X.A X.stack s H us vs Q E hgd hr I.env0 r h) fun rs s' hq => by
    match rs, hq with
    | .error e', hq => exact hx pins σ H s e' s' I hq
    | .ok (.ret u), hq => exact I.after hq
    | .ok .next, hq => exact hq.elim
    | .ok .brk, hq => exact hq.elim
    | .ok .cont, hq => exact hq.elim)
/-- f() -/
theorem pe_callG0 (F : FnG X.prog X.w X.K X.mg X.base CX k f sp) (hr : Room k X.A) (hgd : X.A.guards = some []) (hg : Gl X x) (hm : X.mg x = some (.ref f)) (hk : PySem.W.keepIn X.K (.ref f) = true) (hx : Passes CX X E)
    (hdb : (x == ("__debug__" : Str)) = false := by decide) : PE X (.Call (.Name x p) [] [] pos) (fun _ H Q => sp [] H Q E) :=
  ⟨fun pins s σ H Q I h => wpAny_Call_Name_kw (ld_glob I hg hm (PySem.W.callWith_K0 I.kIn hk (runG (us := []) F hr hgd hx I .nil h)) hdb)⟩
/-- o.m(e, ..) of an instance of the class at C or of any class that has the method at f -/
def tMethG (K : PySem.W.Frag) (m : Str) (f : Addr) (sp : Sp) (E : XK) (ta : TE) (t : TA) : TE := fun σ H Q => ta σ H fun x H1 => ∃ a C dx fs, x = .ref a ∧ H1 a = some (.ins C dx fs) ∧ Cls K C ∧ Meth K C m f ∧ fs.lookup m = none ∧
  t σ H1 fun vs H2 => sp (.ref a :: vs) H2 Q E
theorem pe_methG {pl : Sem Bool} (he : PE X o ta) (hk : PySem.W.keepIn X.K (.ref f) = true) (F : FnG X.prog X.w X.K X.mg X.base CX k f sp) (hr : Room k X.A) (hgd : X.A.guards = some []) (hx : Passes CX X E) (ha : PA X (e :: es) t)
    (hst : starEach (e :: es) X.env = (false, eval e X.env) :: starEach es X.env := by rfl) (hpl : (backTo pos (starEach es X.env)).any (·.1) = false := by rfl)
    (ht : eval (.Call (.Attribute o m apos) (e :: es) [] pos) X.env = (do
      let ov ← eval o X.env
      standAt apos.atName
      let (g, first) ← holding [ov] (getMethod ov m pl)
      callWith pos g first (backTo pos (starEach (e :: es) X.env)) (backToKw pos (keywordEach [] X.env))) := by rfl) :
    PE X (.Call (.Attribute o m apos) (e :: es) [] pos) (tMethG X.K m f sp E ta t) := by
  refine ⟨fun pins s σ H Q I h => PySem.W.methodCall_KW (pl := pl) (thn (he.run pins s σ H _ I h) fun u s1 z => ?_) ht⟩
  obtain ⟨x, H1, I1, rx, a, C, dx, fs, rfl, ea, c, hm, l, q⟩ := z
  cases (show u = Value.ref a from rx)
  refine getmeth_ok I1 ea c hm l (PySem.W.callWith_K (first := [.ref a]) (h₀ := X.base) I.ok.mod.kin hk (thn (ha.run pos pins s1 σ H1 _ I1 q) fun us s2 y => ?_) hst hpl)
  obtain ⟨vs, H2, I2, r, q2⟩ := y
  exact ⟨I2.kIn, runG (us := .ref a :: us) (vs := .ref a :: vs) F hr hgd hx I2 (.cons rfl r) q2⟩
/-- o.m() -/
theorem pe_methG0 {pl : Sem Bool} (he : PE X o ta) (hk : PySem.W.keepIn X.K (.ref f) = true) (F : FnG X.prog X.w X.K X.mg X.base CX k f sp) (hr : Room k X.A) (hgd : X.A.guards = some []) (hx : Passes CX X E)
    (ht : eval (.Call (.Attribute o m apos) [] [] pos) X.env = (do
      let ov ← eval o X.env
      standAt apos.atName
      let (g, first) ← holding [ov] (getMethod ov m pl)
      callWith pos g first (backTo pos (starEach [] X.env)) (backToKw pos (keywordEach [] X.env))) := by rfl) :
    PE X (.Call (.Attribute o m apos) [] [] pos) (tMethG X.K m f sp E ta tNil) := by
  refine ⟨fun pins s σ H Q I h => PySem.W.methodCall_KW (pl := pl) (thn (he.run pins s σ H _ I h) fun u s1 z => ?_) ht⟩
  obtain ⟨x, H1, I1, rx, a, C, dx, fs, rfl, ea, c, hm, l, q⟩ := z
  cases (show u = Value.ref a from rx)
  exact getmeth_ok I1 ea c hm l (PySem.W.callWith_K0 (first := [.ref a]) I1.kIn hk (runG (us := [.ref a]) (vs := [.ref a]) F hr hgd hx I1 (.cons rfl .nil) q))
theorem made_guards {A : Around} (h : A.guards = some []) (C : Addr) (us : List Value) : (A.under (.builtin "type.__call__" ⟨.ref C :: us, []⟩)).guards = some [] := by
  show pushGuards (Code.builtin "type.__call__" ⟨.ref C :: us, []⟩).guards A.guards = some []
  rw [h]
  first
    | rfl
    | decide +kernel
/-- C(e, ..) -/
theorem pe_makeG (M : Mk X.K C f) (F : FnG X.prog X.w X.K X.mg X.base CX k f sp) (hr : Room (k + 1) X.A) (hgd : X.A.guards = some []) (hg : Gl X x) (hm : X.mg x = some (.ref C)) (hx : Passes CX X E) (ha : PA X (e :: es) t)
    (hdb : (x == ("__debug__" : Str)) = false := by decide) (he : starEach (e :: es) X.env = (false, eval e X.env) :: starEach es X.env := by rfl)
    (hpl : (backTo pos (starEach es X.env)).any (·.1) = false := by rfl) : PE X (.Call (.Name x p) (e :: es) [] pos) (StX.tMakeR C sp E t) := by
  refine ⟨fun pins s σ H Q I h => wpAny_Call_Name_kw (ld_glob I hg hm (PySem.W.callWith_K (h₀ := X.base) I.ok.mod.kin M.kp (thn (ha.run pos pins s σ H _ I h) fun us s1 z => ?_) he hpl) hdb)⟩
  obtain ⟨vs, H1, I1, r, q⟩ := z
  refine ⟨I1.kIn, wpAny_call (make_map (f := f) I1.kIn M.makes M.init (beq_iff_eq.mp M.fn) ?_)⟩
  have q2 := q (s1.heap.objs.size + 1) s1.heap.objs.size (I1.hok.fresh (Nat.le_succ _)) (I1.hok.fresh (Nat.le_refl _)) (Nat.ne_of_lt (Nat.lt_succ_self _))
  have I2 := Inv.made (C := C) I1
  refine codeAny_mono (F _ X.stack _ _ (Value.ref (s1.heap.objs.size + 1) :: us) (V.ref (s1.heap.objs.size + 1) :: vs) _ E (made_guards hgd C us) (hr.make C us []) (I2.env0.make C us []) (.cons rfl r) q2) fun rs s' hq => ?_
  match rs, hq with
  | .error e', hq => exact hx pins σ _ _ e' s' I2 hq
  | .ok (.ret u), hq =>
    obtain ⟨v, H', I3, rv, ev, q3⟩ := I2.after hq
    subst ev
    exact ⟨rv, V.ref (s1.heap.objs.size + 1), H', I3, rfl, q3⟩
  | .ok .next, hq => exact hq.elim
  | .ok .brk, hq => exact hq.elim
  | .ok .cont, hq => exact hq.elim
end
/-! ### repr of data -/
section
variable {X : Cx}
/-- repr(x), x data: none, a bool, an int, a text, lists and tuples of such -/
def rRepr (K : PySem.W.Frag) : List V → Hp → VK → Prop := fun xs H Q => ∃ (x : V) (d : PyData), xs = [x] ∧ Dp K H x d ∧ d.showable = true ∧ d.shown.length ≤ sizeLine ∧ d.depth ≤ 60 ∧ Q (.str d.shown) H
mutual
theorem noD {K : PySem.W.Frag} {H : Hp} : ∀ (d : PyData) (v : V), Dp K H v d → d.hasDict = false
  | .none, _, _ => by simp only [PyData.hasDict]
  | .bool _, _, _ => by simp only [PyData.hasDict]
  | .int _, _, _ => by simp only [PyData.hasDict]
  | .str _, _, _ => by simp only [PyData.hasDict]
  | .list ds, _, h => by
    cases h with
    | lst _ ha =>
      simp only [PyData.hasDict]
      exact noDs ds _ ha
  | .tuple ds, _, h => by
    cases h with
    | tup _ ha =>
      simp only [PyData.hasDict]
      exact noDs ds _ ha
  | .dict _, _, h => by cases h
theorem noDs {K : PySem.W.Frag} {H : Hp} : ∀ (ds : List PyData) (vs : List V), DpAll K H vs ds → PyData.hasDictAll ds = false
  | [], _, _ => by simp only [PyData.hasDictAll]
  | d :: ds, _, h => by
    cases h with
    | cons h1 h2 =>
      simp only [PyData.hasDictAll, noD d _ h1, noDs ds _ h2, Bool.or_false]
end
theorem call_repr (hg : X.A.guards = some []) (hu : X.A.units + 64 < cLine) : CallR X (.builtin "repr") (rRepr X.K) := by
  intro pins s σ H xs us Q I r h
  obtain ⟨x, d, rfl, hd, hs, hz, hdp, q⟩ := h
  obtain ⟨u, rfl, rx⟩ := vals1 r
  obtain ⟨as, rd⟩ := Dp.reads I d x u hd rx
  have nd := noD d x hd
  cases rd with
  | none => exact PySem.P.repr_of_none ⟨.str _, H, I.tok _, ⟨_, rfl⟩, by simpa only [PyData.shown] using q⟩
  | bool b => exact PySem.P.repr_of_bool ⟨.str _, H, I.tok _, ⟨_, rfl⟩, by simpa only [PyData.shown] using q⟩
  | int i t => exact PySem.P.repr_of_int (by simpa [PyData.showable] using hs) ⟨.str _, H, I.tok _, ⟨_, rfl⟩, by simpa only [PyData.shown] using q⟩
  | str y t => exact PySem.P.repr_of_str ⟨.str _, H, I.tok _, ⟨_, rfl⟩, by simpa only [PyData.shown] using q⟩ (by simpa only [PyData.shown] using hz)
  | list h1 h2 h3 h4 =>
    exact repr_of_reads' (.list h1 h2 h3 h4) hs (fun z => by rw [nd] at z; cases z) hg (by omega) (fun _ _ z => z) (fun h' u tk hk => ⟨.str _, H, I.kept (t' := tk) hk, ⟨u, rfl⟩, q⟩) hz
  | tuple h1 h2 h3 h4 =>
    exact repr_of_reads' (.tuple h1 h2 h3 h4) hs (fun z => by rw [nd] at z; cases z) hg (by omega) (fun _ _ z => z) (fun h' u tk hk => ⟨.str _, H, I.kept (t' := tk) hk, ⟨u, rfl⟩, q⟩) hz
  | dict h1 h2 h3 h4 h5 => cases hd
end
/-! ### the law's end -/
section
variable {P : Program} {w : World} {K : PySem.W.Frag} {mg mb : Str → Option Value} {k : Nat} {fa a : Addr} {sp : Sp} {s₁ : Shared} {vs : List Value} {ns : List Int}
/-- the law's call over one abstract heap -/
theorem lawOn {H : Hp} (KX : K.In s₁.heap) (hns : s₁.heap.Ns mainGlobals mg) (hb : s₁.heap.Ns builtinsNs mb) (hbb : ∀ x : Str, x ≠ "__name__" → mb x = bootBuiltins x) (hlim : s₁.heap.NoLimit) (hg : s₁.gens = #[])
    (ha : s₁.heap.get? a = some { cls := .type "list", data := .seq vs.toArray }) (hr : Room k callerA)
    (F : ∀ base : Heap, K.In base → base.Ns mainGlobals mg → FnG P w K mg base CX0 k fa sp)
    (hO : Only H) (hsp : sp [.ref a] H (fun v _ => v = .bl true) fun _ _ _ => False) (hok : HOk P w H s₁.heap) (hA : ∀ b, H b ≠ none → b = a) (hK : H a ≠ none → K.lookup a = none) :
    codeAny (model P w) callerA (.call (.ref fa) ⟨[.ref a], []⟩) (fun r s' => r = .ok (.ret (.bool true)) ∧ OldK s₁.heap s'.heap ∧ s'.os = s₁.os ∧ AllBare s'.gens) s₁ := by
  have free : ∀ b o, s₁.heap.get? b = some o → (∀ w n, o.data ≠ Data.seq w n) → H b = none := fun b o e hd => Classical.byContradiction fun z => by
    have eb := hA b z
    rw [eb, ha] at e
    exact hd _ _ (congrArg Obj.data (Option.some.inj e)).symm
  have names : ∀ b m, s₁.heap.Ns b m → (hidT s₁.heap H).Ns b m := fun b m hn => by
    obtain ⟨o, es, ep, e, d, r⟩ := hn
    exact ⟨o, es, ep, hidT_get e (free b o e fun w n z => by rw [d] at z; cases z), d, r⟩
  have KB : K.In (hidT s₁.heap H) := fun b o e => hidT_get (KX b o e) (Classical.byContradiction fun z => by
    have eb := hA b z
    subst eb
    rw [hK z] at e
    cases e)
  have md : Mod K mg (hidT s₁.heap H) := ⟨KB, names _ _ hns, ⟨mb, names _ _ hb, hbb⟩, by obtain ⟨mc, h1, h2⟩ := hlim; exact ⟨mc, names _ _ h1, h2⟩⟩
  have nof : ∀ b, b ∉ frs ([] : List Env) := fun b z => by cases z
  have e0 : Env0 P w K mg (hidT s₁.heap H) callerA [] s₁ H := ⟨rfl, md, fun _ _ e => of_hidT e, Nat.le_of_eq (hidT_size _ _), True.intro, fun b z => absurd z (nof b), hok, .of_eq hg⟩
  refine codeAny_mono (F _ KB (names _ _ hns) callerA [] s₁ H [.ref a] [.ref a] _ _ rfl hr e0 (.cons rfl .nil) hsp) fun rs s' z => ?_
  match rs, z with
  | .error _, z => exact z.elim
  | .ok .next, z => exact z.elim
  | .ok .brk, z => exact z.elim
  | .ok .cont, z => exact z.elim
  | .ok (.ret u), z =>
    obtain ⟨v, H', os, bare, un, ok', rv, ev⟩ := z
    cases (show v = V.bl true from ev)
    cases (show u = Value.bool true from rv)
    refine ⟨rfl, OldK.of_keep fun b o e => ?_, os, bare⟩
    rcases hO b with n | ⟨ob, xs, n⟩
    · exact un.keep b o e n (nof b) (by simp)
    · have h1 := (hok b _ n).1
      have h2 := (ok' b _ (un.frzs b ob _ n)).1
      rw [e] at h1
      cases h1
      exact h2
theorem lawG (KX : K.In s₁.heap) (hns : s₁.heap.Ns mainGlobals mg) (hb : s₁.heap.Ns builtinsNs mb) (hbb : ∀ x : Str, x ≠ "__name__" → mb x = bootBuiltins x) (hlim : s₁.heap.NoLimit) (hg : s₁.gens = #[])
    (ha : s₁.heap.get? a = some { cls := .type "list", data := .seq vs.toArray }) (hi : IntsAre vs ns) (hl : ns.length ≤ sizeLine) (hr : Room k callerA)
    (F : ∀ base : Heap, K.In base → base.Ns mainGlobals mg → FnG P w K mg base CX0 k fa sp)
    (hsp : ∀ H : Hp, Only H → SqL K H a (ns.map V.int) → sp [.ref a] H (fun v _ => v = .bl true) fun _ _ _ => False) :
    codeAny (model P w) callerA (.call (.ref fa) ⟨[.ref a], []⟩) (fun r s' => r = .ok (.ret (.bool true)) ∧ OldK s₁.heap s'.heap ∧ s'.os = s₁.os ∧ AllBare s'.gens) s₁ := by
  have rv := vals_ints hi
  cases ek : K.lookup a with
  | some o =>
    have eo : o = _ := Option.some.inj ((KX a o ek).symm.trans ha)
    have O0 : Only (fun _ => none) := fun _ => .inl rfl
    have S0 : SqL K (fun _ => none) a (ns.map V.int) := .inr ⟨o, vs.toArray, _, ek, by rw [eo], by rw [eo], by rw [eo], by rw [List.size_toArray, ← rv.length, List.length_map]; exact hl, by simpa using rv⟩
    exact lawOn (H := fun _ => none) KX hns hb hbb hlim hg ha hr F O0 (hsp _ O0 S0) (fun b u z => by cases z) (fun b z => absurd rfl z) fun z => absurd rfl z
  | none =>
    let H1 : Hp := fun b => if b = a then some (.frz { cls := .type "list", data := .seq vs.toArray } (.lst (ns.map V.int))) else none
    have at_ : H1 a = some (.frz { cls := .type "list", data := .seq vs.toArray } (.lst (ns.map V.int))) := if_pos rfl
    have off : ∀ b, b ≠ a → H1 b = none := fun b z => if_neg z
    have O1 : Only H1 := fun b => by
      by_cases z : b = a
      · exact .inr ⟨_, _, by rw [z]; exact at_⟩
      · exact .inl (off b z)
    refine lawOn (H := H1) KX hns hb hbb hlim hg ha hr F O1 (hsp _ O1 (.inl (.inr ⟨_, at_⟩))) (fun b u z => ?_) (fun b z => Classical.byContradiction fun q => z (off b q)) fun _ => ek
    by_cases q : b = a
    · subst q
      rw [at_] at z
      cases z
      exact ⟨ha, by rw [List.length_map]; exact hl, vs, _, rv, ha⟩
    · rw [off b q] at z
      cases z
end
/-- the goal that the head leaves -/
theorem walkG {l : PySem.W.OpenLaw} {n k : Nat} {q : Program} {loose : List Str} {XP : (Str → Option Value) → Heap → Prop} {YP : World → Heap → Prop} {d : DefRec}
    (hn : l.most = some n) (hn2 : n ≤ sizeLine) (hdf : d.params.defaults = []) (hr : Room k callerA)
    (F : ∀ (w : World) (mg : Str → Option Value) (fa : Addr) (h : Heap), YP w h → h.Ns mainGlobals mg → mg d.name = some (.ref fa) → ∃ (K : PySem.W.Frag) (sp : Sp), K.In h ∧
      (∀ (H : Hp) (a : Addr) (ns : List Int), ns.length ≤ n → Only H → SqL K H a (ns.map V.int) → sp [.ref a] H (fun v _ => v = .bl true) fun _ _ _ => False) ∧
      ∀ base : Heap, K.In base → base.Ns mainGlobals mg → FnG l.prog w K mg base CX0 k fa sp) :
    PySem.W.WalkO q loose XP YP l.row.toRowW d [] (fun f vs => PySem.call f vs) :=
  Att.attach_call hn hdf fun w s₀ s₁ mg mb fa o pm cd doc a vs ns G Y ho hd hcd hmg hobj hints hlen hg => by
    obtain ⟨K, sp, KX, hsp, hF⟩ := F w mg fa _ Y G.T.g hmg
    exact lawG KX G.T.g G.T.b G.T.builtins G.T.nolimit hg hobj hints (Nat.le_trans hlen hn2) hr hF fun H hO hS => hsp H a ns hlen hO hS
end Ver

/-! Lambdas without parameters that are kept as values. -/
namespace Ver
open PySem PySem.Spec PyProof.Rows L2 LamX NdefX
/-- a lambda's words, what it captured, its code object -/
structure LF where
  qual : Str
  params : Arguments
  body : Expr
  scope : Scope
  cl : List (Str × Addr)
  c : Addr
abbrev LF.nf (F : LF) : NF := ⟨"<lambda>", F.qual, F.params, [], F.scope, F.cl, F.c⟩
/-- such a lambda stands at f -/
def LamO (f : Addr) (F : LF) : HO := .ext fun g => ∃ pm ct : Value,
  g.get? f = some (PySem.W.kla_obj "<lambda>" F.qual F.params F.body F.scope F.cl pm F.c ct)
theorem lamO_tbl {f : Addr} {F : LF} (qs : Array Value) : LamO f F ≠ .tbl qs := by
  intro z
  unfold LamO at z
  cases z
section
variable {X : Cx} {pins : List (Addr × Obj)} {σ : L2.St} {H : Hp} {s : Shared}
/-- a lambda that was just laid is tracked -/
theorem lam_laid {F : LF} {t' : Nat} {pm ct : Value} (I : Inv X pins σ H s) :
    Inv X pins σ (upd H s.heap.objs.size (LamO s.heap.objs.size F))
      { s with toks := t', heap := s.heap.push (PySem.W.kla_obj "<lambda>" F.qual F.params F.body F.scope F.cl pm F.c ct) } := by
  have at_ : (s.heap.push (PySem.W.kla_obj "<lambda>" F.qual F.params F.body F.scope F.cl pm F.c ct)).get? s.heap.objs.size = some (PySem.W.kla_obj "<lambda>" F.qual F.params F.body F.scope F.cl pm F.c ct) := Heap.get?_push_size _ rfl
  exact I.laid (fun b u e => Heap.get?_push_of_some _ e) (Nat.le_refl _) ⟨⟨pm, ct, at_⟩, ⟨_, at_⟩, fun _ _ ⟨p, c, z⟩ st => ⟨p, c, st _ z⟩⟩
/-- what a value made by a lambda brings -/
abbrev LamK (X : Cx) (H : Hp) (T : List (Addr × Str)) (params : Arguments) (body : Expr) (scope : Scope) (Q : Value → Shared → Prop) (pins : List (Addr × Obj)) (σ : L2.St) : Prop :=
  ∀ (f c' : Addr) (H1 : Hp) (s' : Shared), Inv X pins σ H1 s' → ExtN H H1 → Tabs T H1 → H1 f = some (LamO f ⟨X.env.qual ++ "<lambda>", params, body, scope, cloFrom X.env.cells scope.names [], c'⟩) →
    H1 c' = some (CodeO c' (X.env.qual ++ "<lambda>")) → Q (.ref f) s'
theorem lam_new {T : List (Addr × Str)} {c P : Addr} {params : Arguments} {body : Expr} {scope : Scope} {pos : Pos} {E Q : Value → Shared → Prop}
    (I : Inv X pins σ H s) (TB : TabB X.base X.mg c P) (hcode : X.env.code = .ref c) (inT : (P, X.env.qual ++ "<lambda>") ∈ T)
    (one : ∀ p ∈ T, p.1 = P → p.2 = X.env.qual ++ "<lambda>") (hT : Tabs T H) (hdef : defaultsOf params X.env = ([], []))
    (fr : ∀ y ∈ scope.names, y.2 = .free → ∃ a, X.env.cells.lookup y.1 = some a) (h : LamK X H T params body scope Q pins σ) :
    wpAny (model X.prog X.w) X.A (eval (.Lambda params body scope pos) X.env) Q E s := by
  obtain ⟨ps, tabH, tri, named⟩ := hT _ inT
  have tab : s.heap.get? P = some { cls := .none, data := .fields ps } := I.hok P _ tabH
  have blt : s.heap.BuiltinsAt X.mg P := TB.bm.keeps I.bk
  refine PySem.W.kla_eval hdef ?_
  cases e : codeAmong pos ps.toList with
  | some cv =>
    obtain ⟨c', rfl, hco⟩ := named pos cv e
    refine PySem.W.kla_makeFunctionHit (mg := X.mg) (c := c) (P := P) (ps := ps) (closure_ok fr) I.ok.glob
      (I.mod.glob.keeps I.bk) hcode (TB.code.keeps I.bk) tab tri e blt fun ct h' tk hx hsz => ?_
    have I1 : Inv X pins σ H { s with toks := tk, heap := h' } := I.kept hx
    have new : H h'.objs.size = none := I1.hok.fresh (Nat.le_refl _)
    have I2 := lam_laid (t' := tk) (pm := (X.mg "__name__").getD .none) (ct := ct) (F := ⟨X.env.qual ++ "<lambda>", params, body, scope, cloFrom X.env.cells scope.names [], c'⟩) I1
    have up : ∀ b o, H b = some o → upd H h'.objs.size (LamO h'.objs.size ⟨X.env.qual ++ "<lambda>", params, body, scope, cloFrom X.env.cells scope.names [], c'⟩) b = some o :=
      fun b o eb => by rw [upd_ne (ne_of_none eb new), eb]
    exact h _ c' _ _ I2 (ExtN.of up) (hT.ext up) upd_same (up _ _ hco)
  | none =>
    refine PySem.W.kla_makeFunction (mg := X.mg) (c := c) (P := P) (ps := ps) (closure_ok fr) I.ok.glob
      (I.mod.glob.keeps I.bk) hcode (TB.code.keeps I.bk) tab tri e TB.gP blt fun c' ct h' tk hx hge hlt ⟨c2, oc, vs, t, e2, hoc, hd, hv⟩ htb => ?_
    cases e2
    have nC : H c' = none := I.hok.fresh hge
    have I1 := inv_table (t' := tk) (h' := h') (more := #[rawInt pos.line, rawInt pos.col, .ref c']) (q := X.env.qual ++ "<lambda>") I tabH
      (fun b o hb eb => hx b o hb eb) htb hge ⟨oc, vs, t, hoc, hd, hv⟩
    generalize hG : upd (upd H P (.tbl (ps ++ #[rawInt pos.line, rawInt pos.col, .ref c']))) c' (CodeO c' (X.env.qual ++ "<lambda>")) = G at I1
    have gP : G P = some (.tbl (ps ++ #[rawInt pos.line, rawInt pos.col, .ref c'])) := by rw [← hG, upd_ne (ne_of_none tabH nC), upd_same]
    have gC : G c' = some (CodeO c' (X.env.qual ++ "<lambda>")) := by rw [← hG, upd_same]
    have gO : ∀ b o, H b = some o → b ≠ P → G b = some o := fun b o eb nb => by rw [← hG, upd_ne (ne_of_none eb nC), upd_ne nb, eb]
    have ext : ExtN H G := fun b o eb n => gO b o eb fun z => by
      rw [z, tabH] at eb
      exact n ps (Option.some.inj eb).symm
    have T1 : Tabs T G := fun p hp => by
      by_cases hb : p.1 = P
      · rw [one p hp hb, hb]
        have eL : (ps ++ #[rawInt pos.line, rawInt pos.col, .ref c']).toList = ps.toList ++ [rawInt pos.line, rawInt pos.col, .ref c'] := by
          rw [Array.toList_append]
        refine ⟨_, gP, ?_, fun p' cv hcv => ?_⟩
        · rw [eL]
          exact PySem.TriplesOk_snoc _ _ _ _ tri
        · rw [eL] at hcv
          rcases among_app _ tri hcv with z | z
          · obtain ⟨c0, e1, e3⟩ := named p' cv z
            exact ⟨c0, e1, ext _ _ e3 codeO_ne⟩
          · exact ⟨c', z, gC⟩
      · obtain ⟨ps', a1, a2, a3⟩ := hT p hp
        refine ⟨ps', gO _ _ a1 hb, a2, fun p' cv hcv => ?_⟩
        obtain ⟨c0, e1, e3⟩ := a3 p' cv hcv
        exact ⟨c0, e1, ext _ _ e3 codeO_ne⟩
    have new : G h'.objs.size = none := I1.hok.fresh (Nat.le_refl _)
    have I2 := lam_laid (t' := tk) (pm := (X.mg "__name__").getD .none) (ct := ct) (F := ⟨X.env.qual ++ "<lambda>", params, body, scope, cloFrom X.env.cells scope.names [], c'⟩) I1
    have up : ∀ b o, G b = some o → upd G h'.objs.size (LamO h'.objs.size ⟨X.env.qual ++ "<lambda>", params, body, scope, cloFrom X.env.cells scope.names [], c'⟩) b = some o :=
      fun b o eb => by rw [upd_ne (ne_of_none eb new), eb]
    exact h _ c' _ _ I2 (ext.trans (ExtN.of up)) (T1.ext up) upd_same (up _ _ gC)
end
/-! ### the value -/
section
variable {X : Cx}
/-- lambda: body -/
def tLamV (T : List (Addr × Str)) (mk : Addr → LF) : TE := fun σ H Q => Tabs T H ∧ ∀ (f c' : Addr) (H1 : Hp), ExtN H H1 → Tabs T H1 → H1 f = some (LamO f (mk c')) → H1 c' = some (CodeO c' (mk c').qual) → Q (.ref f) H1
theorem pe_lam {T : List (Addr × Str)} {c P : Addr} {params : Arguments} {body : Expr} {scope : Scope} {pos : Pos} {mk : Addr → LF} (TB : TabB X.base X.mg c P) (hcode : X.env.code = .ref c) (inT : (P, X.env.qual ++ "<lambda>") ∈ T)
    (one : ∀ p ∈ T, p.1 = P → p.2 = X.env.qual ++ "<lambda>") (hdef : defaultsOf params X.env = ([], [])) (L : LamS X.env.scope scope)
    (hmk : mk = fun c' => ⟨X.env.qual ++ "<lambda>", params, body, scope, cloFrom X.env.cells scope.names [], c'⟩) :
    PE X (.Lambda params body scope pos) (tLamV T mk) := by
  subst hmk
  refine ⟨fun pins s σ H Q I ⟨hT, h⟩ => lam_new I TB hcode inT one hT hdef (L.has I.ok) fun f c' H1 s' I1 x t hf hc => ?_⟩
  exact ⟨.ref f, H1, I1, rfl, h f c' H1 x t hf hc⟩
end
/-! ### its promise -/
/-- what a lambda promises of a call; ws: what its captured names hold then -/
abbrev LSp := List (Option V) → Hp → VK → XK → Prop
def LOk (P : Program) (w : World) (K : PySem.W.Frag) (mg : Str → Option Value) (base : Heap) (CX : CXT) (k : Nat) (f : Addr) (F : LF) (fr : List Str) (sp : LSp) : Prop :=
  ∀ (A : Around) (outer : List Env) (s : Shared) (H : Hp) (ws : List (Option V)) (Q : VK) (E : XK), A.guards = some [] → Room k A →
    Env0 P w K mg base A outer s H → H f = some (LamO f F) → H F.c = some (CodeO F.c F.qual) → CellsAt F.cl fr ws s.heap H → sp ws H Q E →
    codeAny (model P w) A (.call (.ref f) ⟨[], []⟩) (CR CX outer P w H s Q E) s
section
variable {P : Program} {w : World} {K : PySem.W.Frag} {mg : Str → Option Value} {base : Heap} {CX : CXT} {k j : Nat} {f : Addr} {F : LF} {N fr : List Str} {sp : LSp}
theorem LOk.mono (o : LOk P w K mg base CX j f F fr sp) (h : j ≤ k) : LOk P w K mg base CX k f F fr sp :=
  fun A outer s H ws Q E g hr => o A outer s H ws Q E g (hr.mono h)
/-- by its body -/
theorem lok_of (S : NScope N [] fr F.scope)
    (hb : ∀ pm ct : Value, bindArgs (PySem.W.kla_fn "<lambda>" F.qual F.params F.body F.scope F.cl pm (.ref F.c) ct) ⟨[], []⟩ = pure [])
    (body : ∀ (A : Around) (outer : List Env) (s : Shared) (H : Hp) (ws : List (Option V)) (Q : VK) (E : XK), A.guards = some [] → Room k (A.deeper (envF F.nf f s.heap.objs.size)) →
      ws.length = fr.length → sp ws H Q E → ∃ te : TE, PE (ncx CX P w K mg base N F.nf f A outer s H E) F.body te ∧ te (startF N [] ws) H Q) :
    LOk P w K mg base CX (k + 1) f F fr sp := by
  intro A outer s H ws Q E hg hr e0 hf hc C hsp
  obtain ⟨⟨pm, ct, at_⟩, _, _⟩ := e0.hok f _ hf
  have room : s.heap.NoLimit := e0.mod.nolimit.keeps fun b o e => (e0.bs b o e).1
  obtain ⟨te, ht, hq⟩ := body A outer s H ws Q E hg (hr.deeper _) C.len hsp
  refine PySem.W.kla_callFunE hr.depth at_ rfl S.co S.gen rfl (codeO_at e0.hok hc) ?_
  rw [hb]
  refine wpAny_pure (wpAny_newFunctionEnv S.nocell (fun y hy => absurd hy (by simp)) (fun h₁ hns hsb => ⟨room.fresh _ hsb, ?_⟩) S.kind)
  have kp : ∀ b o, s.heap.get? b = some o → h₁.get? b = some o := fun b o e =>
    hsb.extBut b o (Nat.ne_of_lt (Heap.lt_size e)) (Heap.get?_push_of_some _ e)
  have I := inv_startN (CX := CX) (P := P) (w := w) (K := K) (mg := mg) (base := base) (f := f) (F := F.nf) (E := E) (us := []) (vs := []) (tk := s.toks + ([] : List (Str × Value)).length)
    S hr.hd e0 rfl .nil C hns kp
  show codeAny _ _ (.expr F.body (envF F.nf f s.heap.objs.size)) _ _
  refine PySem.W.kla_codeExpr (wpAny_mono (ht.run [] _ _ H _ I hq) (fun v s' z => ?_) fun _ _ z => z)
  obtain ⟨x, H', J, rv, q⟩ := z
  exact ⟨x, H', J.os, J.bare, J.base, J.hok, rv, q⟩
end
/-! ### its call, by a def that got it -/
theorem cells_on {cl : List (Str × Addr)} {fr : List Str} {ws : List (Option V)} {h h' : Heap} {H H' : Hp} {fs : List Addr} (C : CellsAt cl fr ws h H) (u : Un fs [] H H' h h') : CellsAt cl fr ws h' H' := by
  have cell : ∀ {a : Addr} {v : Option Value}, H a = none → h.IsCell a v → h'.IsCell a v := fun {a v} n ⟨o, ho, hd⟩ => by
    obtain ⟨sl, q⟩ := u.any ho n (by simp)
    exact ⟨_, q, hd⟩
  refine ⟨C.len, fun y a e => ?_, C.inj, fun i y e => ?_⟩
  · obtain ⟨n, v, z⟩ := C.all y a e
    obtain ⟨o, ho, _⟩ := id z
    exact ⟨u.free a o ho n (by simp), v, cell n z⟩
  · obtain ⟨a, ha, hv⟩ := C.has i y e
    refine ⟨a, ha, fun v ev => ?_⟩
    obtain ⟨x, r, z⟩ := hv v ev
    exact ⟨x, r, cell (C.all y a ha).1 z⟩
section
variable {X : Cx} {CX : CXT} {k j i : Nat} {f : Addr} {F : LF} {fr : List Str} {sp : LSp} {E : L2.St → XK} {x : Str} {p pos : Pos} {ws : List (Option V)}
/-- x(), x a name that holds the lambda; the cells are known from the frame's entry on -/
theorem pe_lcall (Fn : LOk X.prog X.w X.K X.mg X.base CX k f F fr sp) (C : CellsAt F.cl fr ws X.s_0.heap X.H_0) (hex : X.ex = []) (hr : Room k X.A) (hgd : X.A.guards = some []) (hx : ∀ σ, PassesAt CX X σ (E σ))
    (hN : X.N[i]? = some x) (hv : Vis X.env.scope x) (hd : (x == ("__debug__" : Str)) = false := by decide) (hcd : (x == ("__classdict__" : Str)) = false := by decide) :
    PE X (.Call (.Name x p) [] [] pos) (fun σ H Q => σ[i]? = some (some (.ref f)) ∧ H f = some (LamO f F) ∧ H F.c = some (CodeO F.c F.qual) ∧ sp ws H Q (E σ)) := by
  refine ⟨fun pins s σ H Q I h => ?_⟩
  obtain ⟨hs, hf, hc, q⟩ := h
  refine wpAny_Call_Name_kw (thn ((pe_var (pos := p) hN hv hd hcd).run pins s σ H (fun v H1 => v = .ref f ∧ H1 = H) I ⟨.ref f, hs, rfl, rfl⟩) fun u s1 ⟨v, H1, I1, r1, e1, e2⟩ => ?_)
  subst e1
  subst e2
  cases (show u = Value.ref f from r1)
  obtain ⟨⟨pm, ct, at_⟩, _, _⟩ := I1.hok f _ hf
  refine PySem.W.callWith_F0 (first := []) ⟨_, _, _, _, at_⟩ ?_
  have C1 : CellsAt F.cl fr ws s1.heap H1 := cells_on (fs := X.fs) C (by
    have u := I1.base
    rw [hex] at u
    exact u)
  exact wpAny_call (codeAny_mono (Fn X.A X.stack s1 H1 ws Q (E σ) hgd hr I1.env0 hf hc C1 q) fun rs s' hq => by
    match rs, hq with
    | .error e', hq => exact hx σ pins H1 s1 e' s' I1 hq
    | .ok (.ret u), hq => exact I1.after hq
    | .ok .next, hq => exact hq.elim
    | .ok .brk, hq => exact hq.elim
    | .ok .cont, hq => exact hq.elim)
end
/-! ### a def that gets a lambda, called where the cells are -/
/-- the promise of the def at g of a call with the lambda F at f -/
def TOk (P : Program) (w : World) (K : PySem.W.Frag) (mg : Str → Option Value) (base : Heap) (CX : CXT) (k : Nat) (g f : Addr) (F : LF) (fr : List Str) (sp : LSp) : Prop :=
  ∀ (A : Around) (outer : List Env) (s : Shared) (H : Hp) (ws : List (Option V)) (Q : VK) (E : XK), A.guards = some [] → Room k A →
    Env0 P w K mg base A outer s H → H f = some (LamO f F) → H F.c = some (CodeO F.c F.qual) → CellsAt F.cl fr ws s.heap H → sp ws H Q E →
    codeAny (model P w) A (.call (.ref g) ⟨[.ref f], []⟩) (CR CX outer P w H s Q E) s
section
variable {P : Program} {w : World} {K : PySem.W.Frag} {mg : Str → Option Value} {base : Heap} {CX : CXT} {k : Nat} {g f : Addr} {F : LF} {fd : FuncData} {fr : List Str} {sp : LSp}
variable {x qual : Str} {params : Arguments} {body : List Stmt} {scope : Scope} {N : List Str} {y : Str} {kws : List (Str × V)}
theorem tok_of (D : FunD K x qual params body scope [] kws g fd) (S : FnScope N [y] scope)
    (hb : ∀ (s : Shared) (us : List Value), us.length = 1 → BindsTo s fd ⟨us, []⟩ (List.zip [y] us))
    (hbody : ∀ (cdv : Value) (A : Around) (outer : List Env) (s : Shared) (H : Hp) (ws : List (Option V)) (Q : VK) (E : XK), A.guards = some [] → Room k (A.deeper (envOfC qual scope s.heap.objs.size g cdv)) →
      H f = some (LamO f F) → H F.c = some (CodeO F.c F.qual) → CellsAt F.cl fr ws s.heap H → sp ws H Q E →
      ∃ t, PSs (cxOf CX P w K mg base N qual scope g cdv A outer s H E) body t ∧ t { nx := fun _ H' => Q .non H', rt := Q } (start N [.ref f]) H) : TOk P w K mg base CX (k + 1) g f F fr sp := by
  obtain ⟨⟨oc, od, dV, kV, doc, pm, an, cdv, ct, osl, rfl, lk, hcd, _⟩, _⟩ := D
  intro A outer s H ws Q E hg hr e0 hf hc C q
  exact run_ofS (us := [.ref f]) (vs := [.ref f]) lk hcd S hr e0 (hb s [.ref f] rfl) (.cons rfl .nil) rfl fun hr' => hbody cdv A outer s H ws Q E hg hr' hf hc C q
end
section
variable {X : Cx} {CX : CXT} {k : Nat} {g : Addr} {E : XK} {x : Str} {p pos : Pos} {e : Expr} {t : TA} {I0 : Type}
/-- x(e), e a lambda of a family -/
theorem pe_tcall {fam : I0 → Addr → LF} {fr : I0 → List Str} {js : I0 → List Nat} {sp : I0 → LSp} (Fn : ∀ i f c', TOk X.prog X.w X.K X.mg X.base CX k g f (fam i c') (fr i) (sp i)) (cp : ∀ i c', X.Ok → Caps X (fam i c').cl (fr i) (js i)) (hr : Room k X.A) (hgd : X.A.guards = some []) (hg : Gl X x)
    (hm : X.mg x = some (.ref g)) (hk : PySem.W.keepIn X.K (.ref g) = true) (hx : Passes CX X E) (ha : PA X [e] t) (hdb : (x == ("__debug__" : Str)) = false := by decide) (he : starEach [e] X.env = (false, eval e X.env) :: starEach [] X.env := by rfl)
    (hpl : (backTo pos (starEach [] X.env)).any (·.1) = false := by rfl) :
    PE X (.Call (.Name x p) [e] [] pos) (fun σ H Q => t σ H fun vs H1 => ∃ i f c', vs = [.ref f] ∧ H1 f = some (LamO f (fam i c')) ∧ H1 (fam i c').c = some (CodeO (fam i c').c (fam i c').qual) ∧ sp i ((js i).map (slotAt σ)) H1 Q E) := by
  refine ⟨fun pins s σ H Q I h => wpAny_Call_Name_kw (ld_glob I hg hm (PySem.W.callWith_K (h₀ := X.base) I.ok.mod.kin hk (thn (ha.run pos pins s σ H _ I h) fun us s1 z => ?_) he hpl) hdb)⟩
  obtain ⟨vs, H1, I1, r, i, f, c', rfl, hf, hc, q⟩ := z
  match us, r with
  | [u], .cons ru .nil =>
    cases (show u = Value.ref f from ru)
    refine ⟨I1.kIn, wpAny_call (codeAny_mono (Fn i f c' X.A X.stack s1 H1 _ Q E hgd hr I1.env0 hf hc (cells_of I1 (cp i c' I1.ok)) q) fun rs s' hq => ?_)⟩
    match rs, hq with
    | .error e', hq => exact hx pins σ H1 s1 e' s' I1 hq
    | .ok (.ret u), hq => exact I1.after hq
    | .ok .next, hq => exact hq.elim
    | .ok .brk, hq => exact hq.elim
    | .ok .cont, hq => exact hq.elim
end
end Ver

/-! Methods called by names; a try with two clauses, the first one with a name; a law's end with the law's own table. -/
namespace Ver
open PySem PySem.Spec PyProof.Rows L2
/-! ### by names -/
/-- f(e, .., k = v, ..), no defaults -/
theorem kbN {K : PySem.W.Frag} {x qual : Str} {params : Arguments} {body : List Stmt} {scope : Scope} {f : Addr} {fd : FuncData} {ps : List Str} (F : FunD K x qual params body scope [] [] f fd) (n : Nat) (ks : List Str) (g : {α : Type} → List α → List α → List α)
    (hrel : ∀ {vs zs : List V} {us ws : List Value}, Vals vs us → Vals zs ws → Vals (g vs zs) (g us ws))
    (h : ∀ (kV doc pm : Value) (an : Option Addr) (cdv ct : Value) (us ws : List Value), us.length = n → ws.length = ks.length → bindArgs (PySem.W.fnOf x qual params body scope .none kV doc pm an cdv ct) ⟨us, ks.zip ws⟩ = pure (ps.zip (g us ws))) :
    KBn K fd ps n ks (fun us ws => g us ws) (fun vs zs => g vs zs) := by
  obtain ⟨oc, od, dV, kV, doc, pm, an, cdv, ct, osl, rfl, lk, hcd, hD, hK⟩ := F.ex
  rcases hD with ⟨_, rfl⟩ | ⟨e, _⟩
  · exact ⟨fun s us ws X l1 l2 => BindsTo.of_looks fun M => by
      rw [h kV doc pm an cdv ct us ws l1 l2]
      exact .of_pure rfl, hrel⟩
  · exact absurd rfl e
/-- a promise of calls with so many places and these names -/
def FnK (P : Program) (w : World) (K : PySem.W.Frag) (mg : Str → Option Value) (base : Heap) (CX : CXT) (k : Nat) (f : Addr) (n : Nat) (ks : List Str) (gV : List V → List V → List V) (sp : Sp) : Prop :=
  ∀ (A : Around) (outer : List Env) (s : Shared) (H : Hp) (us ws : List Value) (vs zs : List V) (Q : VK) (E : XK), A.guards = some [] → Room k A → Env0 P w K mg base A outer s H →
    Vals vs us → us.length = n → Vals zs ws → ws.length = ks.length → sp (gV vs zs) H Q E → codeAny (model P w) A (.call (.ref f) ⟨us, ks.zip ws⟩) (CR CX outer P w H s Q E) s
section
variable {P : Program} {w : World} {K : PySem.W.Frag} {mg : Str → Option Value} {base : Heap} {CX : CXT} {k n : Nat} {f : Addr} {fd : FuncData} {sp : Sp}
variable {x qual : Str} {params : Arguments} {body : List Stmt} {scope : Scope} {N ps ks : List Str} {kws : List (Str × V)} {g : List Value → List Value → List Value} {gV : List V → List V → List V}
theorem okK (F : FunD K x qual params body scope [] kws f fd) (S : FnScope N ps scope) (hb : KBn K fd ps n ks g gV) (len : ∀ vs H Q E, sp vs H Q E → vs.length = ps.length)
    (hbody : ∀ (cdv : Value) (A : Around) (outer : List Env) (s : Shared) (H : Hp) (vs : List V) (Q : VK) (E : XK), A.guards = some [] → Room k (A.deeper (envOfC qual scope s.heap.objs.size f cdv)) → sp vs H Q E →
      ∃ t, PSs (cxOf CX P w K mg base N qual scope f cdv A outer s H E) body t ∧ t { nx := fun _ H' => Q .non H', rt := Q } (start N vs) H) : FnK P w K mg base CX (k + 1) f n ks gV sp := by
  obtain ⟨⟨oc, od, dV, kV, doc, pm, an, cdv, ct, osl, rfl, lk, hcd, _⟩, _⟩ := F
  intro A outer s H us ws vs zs Q E hg hr e0 r ln rz lz hsp
  have KX : K.In s.heap := e0.mod.kin.keeps fun b o e => (e0.bs b o e).1
  refine StX.run_bnd (G := fun xs H2 => xs = gV vs zs ∧ H2 = H) lk hcd S hr e0 (fun A' Ex Q' q => ?_) fun s2 H2 xs z hr' => ?_
  · exact hb.to s us ws KX ln lz _ A' Ex Q' (q s H _ _ e0 Un.refl rfl (fun _ _ z => z) (hb.rel r rz) (len _ _ _ _ hsp) ⟨rfl, rfl⟩)
  · obtain ⟨rfl, rfl⟩ := z
    exact hbody cdv A outer s2 H2 _ Q E hg hr' hsp
end
section
variable {X : Cx} {CX : CXT} {k : Nat} {f : Addr} {sp : Sp} {E : XK} {m : Str} {pos apos : Pos} {o : Expr} {ta : TE} {kws : List Keyword} {ks : List Str} {gV : List V → List V → List V} {tk : TA}
/-- o.m(k = e, ..) -/
def tMethK (K : PySem.W.Frag) (m : Str) (f : Addr) (n : Nat) (gV : List V → List V → List V) (sp : Sp) (E : XK) (ta : TE) (t : TA) : TE := fun σ H Q => ta σ H fun x H1 => ∃ a C dx fs, x = .ref a ∧ H1 a = some (.ins C dx fs) ∧ Cls K C ∧ Meth K C m f ∧ fs.lookup m = none ∧
  t σ H1 fun zs H2 => zs.length = n ∧ sp (gV [.ref a] zs) H2 Q E
theorem pe_methK {pl : Sem Bool} (he : PE X o ta) (hk : PySem.W.keepIn X.K (.ref f) = true) (F : FnK X.prog X.w X.K X.mg X.base CX k f 1 ks gV sp) (hr : Room k X.A) (hgd : X.A.guards = some []) (hx : Passes CX X E) (ha : PK X kws tk)
    (hall : (backToKw pos (keywordEach kws X.env)).all (·.1.isSome) = true := by rfl) (hks : (backToKw pos (keywordEach kws X.env)).filterMap (·.1) = ks := by rfl)
    (hpl : ((backTo pos (starEach [] X.env)).any (·.1) || (backToKw pos (keywordEach kws X.env)).any (·.1.isNone)) = false := by rfl)
    (ht : eval (.Call (.Attribute o m apos) [] kws pos) X.env = (do
      let ov ← eval o X.env
      standAt apos.atName
      let (g, first) ← holding [ov] (getMethod ov m pl)
      callWith pos g first (backTo pos (starEach [] X.env)) (backToKw pos (keywordEach kws X.env))) := by rfl) :
    PE X (.Call (.Attribute o m apos) [] kws pos) (tMethK X.K m f ks.length gV sp E ta tk) := by
  refine ⟨fun pins s σ H Q I h => PySem.W.methodCall_KW (pl := pl) (thn (he.run pins s σ H _ I h) fun u s1 z => ?_) ht⟩
  obtain ⟨x, H1, I1, rx, a, C, dx, fs, rfl, ea, c, hm, l, q⟩ := z
  cases (show u = Value.ref a from rx)
  refine getmeth_ok I1 ea c hm l ?_
  refine PySem.W.callWith_KW0 (first := [.ref a]) (h₀ := X.base) I.ok.mod.kin hk hall ?_ hpl
  refine thn (ha.run pos pins s1 σ H1 _ I1 q) fun ws s2 ⟨zs, H2, I2, rz, lz, q2⟩ => ⟨I2.kIn, ?_⟩
  rw [hks]
  exact wpAny_call (codeAny_mono (F X.A X.stack s2 H2 [.ref a] ws [.ref a] zs Q E hgd hr I2.env0 (.cons rfl .nil) rfl rz (rz.length.symm.trans lz) q2) fun rs s' hq => by
    match rs, hq with
    | .error e', hq => exact hx pins σ H2 s2 e' s' I2 hq
    | .ok (.ret u), hq => exact I2.after hq
    | .ok .next, hq => exact hq.elim
    | .ok .brk, hq => exact hq.elim
    | .ok .cont, hq => exact hq.elim)
end
/-! ### a star parameter, errors let out -/
theorem ub_back {fs : List Addr} {H H' : Hp} {h B h' : Heap} {o : Obj} {u : HO} (n0 : H h.objs.size = none) (x : UB fs (upd H h.objs.size u) H' (h.push o) B h') : UB fs H H' h B h' := by
  have lt : ∀ {b : Addr} {v : Obj}, h.get? b = some v → b ≠ h.objs.size := fun e => Nat.ne_of_lt (Heap.lt_size e)
  have up : ∀ {b : Addr} {v : Obj}, h.get? b = some v → (h.push o).get? b = some v := fun e => Heap.get?_push_of_some _ e
  exact {
    keep := fun b v e n nf => x.keep b v (up e) ((upd_ne (lt e)).trans n) nf
    slot := fun b v e m => x.slot b v (up e) m
    free := fun b v e n => x.free b v (up e) ((upd_ne (lt e)).trans n)
    there := fun b v e nf => x.there b v (up e) nf
    tups := fun b xs e => x.tups b xs ((upd_ne (ne_of_none e n0)).trans e)
    frzs := fun b v xs e => x.frzs b v xs ((upd_ne (ne_of_none e n0)).trans e)
    tbls := fun b ps e => x.tbls b ps ((upd_ne (ne_of_none e n0)).trans e) }
theorem okStarX {P : Program} {w : World} {K : PySem.W.Frag} {mg : Str → Option Value} {base : Heap} {k : Nat} {f : Addr} {fd : FuncData} {sp : Sp} {x qual pr : Str} {params : Arguments} {body : List Stmt} {scope : Scope} {N ps : List Str} {kws : List (Str × V)}
    (F : FunD K x qual params body scope [] kws f fd) (S : FnScope N (ps ++ [pr]) scope)
    (hb : ∀ (kV doc pm : Value) (an : Option Addr) (cdv ct : Value) (us rest : List Value), us.length = ps.length → bindArgs (PySem.W.fnOf x qual params body scope .none kV doc pm an cdv ct) ⟨us ++ rest, []⟩ = (newTuple rest >>= fun t => pure (ps.zip us ++ [(pr, t)])))
    (hbody : ∀ (cdv : Value) (A : Around) (outer : List Env) (s : Shared) (H : Hp) (vs : List V) (Q : VK) (E : XK), A.guards = some [] → Room k (A.deeper (envOfC qual scope s.heap.objs.size f cdv)) → sp vs H Q E →
      ∃ t, PSs (cxOf (L2.CX P w) P w K mg base N qual scope f cdv A outer s H E) body t ∧ t { nx := fun _ H' => Q .non H', rt := Q } (start N vs) H) :
    FnG P w K mg base (L2.CX P w) (k + 1) f (fun vs H Q E => ∃ ws rest, vs = ws ++ rest ∧ ws.length = ps.length ∧ rest.length ≤ sizeLine ∧ ∀ p, H p = none → sp (ws ++ [V.ref p]) (upd H p (.tup rest)) Q E) := by
  obtain ⟨⟨oc, od, dV, kV, doc, pm, an, cdv, ct, osl, rfl, lk, hcd, hD, _⟩, _⟩ := F
  have eD : dV = .none := by
    rcases hD with ⟨_, e⟩ | ⟨e, _⟩
    · exact e
    · exact absurd rfl e
  subst eD
  intro A outer s H us vs Q E hg hr e0 r hsp
  obtain ⟨ws, rest, rfl, hl, hz, hq⟩ := hsp
  obtain ⟨u1, u2, rfl, r1, r2⟩ := StX.vals_split r
  have n0 : H s.heap.objs.size = none := e0.hok.fresh (Nat.le_refl _)
  have l1 : u1.length = ps.length := r1.length.symm.trans hl
  refine StX.run_bnd lk hcd S hr e0 (G := fun xs H2 => ∃ p, H p = none ∧ xs = ws ++ [V.ref p] ∧ H2 = upd H p (.tup rest)) (fun A' Ex Q' h => ?_) fun s2 H2 xs g hr' => ?_
  · rw [hb _ _ _ _ _ _ u1 u2 l1]
    have new : ObjOk P w (upd H s.heap.objs.size (.tup rest)) (s.heap.push ({ cls := .type "tuple", data := .seq u2.toArray } : Obj)) s.heap.objs.size (.tup rest) := ⟨hz, u2, r2, ⟨_, Heap.get?_push_size _ rfl, rfl, _, rfl⟩⟩
    have z := h _ _ (ws ++ [V.ref s.heap.objs.size]) (u1 ++ [Value.ref s.heap.objs.size]) (StX.env0_laid e0 new) (StX.un_laid (fs := frs outer) (s := s) n0) rfl (fun e s' ⟨a, B, H', cls, d, z1, z2, z3, z4, z5⟩ => ⟨a, B, H', cls, d, z1, z2, z3, ub_back n0 z4, z5⟩) (r1.append (.cons rfl .nil))
      (by rw [List.length_append, List.length_append, hl] <;> rfl) ⟨_, n0, rfl, rfl⟩
    rw [List.zip_append l1.symm] at z
    exact wpAny_bind (wpAny_newTuple (wpAny_pure z) (by rw [← r2.length]; exact hz))
  · obtain ⟨p, hp, rfl, rfl⟩ := g
    obtain ⟨t, ht, q⟩ := hbody cdv A outer s2 _ _ Q E hg hr' (hq p hp)
    exact ⟨t, ht, q⟩
/-! ### two clauses -/
section
variable {X : Cx} {x x2 n : Str} {c c2 : Value} {i : Nat} {body : List Stmt} {w1 w2 : List Stmt} {b1 b2 : Stmt} {q1 q2 r1 r2 pos : Pos} {tb : WX → TS} {t1 t2 : Addr → Value → Option Addr → TS} {Wout : WX}
theorem ps_try_as2 (stk : X.stack = X.env :: X.outer) (hf : X.env.frame = some X.env.locals) (hN : X.N.Nodup) (hi : X.N[i]? = some n) (loc : X.env.kindOf n = some .local) (hc : Names X x c) (hc2 : Names X x2 c2) (tk : Takes X Wout)
    (hb : ∀ (W : WX) (pn : List (Addr × Obj)) (xe : Value → Shared → Prop), Takes (X.tr pn xe) W → PassesOwn (model X.prog X.w) X.A X.env xe → PSs (X.tr pn xe) body (tb W))
    (s1 : ∀ (a : Addr) (oe : Obj) (cls : Value) (d : Option Addr) (pn : List (Addr × Obj)), Zc cls d oe → (∃ vs, oe.data = .fields vs) → PSs (X.suite a ((a, oe) :: pn)) (b1 :: w1) (t1 a cls d))
    (s2 : ∀ (a : Addr) (oe : Obj) (cls : Value) (d : Option Addr) (pn : List (Addr × Obj)), Zc cls d oe → (∃ vs, oe.data = .fields vs) → PSs (X.suite a ((a, oe) :: pn)) (b2 :: w2) (t2 a cls d)) :
    PS X (.Try body [.ExceptHandler (some (.Name x q1)) (some n) (b1 :: w1) r1, .ExceptHandler (some (.Name x2 q2)) none (b2 :: w2) r2] [] [] pos) (fun D σ H => tb (wAs X.K c i t1 (wOnly X.K c2 t2 Wout D) D) D σ H) := by
  refine ⟨fun pins s σ H D I h => ?_⟩
  have ok := I.ok
  have frm : X.A.frames = some (X.env :: X.outer) := ok.frames.trans (congrArg some stk)
  refine wpAny_Try_except (wpAny_mono ((hb _ (X.pn ++ pins) (fun e s₁ => wpAny (model X.prog X.w) X.A (noteFrame e X.env) (fun _ s₂ => wpAny (model X.prog X.w) X.A (setFlight e none) (fun _ s₃ =>
    wpAny (model X.prog X.w) X.A (handleBy e X.env [.ExceptHandler (some (.Name x q1)) (some n) (b1 :: w1) r1, .ExceptHandler (some (.Name x2 q2)) none (b2 :: w2) r2])
      (SP X pins D) X.xe s₃) X.xe s₂) X.xe s₁) (fun u s' xx => ?_) PassesOwn.looking).run [] s σ H D (I.toTry _) h) (fun f sE z => ?_) fun _ _ z => z)
  · obtain ⟨a, B, sI, pins', σ', H', cls, d, rfl, Jt, nb, up, sky, na, os, ag, b, m1, yes, no⟩ := xx
    have J : Inv X pins σ' H' sI := Jt.ofTry ok
    rw [stk] at sky
    show wpAny (model X.prog X.w) X.A (noteFrame (.ref a) X.env) _ _ _
    refine Sky.land Zc.steady frm hf sky fun h3 fl3 up3 => ?_
    have J3 : Inv X pins σ' H' { s' with heap := h3 } := J.landed nb fl3.1 (up.trans up3) os ag
    obtain ⟨o3, v3, e3, z3, d3⟩ := fl3.there
    have off : a ∉ frs (X.env :: X.outer) := fun hm => by
      obtain ⟨_, o', e', nf⟩ := fl3.2.2.1.mem hm
      rw [e3] at e'
      cases e'
      exact nf _ d3
    have offL : a ≠ X.env.locals := fun z => off (List.mem_filterMap.mpr ⟨X.env, List.mem_cons_self, by rw [hf, z]⟩)
    have offF : a ∉ X.fs := fun hm => by
      obtain ⟨e, he, q⟩ := List.mem_filterMap.mp hm
      exact off (List.mem_filterMap.mpr ⟨e, List.mem_cons_of_mem _ he, q⟩)
    have S3 := J3.suite e3 d3 na offL offF
    have read : ∀ {y : Str} {cy : Value} {np : Pos} {Q E : Value → Shared → Prop}, Names X y cy → Q cy { s' with heap := h3 } →
        wpAny (model X.prog X.w) (X.A.mark (some (.ref a))) (eval (.Name y np) X.env) Q E { s' with heap := h3 } := fun {y cy np Q E} hy q => by
      obtain ⟨hg, db, hm | ⟨hm, hv, hn⟩⟩ := hy
      · exact ld_glob (X := X.suite a ((a, o3) :: (X.pn ++ pins))) S3 hg hm q db
      · exact ld_blt (X := X.suite a ((a, o3) :: (X.pn ++ pins))) S3 hg hm hv q hn db
    have ty : PySem.W.Looks (model X.prog X.w) h3 (typeOf (.ref a)) cls := fun A Q E s k q =>
      wpAny_typeOf_ref (k _ _ e3) (by rw [z3.1]; exact q)
    refine wpAny_handleBy_cons (codeAny_handlers_test (read hc ((PySem.W.exm_one (M := model X.prog X.w) J3.kIn ty m1).here ?_))) (by intro q; cases q)
    cases b with
    | true =>
      refine codeAny_handlers_suite_as (HandSPX.lands_againZ fl3 fun h4 fl4 up4 => ?_)
      have J4 : Inv X pins σ' H' { s' with heap := h4 } := J.landed nb fl4.1 ((up.trans up3).trans up4) os ag
      obtain ⟨o4, v4, e4, z4, d4⟩ := fl4.there
      refine store_ok (X := X.suite a ((a, o4) :: (X.pn ++ pins))) (v := .ref a) (J4.suite e4 d4 na offL offF) hN hi (.inl loc) rfl (fun s5 S5 => ?_) (.inr loc)
      refine wpAny_mono ((s1 a o4 cls d (X.pn ++ pins) z4 ⟨_, d4⟩).run [] s5 _ H' _ S5 (yes rfl a na)) (fun f s6 z => ?_) fun _ _ z => z.elim
      have fin : ∀ {σ6 : L2.St} {H6 : Hp} {Q : Shared → Prop}, Inv (X.suite a ((a, o4) :: (X.pn ++ pins))) [] σ6 H6 s6 → (∀ s7, Inv X pins (σ6.set i none) H6 s7 → Q s7) →
          wpAny (model X.prog X.w) X.A (do bindName X.env n .none; unbindBehindTheSuite X.env n r1) (fun _ s7 => Q s7) X.xe s6 :=
        fun {σ6 H6 Q} S6 hq => gone_ok (S6.unsuite ok) hN hi loc hq
      match f, z with
      | .next, ⟨_, _, S6, q6⟩ => exact fin S6 fun s7 J7 => ⟨_, _, J7, q6⟩
      | .brk, ⟨_, _, S6, q6⟩ => exact fin S6 fun s7 J7 => ⟨_, _, J7, q6⟩
      | .cont, ⟨_, _, S6, q6⟩ => exact fin S6 fun s7 J7 => ⟨_, _, J7, q6⟩
      | .ret u, ⟨_, _, _, S6, r6, q6⟩ => exact fin S6 fun s7 J7 => ⟨_, _, _, J7, r6, q6⟩
    | false =>
      obtain ⟨b, m2, yes2, no2⟩ := no rfl
      show wpAny _ X.A (handleBy (.ref a) X.env [.ExceptHandler (some (.Name x2 q2)) none (b2 :: w2) r2]) _ _ _
      refine wpAny_handleBy_cons (codeAny_handlers_test (read hc2 ((PySem.W.exm_one (M := model X.prog X.w) J3.kIn ty m2).here ?_))) (by intro q; cases q)
      cases b with
      | true =>
        refine codeAny_handlers_suite (HandSPX.lands_againZ fl3 fun h4 fl4 up4 => ?_)
        have J4 : Inv X pins σ' H' { s' with heap := h4 } := J.landed nb fl4.1 ((up.trans up3).trans up4) os ag
        obtain ⟨o4, v4, e4, z4, d4⟩ := fl4.there
        refine wpAny_mono ((s2 a o4 cls d (X.pn ++ pins) z4 ⟨_, d4⟩).run [] _ _ H' _ (J4.suite e4 d4 na offL offF) (yes2 rfl a na)) (fun f s6 z => ?_) fun _ _ z => z.elim
        match f, z with
        | .next, ⟨_, _, S6, q6⟩ => exact ⟨_, _, S6.unsuite ok, q6⟩
        | .brk, ⟨_, _, S6, q6⟩ => exact ⟨_, _, S6.unsuite ok, q6⟩
        | .cont, ⟨_, _, S6, q6⟩ => exact ⟨_, _, S6.unsuite ok, q6⟩
        | .ret u, ⟨_, _, _, S6, r6, q6⟩ => exact ⟨_, _, _, S6.unsuite ok, r6, q6⟩
      | false =>
        show wpAny _ X.A (handleBy (.ref a) X.env []) _ _ _
        obtain ⟨_, _, _, oe, vs, T, oT, ts', he, hz, hd, h1, hr⟩ := id fl3
        refine wpAny_handleBy_nil ?_
        unfold PySem.passOn
        refine wpAny_bind (wpAny_field he hd h1 ?_)
        have nn : ¬ ((Value.ref T == Value.none) = true) := by simp
        rw [if_neg nn]
        have out : wpAny (model X.prog X.w) X.A (setFlight (.ref a) X.env.frame)
            (fun _ s4 => wpAny (model X.prog X.w) X.A (throw (.ref a) : Sem Flow) (SP X pins D) X.xe s4) X.xe { s' with heap := h3 } := by
          rw [hf]
          refine HandSPX.setFlight_upZ fl3 fun h4 hh4 up4 => wpAny_throw (tk _ _ ?_)
          rw [← stk] at hh4
          exact ⟨a, B, sI, pins, σ', H', cls, d, rfl, J, nb, (up.trans up3).trans up4, .inr (.inr hh4), na, os, ag, no2 rfl⟩
        first
          | exact wpAny_bind (wpAny_pure (wpAny_bind out))
          | exact wpAny_bind out
  · match f, z with
    | .next, ⟨_, _, J, q⟩ => exact wpAny_execs_nil ⟨_, _, J.ofTry ok, q⟩
    | .brk, ⟨_, _, J, q⟩ => exact ⟨_, _, J.ofTry ok, q⟩
    | .cont, ⟨_, _, J, q⟩ => exact ⟨_, _, J.ofTry ok, q⟩
    | .ret u, ⟨_, _, _, J, r, q⟩ => exact ⟨_, _, _, J.ofTry ok, r, q⟩
end
end Ver

namespace Ver
open PySem PySem.Spec PyProof.Rows L2 LamX
section
variable {P : Program} {w : World} {K : PySem.W.Frag} {mg mb : Str → Option Value} {k : Nat} {fa a c T : Addr} {sp : Sp} {s₁ : Shared} {vs : List Value} {ns : List Int}
/-- an empty table -/
abbrev noTab : Obj := { cls := .none, data := .fields #[] }
/-- the law's call over one abstract heap, the law's own table in it -/
theorem lawTOn {H : Hp} (KX : K.In s₁.heap) (hns : s₁.heap.Ns mainGlobals mg) (hb : s₁.heap.Ns builtinsNs mb) (hbb : ∀ x : Str, x ≠ "__name__" → mb x = bootBuiltins x) (hlim : s₁.heap.NoLimit) (hg : s₁.gens = #[])
    (tab : s₁.heap.get? T = some noTab) (nT : K.lookup T = none) (hC : PySem.W.CodeHd s₁.heap c T)
    (hbm : ∃ (m : Addr) (o : Obj), mg "__builtins__" = some (.ref m) ∧ m ≠ builtinsNs ∧ s₁.heap.get? m = some o ∧ o.cls = .type "module" ∧ o.dict = some builtinsNs ∧ o.data = .plain)
    (ha : s₁.heap.get? a = some { cls := .type "list", data := .seq vs.toArray }) (hr : Room k callerA)
    (F : ∀ base : Heap, K.In base → base.Ns mainGlobals mg → TabB base mg c T → FnG P w K mg base CX0 k fa sp)
    (HT : H T = some (.tbl #[])) (HA : ∀ b, b ≠ T → H b = none ∨ (b = a ∧ ∃ o xs, H b = some (.frz o (.lst xs))))
    (hsp : sp [.ref a] H (fun v _ => v = .bl true) fun _ _ _ => False) (hok : HOk P w H s₁.heap) (hK : H a ≠ none → K.lookup a = none) :
    codeAny (model P w) callerA (.call (.ref fa) ⟨[.ref a], []⟩) (fun r s' => r = .ok (.ret (.bool true)) ∧ OldK s₁.heap s'.heap ∧ s'.os = s₁.os ∧ AllBare s'.gens) s₁ := by
  have free : ∀ b o, s₁.heap.get? b = some o → (∀ w n, o.data ≠ Data.seq w n) → o.data ≠ .fields #[] → H b = none := fun b o e n1 n2 => by
    by_cases z : b = T
    · rw [z, tab] at e
      cases e
      exact absurd rfl n2
    · rcases HA b z with h | ⟨h, _⟩
      · exact h
      · rw [h, ha] at e
        cases e
        exact absurd rfl (n1 _ _)
  have names : ∀ b m, s₁.heap.Ns b m → (hidT s₁.heap H).Ns b m := fun b m ⟨o, es, ep, e, d, r⟩ =>
    ⟨o, es, ep, hidT_get e (free b o e (fun w n z => by rw [d] at z; cases z) fun z => by rw [d] at z; cases z), d, r⟩
  have KB : K.In (hidT s₁.heap H) := fun b o e => hidT_get (KX b o e) (by
    by_cases z : b = T
    · rw [z, nT] at e
      cases e
    · rcases HA b z with h | ⟨h, o2, xs, h2⟩
      · exact h
      · rw [h] at e h2
        rw [hK (by rw [h2]; simp)] at e
        cases e)
  have md : Mod K mg (hidT s₁.heap H) := ⟨KB, names _ _ hns, ⟨mb, names _ _ hb, hbb⟩, by obtain ⟨mc, h1, h2⟩ := hlim; exact ⟨mc, names _ _ h1, h2⟩⟩
  have nof : ∀ b, b ∉ frs ([] : List Env) := fun b z => by cases z
  have TB : TabB (hidT s₁.heap H) mg c T := by
    obtain ⟨o, us, file, tf, flags, tg, inF, text, tt, e1, r1, r2, r3, r⟩ := hC
    obtain ⟨m, om, b1, b2, b3, b4, b5, b6⟩ := hbm
    have nG : m ≠ mainGlobals := fun q => by
      obtain ⟨o', es, ep, e, d, _⟩ := hns
      rw [q, e] at b3
      cases b3
      rw [d] at b6
      cases b6
    have nP : m ≠ T := fun q => by
      rw [q, tab] at b3
      cases b3
      cases b6
    refine ⟨⟨o, us, file, tf, flags, tg, inF, text, tt, hidT_get e1 (free c o e1 (fun w n z => ?_) fun z => ?_), r1, r2, r3, r⟩,
      ⟨m, om, b1, b2, nG, nP, hidT_get b3 (free m om b3 (fun w n z => ?_) fun z => ?_), b4, b5, b6⟩, fun z => ?_⟩
    · rw [r2] at z
      cases z
    · rw [r2] at z
      cases z
      simp at r3
    · rw [b6] at z
      cases z
    · rw [b6] at z
      cases z
    · obtain ⟨o', es, ep, e, d, _⟩ := hns
      rw [z, tab] at e
      cases e
      cases d
  have e0 : Env0 P w K mg (hidT s₁.heap H) callerA [] s₁ H := ⟨rfl, md, fun _ _ e => of_hidT e, Nat.le_of_eq (hidT_size _ _), True.intro, fun b z => absurd z (nof b), hok, .of_eq hg⟩
  refine codeAny_mono (F _ KB (names _ _ hns) TB callerA [] s₁ H [.ref a] [.ref a] _ _ rfl hr e0 (.cons rfl .nil) hsp) fun rs s' z => ?_
  match rs, z with
  | .error _, z => exact z.elim
  | .ok .next, z => exact z.elim
  | .ok .brk, z => exact z.elim
  | .ok .cont, z => exact z.elim
  | .ok (.ret u), z =>
    obtain ⟨v, H', os, bare, un, ok', rv, ev⟩ := z
    cases (show v = V.bl true from ev)
    cases (show u = Value.bool true from rv)
    have stays : ∀ b o, b ≠ T → s₁.heap.get? b = some o → s'.heap.get? b = some o := fun b o nb e => by
      rcases HA b nb with n | ⟨_, ob, xs, n⟩
      · exact un.keep b o e n (nof b) (by simp)
      · have h1 := (hok b _ n).1
        have h2 := (ok' b _ (un.frzs b ob _ n)).1
        rw [e] at h1
        cases h1
        exact h2
    obtain ⟨more, hm⟩ := un.tbls T #[] HT
    have tab2 := ok' T _ hm
    rw [Array.empty_append] at tab2
    refine ⟨rfl, ⟨fun b o e => ?_, fun b o e => ?_⟩, os, bare⟩
    · by_cases z : b = T
      · rw [z] at e ⊢
        rw [tab] at e
        cases e
        exact .inr (.inl ⟨(hC.tab tab).isCodeTable, rfl, #[], more, rfl, by rw [Array.empty_append]; exact tab2⟩)
      · exact .inl (stays b o z e)
    · by_cases z : b = T
      · rw [z]
        exact ⟨_, tab2⟩
      · exact ⟨o, stays b o z e⟩
theorem lawT (KX : K.In s₁.heap) (hns : s₁.heap.Ns mainGlobals mg) (hb : s₁.heap.Ns builtinsNs mb) (hbb : ∀ x : Str, x ≠ "__name__" → mb x = bootBuiltins x) (hlim : s₁.heap.NoLimit) (hg : s₁.gens = #[])
    (tab : s₁.heap.get? T = some noTab) (nT : K.lookup T = none) (hC : PySem.W.CodeHd s₁.heap c T)
    (hbm : ∃ (m : Addr) (o : Obj), mg "__builtins__" = some (.ref m) ∧ m ≠ builtinsNs ∧ s₁.heap.get? m = some o ∧ o.cls = .type "module" ∧ o.dict = some builtinsNs ∧ o.data = .plain)
    (ha : s₁.heap.get? a = some { cls := .type "list", data := .seq vs.toArray }) (hi : IntsAre vs ns) (hl : ns.length ≤ sizeLine) (hr : Room k callerA)
    (F : ∀ base : Heap, K.In base → base.Ns mainGlobals mg → TabB base mg c T → FnG P w K mg base CX0 k fa sp)
    (hsp : ∀ H : Hp, H T = some (.tbl #[]) → SqL K H a (ns.map V.int) → sp [.ref a] H (fun v _ => v = .bl true) fun _ _ _ => False) :
    codeAny (model P w) callerA (.call (.ref fa) ⟨[.ref a], []⟩) (fun r s' => r = .ok (.ret (.bool true)) ∧ OldK s₁.heap s'.heap ∧ s'.os = s₁.os ∧ AllBare s'.gens) s₁ := by
  have rv := vals_ints hi
  have aT : a ≠ T := fun z => by
    rw [z, tab] at ha
    cases ha
  cases ek : K.lookup a with
  | some o =>
    have eo : o = _ := Option.some.inj ((KX a o ek).symm.trans ha)
    let H1 : Hp := fun b => if b = T then some (.tbl #[]) else none
    have on : H1 T = some (.tbl #[]) := if_pos rfl
    have off : ∀ b, b ≠ T → H1 b = none := fun b z => if_neg z
    have S0 : SqL K H1 a (ns.map V.int) := .inr ⟨o, vs.toArray, _, ek, by rw [eo], by rw [eo], by rw [eo], by rw [List.size_toArray, ← rv.length, List.length_map]; exact hl, by simpa using rv⟩
    refine lawTOn (H := H1) KX hns hb hbb hlim hg tab nT hC hbm ha hr F on (fun b z => .inl (off b z)) (hsp _ on S0) (fun b u z => ?_) fun z => absurd (off a aT) z
    by_cases q : b = T
    · rw [q, on] at z
      cases z
      rw [q]
      exact tab
    · rw [off b q] at z
      cases z
  | none =>
    let H1 : Hp := fun b => if b = T then some (.tbl #[]) else if b = a then some (.frz { cls := .type "list", data := .seq vs.toArray } (.lst (ns.map V.int))) else none
    have on : H1 T = some (.tbl #[]) := if_pos rfl
    have at_ : H1 a = some (.frz { cls := .type "list", data := .seq vs.toArray } (.lst (ns.map V.int))) := (if_neg aT).trans (if_pos rfl)
    have off : ∀ b, b ≠ T → b ≠ a → H1 b = none := fun b z z2 => (if_neg z).trans (if_neg z2)
    refine lawTOn (H := H1) KX hns hb hbb hlim hg tab nT hC hbm ha hr F on (fun b z => ?_) (hsp _ on (.inl (.inr ⟨_, at_⟩))) (fun b u z => ?_) fun _ => ek
    · by_cases q : b = a
      · exact .inr ⟨q, _, _, by rw [q]; exact at_⟩
      · exact .inl (off b z q)
    · by_cases q : b = T
      · rw [q, on] at z
        cases z
        rw [q]
        exact tab
      · by_cases q2 : b = a
        · subst q2
          rw [at_] at z
          cases z
          exact ⟨ha, by rw [List.length_map]; exact hl, vs, _, rv, ha⟩
        · rw [off b q q2] at z
          cases z
end
/-- the goal that the head leaves, for a law with lambdas -/
theorem walkT {l : PySem.W.OpenLaw} {n k : Nat} {q : Program} {loose : List Str} {XP : (Str → Option Value) → Heap → Prop} {YP : World → Heap → Prop} {d : DefRec}
    (hn : l.most = some n) (hn2 : n ≤ sizeLine) (hdf : d.params.defaults = []) (hr : Room k callerA)
    (F : ∀ (w : World) (mg : Str → Option Value) (fa : Addr) (h : Heap), YP w h → h.Ns mainGlobals mg → mg d.name = some (.ref fa) → ∃ (K : PySem.W.Frag) (c T : Addr) (sp : Sp), K.In h ∧
      h.get? T = some noTab ∧ K.lookup T = none ∧ PySem.W.CodeHd h c T ∧
      (∀ (H : Hp) (a : Addr) (ns : List Int), ns.length ≤ n → H T = some (.tbl #[]) → SqL K H a (ns.map V.int) → sp [.ref a] H (fun v _ => v = .bl true) fun _ _ _ => False) ∧
      ∀ base : Heap, K.In base → base.Ns mainGlobals mg → TabB base mg c T → FnG l.prog w K mg base CX0 k fa sp) :
    PySem.W.WalkO q loose XP YP l.row.toRowW d [] (fun f vs => PySem.call f vs) :=
  Att.attach_call hn hdf fun w s₀ s₁ mg mb fa o pm cd doc a vs ns G Y ho hd hcd hmg hobj hints hlen hg => by
    obtain ⟨K, c, T, sp, KX, tab, nT, hC, hsp, hF⟩ := F w mg fa _ Y G.T.g hmg
    exact lawT KX G.T.g G.T.b G.T.builtins G.T.nolimit hg tab nT hC G.T.bmain hobj hints (Nat.le_trans hlen hn2) hr hF fun H hT hS => hsp H a ns hlen hT hS
end Ver

/-! The mathematics of the numbers modulo a prime: Euclid's way, trial division. -/
namespace Num
/-- trial division by odd divisors from 3 on, up to the root -/
def oddOk (v : Nat) (n : Nat) : Bool := (List.range n).all fun i => v % (3 + 2 * i) != 0
/-- is_prime's answer, for an int -/
def prB (r : Nat → Nat) (v : Int) : Bool :=
  decide (2 ≤ v) && decide (v ≤ 1000000000) && (if v % 2 = 0 then decide (v = 2) else oddOk v.toNat ((r v.toNat + 1 - 3 + 1) / 2))
/-- what the walk asks of a modulus -/
structure Md (p : Int) : Prop where
  lo : 2 ≤ p
  hi : p ≤ 1000000000
  pr : ∀ n : Int, 0 < n → n < p → Int.gcd n p = 1
theorem gcd_one {p b : Nat} (hb : p < b * b) (h : (List.range b).all (fun d => decide (d < 2) || p % d != 0) = true) (n : Nat) (h0 : 0 < n) (h1 : n < p) : Nat.gcd n p = 1 := by
  have small : ∀ d, 2 ≤ d → d < b → ¬ d ∣ p := fun d h2 h3 hd => by
    have q := List.all_eq_true.mp h d (List.mem_range.mpr h3)
    rw [Bool.or_eq_true] at q
    rcases q with q | q
    · have := of_decide_eq_true q
      omega
    · have e : p % d = 0 := Nat.mod_eq_zero_of_dvd hd
      rw [e] at q
      cases q
  have hg : Nat.gcd n p ∣ p := Nat.gcd_dvd_right n p
  have hn : Nat.gcd n p ∣ n := Nat.gcd_dvd_left n p
  have gpos : 0 < Nat.gcd n p := Nat.gcd_pos_of_pos_left _ h0
  have gle : Nat.gcd n p ≤ n := Nat.le_of_dvd h0 hn
  by_cases g1 : Nat.gcd n p = 1
  · exact g1
  · exfalso
    obtain ⟨m, hm⟩ := hg
    have m2 : 2 ≤ m := by
      cases m with
      | zero => omega
      | succ m =>
        cases m with
        | zero => omega
        | succ m => omega
    have hmd : m ∣ p := ⟨Nat.gcd n p, by rw [Nat.mul_comm]; exact hm⟩
    by_cases c : Nat.gcd n p < b
    · exact small _ (by omega) c (Nat.gcd_dvd_right n p)
    · by_cases c2 : m < b
      · exact small m m2 c2 hmd
      · have : b * b ≤ Nat.gcd n p * m := Nat.mul_le_mul (by omega) (by omega)
        omega
theorem md_of (p b : Nat) (h2 : 2 ≤ p) (h9 : p ≤ 1000000000) (hb : p < b * b) (h : (List.range b).all (fun d => decide (d < 2) || p % d != 0) = true) : Md (p : Int) :=
  ⟨by omega, by omega, fun n h0 h1 => by
    have e : n = ((n.toNat : Nat) : Int) := by omega
    rw [e]
    show Nat.gcd _ _ = 1
    exact gcd_one hb h n.toNat (by omega) (by omega)⟩
theorem md2 : Md 2 := md_of 2 2 (by decide) (by decide) (by decide) (by decide)
theorem md3 : Md 3 := md_of 3 2 (by decide) (by decide) (by decide) (by decide)
theorem md5 : Md 5 := md_of 5 3 (by decide) (by decide) (by decide) (by decide)
theorem md7 : Md 7 := md_of 7 3 (by decide) (by decide) (by decide) (by decide)
theorem md101 : Md 101 := md_of 101 11 (by decide) (by decide) (by decide) (by decide)
theorem md1000003 : Md 1000003 := md_of 1000003 1001 (by decide) (by decide) (by decide) (by decide +kernel)

/-! ### Euclid -/
/-- the state of the loop: past and now times the number are rest and left, modulo p -/
structure Eu (p n rest left past now : Int) : Prop where
  l0 : 0 ≤ left
  lp : left < p
  r0 : 0 < rest
  rp : rest ≤ p
  a : p ∣ past * n - rest
  b : p ∣ now * n - left
  g : Int.gcd rest left = 1
theorem Eu.start {p n : Int} (m : Md p) (h0 : 0 < n) (h1 : n < p) : Eu p n p (n % p) 0 1 := by
  have e : n % p = n := Int.emod_eq_of_lt (by omega) h1
  have hlo := m.lo
  refine ⟨by omega, by omega, by omega, Int.le_refl _, ⟨-1, by omega⟩, ⟨0, by omega⟩, ?_⟩
  rw [e, Int.gcd_comm]
  exact m.pr n h0 h1
theorem Eu.step {p n rest left past now : Int} (E : Eu p n rest left past now) (h : left ≠ 0) : Eu p n left (rest - rest / left * left) now (past - rest / left * now) := by
  have hl : 0 < left := by have := E.l0; omega
  have e : rest - rest / left * left = rest % left := by
    have := Int.emod_def rest left
    rw [Int.mul_comm] at this
    omega
  rw [e]
  have m0 : 0 ≤ rest % left := Int.emod_nonneg _ h
  have m1 : rest % left < left := Int.emod_lt_of_pos _ hl
  refine ⟨m0, by have := E.lp; omega, hl, by have := E.lp; omega, E.b, ?_, ?_⟩
  · obtain ⟨x, hx⟩ := E.a
    obtain ⟨y, hy⟩ := E.b
    refine ⟨x - rest / left * y, ?_⟩
    rw [← e]
    have h1 : (past - rest / left * now) * n - (rest - rest / left * left) = (past * n - rest) - rest / left * (now * n - left) := by
      rw [Int.sub_mul, Int.mul_sub, Int.mul_assoc]
      omega
    rw [h1, hx, hy, Int.mul_sub]
    congr 1
    rw [← Int.mul_assoc, ← Int.mul_assoc, Int.mul_comm (rest / left) p]
  · rw [Int.gcd_comm]
    have := E.g
    rw [Int.gcd_comm] at this
    rw [← this]
    show Nat.gcd _ _ = Nat.gcd _ _
    have a1 : (rest % left).natAbs = rest.natAbs % left.natAbs := by
      have hr := E.r0
      have q : ((rest.natAbs % left.natAbs : Nat) : Int) = rest % left := by
        rw [Int.natCast_emod]
        rw [Int.natAbs_of_nonneg (by omega), Int.natAbs_of_nonneg (by omega)]
      omega
    rw [a1, ← Nat.gcd_rec, Nat.gcd_comm]
theorem Eu.times {p n rest left past now : Int} (E : Eu p n rest left past now) (h : left ≠ 0) : 0 ≤ rest / left ∧ rest / left ≤ p := by
  have hl : 0 < left := by have := E.l0; omega
  have hr := E.r0
  have hp := E.rp
  refine ⟨Int.ediv_nonneg (by omega) (by omega), ?_⟩
  have : rest / left ≤ rest := Int.ediv_le_self _ (by omega)
  omega
/-- at the end: the inverse -/
theorem Eu.inv {p n rest past now : Int} (m : Md p) (E : Eu p n rest 0 past now) : 0 ≤ past % p ∧ past % p < p ∧ (past % p * n) % p = 1 := by
  have hlo := m.lo
  have r1 : rest = 1 := by
    have g := E.g
    have h0 := E.r0
    rw [Int.gcd_zero_right] at g
    omega
  have hm : (past * n) % p = 1 := by
    obtain ⟨x, hx⟩ := E.a
    have e : past * n = 1 + p * x := by omega
    rw [e, Int.add_mul_emod_self_left]
    exact Int.emod_eq_of_lt (by omega) (by omega)
  refine ⟨Int.emod_nonneg _ (by omega), Int.emod_lt_of_pos _ (by omega), ?_⟩
  rw [Int.mul_emod, Int.emod_emod, ← Int.mul_emod]
  exact hm
/-- what over tells, times what it divided by -/
theorem over_back {p a b i : Int} (ha : 0 ≤ a ∧ a < p) (hi : (i * b) % p = 1 % p) : (a * i % p * b) % p = a := by
  have e : (a * i % p * b) % p = (a * (i * b)) % p := by
    rw [Int.mul_emod, Int.emod_emod, ← Int.mul_emod, Int.mul_assoc]
  rw [e, Int.mul_emod, hi, ← Int.mul_emod, Int.mul_one]
  exact Int.emod_eq_of_lt ha.1 ha.2
end Num

/-! Generators that are taken one item at a time. -/
namespace GW
open PySem PySem.Spec PyProof.Rows L2 GenW
/-- the heap as it stood at the first n addresses -/
def cut (n : Nat) (h : Heap) : Heap := { h with objs := h.objs.extract 0 n }
theorem cut_size {n : Nat} {h : Heap} : (cut n h).objs.size = min n h.objs.size := by
  simp [cut, Array.size_extract]
theorem cut_get {n b : Nat} {h : Heap} (hb : b < n) : (cut n h).get? b = h.get? b := by
  unfold Heap.get? cut
  have e : (h.objs.extract 0 n)[b]? = h.objs[b]? := by
    rw [Array.getElem?_extract, Nat.sub_zero]
    by_cases q : b < h.objs.size
    · rw [if_pos (Nat.lt_min.mpr ⟨hb, q⟩), Nat.zero_add]
    · rw [if_neg (fun z => q (Nat.lt_min.mp z).2)]
      exact (Array.getElem?_eq_none (Nat.le_of_not_lt q)).symm
  rw [e]
theorem cut_lt {n b : Nat} {h : Heap} {o : Obj} (e : (cut n h).get? b = some o) : b < n ∧ h.get? b = some o := by
  have z := Heap.lt_size e
  rw [cut_size] at z
  have hb : b < n := (Nat.lt_min.mp z).1
  rw [cut_get hb] at e
  exact ⟨hb, e⟩
/-- the context at another heap -/
abbrev Fx (X : Cx) (x : Heap → Value → Shared → Prop) (h0 : Heap) : Cx := { X with s_0 := { X.s_0 with heap := h0 }, xe := x h0 }
/-- new objects are forgotten -/
theorem obj_forget {P : Program} {w : World} {H H0 : Hp} {h he : Heap} {a : Addr} {o : HO} (x : ObjOk P w H h a o) (y : ObjOk P w H0 he a o) (q : (∀ kvs, o ≠ .dT kvs) ∨ he.get? a = h.get? a) : ObjOk P w H0 h a o := by
  induction o with
  | lst xs => exact x
  | tup xs => exact x
  | dK kvs => exact x
  | dT kvs =>
    have q : he.get? a = h.get? a := q.elim (fun z => absurd rfl (z kvs)) id
    obtain ⟨z, yy, xs, r, ob, es, ep, e, c⟩ := y
    exact ⟨z, yy, xs, r, ob, es, ep, q ▸ e, c⟩
  | set S n => exact x
  | ins C dx fs =>
    obtain ⟨_, z⟩ := x
    exact ⟨y.1, z⟩
  | own y => exact x
  | xd fs => exact x
  | rng lo hi => exact x
  | frz ob u ih =>
    obtain ⟨e, p⟩ := x
    obtain ⟨e', p'⟩ := y
    exact ⟨e, ih p p' (.inr (e'.trans e.symm))⟩
  | tbl ps => exact x
  | met f y => exact x
  | ext φ => exact x
theorem hok_forget {P : Program} {w : World} {H H0 : Hp} {h he : Heap} (x : HOk P w H h) (k : ∀ b u, H0 b = some u → H b = some u) (nT : ∀ b kvs, H0 b ≠ some (.dT kvs)) (y : HOk P w H0 he) : HOk P w H0 h := fun a o e =>
  obj_forget (x a o (k a o e)) (y a o e) (.inl fun kvs z => nT a kvs (z ▸ e))
/-- the generator sleeps: only the consumer's own objects (at W) and its frames (at Ls) change; the generators in Gk stay as they are -/
structure Slw (W Ls : List Addr) (Gk : Nat → Prop) (s s' : Shared) : Prop where
  os : s'.os = s.os
  bare : AllBare s'.gens
  keep : ∀ b o, b ∉ W → b ∉ Ls → s.heap.get? b = some o → s'.heap.get? b = some o
  wide : ∀ b ∈ W, ∀ o, s.heap.get? b = some o → ∃ o', s'.heap.get? b = some o' ∧ ∀ v, o'.data ≠ .cell v
  fr : ∀ b ∈ Ls, ∀ o, s.heap.get? b = some o → ∃ o', s'.heap.get? b = some o' ∧ ∀ vs, o'.data ≠ .fields vs
  slot : ∀ g x, Gk g → s.gens[g]? = some x → s'.gens[g]? = some x
  gsz : s.gens.size ≤ s'.gens.size
  hsz : s.heap.objs.size ≤ s'.heap.objs.size
/-- what the generator's context bears through all sleeps -/
structure Fm (X : Cx) (W Ls : List Addr) (n0 : Nat) : Prop where
  own : ∀ b ∈ W, b ≠ X.env.locals ∧ ∀ x c, X.env.cells.lookup x = some c → c ≠ b
  nb : ∀ b ∈ W, X.base.get? b = none
  ls : ∀ b ∈ Ls, b ∈ X.fs
  ex : X.ex = []
  nL : n0 ≤ X.env.locals
  nC : ∀ x c, X.env.cells.lookup x = some c → n0 ≤ c
  nT : ∀ b kvs, X.H_0 b ≠ some (.dT kvs)
  hk : ∃ h, HOk X.prog X.w X.H_0 h
theorem pins_at {h : Heap} : ∀ {W : List Addr}, (∀ b ∈ W, ∃ o, h.get? b = some o ∧ ∀ v, o.data ≠ .cell v) → ∃ wp : List (Addr × Obj), wp.map (·.1) = W ∧ ∀ p ∈ wp, h.get? p.1 = some p.2 ∧ ∀ v, p.2.data ≠ .cell v
  | [], _ => ⟨[], rfl, fun p hp => by cases hp⟩
  | b :: W, e => by
    obtain ⟨o, h1, h2⟩ := e b List.mem_cons_self
    obtain ⟨wp, e1, e2⟩ := pins_at fun c hc => e c (List.mem_cons_of_mem _ hc)
    refine ⟨(b, o) :: wp, by rw [List.map_cons, e1], fun p hp => ?_⟩
    rcases List.mem_cons.mp hp with rfl | hp
    · exact ⟨h1, h2⟩
    · exact e2 p hp
theorem in_w {X : Cx} {W : List Addr} {wp ip : List (Addr × Obj)} {σ : L2.St} {H : Hp} {s : Shared} (hw : wp.map (·.1) = W) (I : Inv X (wp ++ ip) σ H s) {b : Addr} (hb : b ∈ W) : ∃ o, s.heap.get? b = some o ∧ H b = none ∧ b ≠ X.env.locals ∧ b ∉ X.fs := by
  rw [← hw] at hb
  obtain ⟨p, hp, rfl⟩ := List.mem_map.mp hb
  obtain ⟨h1, h2, h3, h4, _⟩ := I.pin p (List.mem_append_right _ (List.mem_append_left _ hp))
  exact ⟨_, h1, h2, h3, h4⟩
theorem forget2 {X : Cx} {x : Heap → Value → Shared → Prop} {h0 : Heap} {pins : List (Addr × Obj)} {σ : L2.St} {H : Hp} {s : Shared} (nT : ∀ b kvs, X.H_0 b ≠ some (.dT kvs)) (hk : ∃ h, HOk X.prog X.w X.H_0 h) (I : Inv (Fx X x h0) pins σ H s) (k : ∀ b u, X.H_0 b = some u → H b = some u) : Inv (Fx X x h0) pins σ X.H_0 s := by
  have no : ∀ b, H b = none → X.H_0 b = none := fun b e => by
    cases q : X.H_0 b with
    | none => rfl
    | some u => rw [k b u q] at e; cases e
  obtain ⟨hh, hhk⟩ := hk
  refine ⟨I.ok, I.os, I.bare, ⟨I.base.keep, I.base.slot, fun _ _ _ n _ => n, I.base.there, fun _ _ q => q, fun _ _ _ q => q, fun b ps q => ⟨#[], by rw [q]; simp⟩⟩, I.loc, I.cell, no _ I.free, fun y c e => no _ (I.freeC y c e), fun p hp => ?_, hok_forget I.hok k nT hhk, I.len⟩
  obtain ⟨e1, e2, e3⟩ := I.pin p hp
  exact ⟨e1, no _ e2, e3⟩
theorem forget {X : Cx} {x : Heap → Value → Shared → Prop} {W Ls : List Addr} {n0 : Nat} {h0 : Heap} {pins : List (Addr × Obj)} {σ : L2.St} {H : Hp} {s : Shared} (g : Fm X W Ls n0) (I : Inv (Fx X x h0) pins σ H s) (k : ∀ b u, X.H_0 b = some u → H b = some u) : Inv (Fx X x h0) pins σ X.H_0 s :=
  forget2 g.nT g.hk I k
/-- woken again: the consumer's objects as they stand now -/
theorem wakeW {X : Cx} {x : Heap → Value → Shared → Prop} {W Ls : List Addr} {Gk : Nat → Prop} {n0 : Nat} {h0 : Heap} {wp ip : List (Addr × Obj)} {σ : L2.St} {s s' : Shared} (g : Fm X W Ls n0) (ho : ∀ p ∈ X.pn ++ ip, p.1 ∉ W) (hw : wp.map (·.1) = W) (hn : h0.objs.size ≤ n0) (I : Inv (Fx X x h0) (wp ++ ip) σ X.H_0 s) (z : Slw W Ls Gk s s') :
    ∃ wp', wp'.map (·.1) = W ∧ Inv (Fx X x (cut n0 s'.heap)) (wp' ++ ip) σ X.H_0 s' ∧ ∀ p ∈ wp', s'.heap.get? p.1 = some p.2 := by
  have inW := fun b (hb : b ∈ W) => in_w hw I hb
  obtain ⟨wp', e1, e2⟩ := pins_at (W := W) (h := s'.heap) fun b hb => by
    obtain ⟨o, ho, _⟩ := inW b hb
    exact z.wide b hb o ho
  have fsLt : ∀ b ∈ X.fs, b < n0 := fun b hb => by
    obtain ⟨_, o, ho, _⟩ := I.ok.funs.mem hb
    exact Nat.lt_of_lt_of_le (Heap.lt_size ho) hn
  have lsLt : ∀ b ∈ Ls, b < n0 := fun b hb => fsLt b (g.ls b hb)
  have nLs : ∀ b, n0 ≤ b → b ∉ Ls := fun b hb q => Nat.not_lt.mpr hb (lsLt b q)
  have fsH : ∀ b ∈ X.fs, X.H_0 b = none := I.ok.frf
  have keepT : ∀ b u, X.H_0 b = some u → b ∉ W ∧ b ∉ Ls := fun b u q => by
    refine ⟨fun hb => ?_, fun hb => ?_⟩
    · obtain ⟨_, _, h, _⟩ := inW b hb
      rw [h] at q
      cases q
    · rw [fsH b (g.ls b hb)] at q
      cases q
  have hex : (Fx X x h0).ex = [] := g.ex
  have bz : X.base.objs.size ≤ n0 := Nat.le_trans I.ok.bsz hn
  have bK : ∀ b o, X.base.get? b = some o → s'.heap.get? b = some o := fun b o e => z.keep b o (fun hb => by rw [g.nb b hb] at e; cases e) (fun hb => I.ok.nofr e (g.ls b hb)) (I.bk b o e)
  have noE : ∀ b, b ∉ X.ex := fun b hb => by
    have hb : b ∈ (Fx X x h0).ex := hb
    rw [hex] at hb; cases hb
  have fun' : ∀ (l : List Env), (∀ b ∈ frs l, b ∈ X.fs) → s.heap.FunFrames X.base l → (cut n0 s'.heap).FunFrames X.base l := by
    intro l
    induction l with
    | nil => intro _ _; trivial
    | cons env r ih =>
      intro hs hl
      obtain ⟨hk, ⟨L, o, hf, hn', ho', hd⟩, hr⟩ := hl
      have hL : L ∈ X.fs := hs L (by unfold frs; rw [List.filterMap_cons, hf]; exact List.mem_cons_self)
      refine ⟨hk, ?_, ih (fun b hb => hs b (by unfold frs; rw [List.filterMap_cons, hf]; exact List.mem_cons_of_mem _ hb)) hr⟩
      by_cases q : L ∈ Ls
      · obtain ⟨o', h1, h2⟩ := z.fr L q o ho'
        exact ⟨L, o', hf, hn', (cut_get (fsLt L hL)).trans h1, h2⟩
      · refine ⟨L, o, hf, hn', (cut_get (fsLt L hL)).trans (z.keep L o (fun hb => ?_) q ho'), hd⟩
        obtain ⟨_, _, _, _, h⟩ := inW L hb
        exact h hL
  have cs : (cut n0 s'.heap).objs.size ≤ n0 := by rw [cut_size]; omega
  have nW : X.env.locals ∉ W := fun hb => (g.own _ hb).1 rfl
  have cW : ∀ y c, X.env.cells.lookup y = some c → c ∉ W := fun y c e hb => (g.own c hb).2 y c e rfl
  have cK : ∀ y c, X.env.cells.lookup y = some c → ∀ v, s.heap.IsCell c v → s'.heap.IsCell c v := fun y c e v q => by
    obtain ⟨o, h1, h2⟩ := q
    exact ⟨o, z.keep c o (cW y c e) (nLs c (g.nC y c e)) h1, h2⟩
  refine ⟨wp', e1, ⟨⟨I.ok.mod, I.ok.kind, I.ok.glob, I.ok.blt, Nat.le_trans cs g.nL, I.ok.inj, I.ok.has, fun y c _ e => Nat.le_trans cs (g.nC y c e), I.ok.hd, I.ok.frames, I.ok.stk, I.ok.exf, fun b o e => ⟨?_, (I.ok.bs b o e).2⟩, ?_, I.ok.noex, I.ok.exfs, fun' _ (fun _ hb => hb) I.funs, I.ok.frf⟩,
    z.os.trans I.os, z.bare, Un.kept fun b u e => (cut_lt e).2, ?_, fun y c e => ?_, I.free, I.freeC, fun p hp => ?_, ?_, I.len⟩, fun p hp => (e2 p hp).1⟩
  · exact (cut_get (Nat.lt_of_lt_of_le (Heap.lt_size e) bz)).trans (bK b o e)
  · show X.base.objs.size ≤ (cut n0 s'.heap).objs.size
    rw [cut_size]
    exact Nat.le_min.mpr ⟨bz, Nat.le_trans I.ok.bsz (Nat.le_trans I.sz z.hsz)⟩
  · obtain ⟨m, hn', hl⟩ := I.loc
    refine ⟨m, ?_, fun i y v e1 e2 e3 => ?_⟩
    · obtain ⟨o, es, ep, ho', r⟩ := hn'
      exact ⟨o, es, ep, z.keep _ o nW (nLs _ g.nL) ho', r⟩
    · obtain ⟨u, r, l⟩ := hl i y v e1 e2 e3
      refine ⟨u, r, ?_⟩
      rcases l with l | ⟨k, c, e, q⟩
      · exact .inl l
      · exact .inr ⟨k, c, e, cK y c e _ q⟩
  · obtain ⟨v, q⟩ := I.cell y c e
    exact ⟨v, cK y c e v q⟩
  · rcases List.mem_append.mp hp with hp' | hp'
    · obtain ⟨h1, h2, h3, h4, h5⟩ := I.pin p (List.mem_append_left _ hp')
      exact ⟨z.keep _ _ (ho p (List.mem_append_left _ hp')) (fun q => h4 (g.ls _ q)) h1, h2, h3, h4, h5⟩
    rcases List.mem_append.mp hp' with hp' | hp'
    · have hb : p.1 ∈ W := by
        rw [← e1]
        exact List.mem_map.mpr ⟨p, hp', rfl⟩
      obtain ⟨o, _, h2, h3, h4⟩ := inW p.1 hb
      exact ⟨(e2 p hp').1, h2, h3, h4, (e2 p hp').2⟩
    · obtain ⟨h1, h2, h3, h4, h5⟩ := I.pin p (List.mem_append_right _ (List.mem_append_right _ hp'))
      exact ⟨z.keep _ _ (ho p (List.mem_append_right _ hp')) (fun q => h4 (g.ls _ q)) h1, h2, h3, h4, h5⟩
  · intro b u q
    refine (I.hok b u q).stay (fun c v hc y => ?_) (fun _ y => y) fun _ _ y => y
    have hc' : ∃ u', X.H_0 c = some u' := by
      rcases hc with y | y
      · exact ⟨u, y ▸ q⟩
      · exact ⟨_, y⟩
    obtain ⟨u', hc'⟩ := hc'
    exact z.keep c v (keepT c u' hc').1 (keepT c u' hc').2 y
/-! ### the protocol: at most N items, each of them told by those before it -/
def GYw (X : Cx) (x : Heap → Value → Shared → Prop) (W Ls : List Addr) (Gk : Nat → Prop) (n0 : Nat) (It : List V → V → Prop) (N : Nat) : Protocol := fun n s₀ v s kap =>
  ∃ ys y wp ip σ, wp.map (·.1) = W ∧ n + 1 + ys.length = N ∧ RelV y v ∧ It ys y ∧ Inv (Fx X x (cut n0 s₀.heap)) (wp ++ ip) σ X.H_0 s ∧ (∀ p ∈ wp, s₀.heap.get? p.1 = some p.2) ∧ (ys.length + 1 < N → ∀ s', Slw W Ls Gk s s' → kap (.send .none) s')
def GRw (X : Cx) (x : Heap → Value → Shared → Prop) (W : List Addr) (n0 N : Nat) (Q : List V → V → Prop) (F : Shared → Value → Shared → Prop) : GenEnd := fun n s₀ r s => match r with
  | .ok (.ret u) => ∃ ys v wp ip σ, wp.map (·.1) = W ∧ n + ys.length = N ∧ Inv (Fx X x (cut n0 s₀.heap)) (wp ++ ip) σ X.H_0 s ∧ (∀ p ∈ wp, s₀.heap.get? p.1 = some p.2) ∧ RelV v u ∧ Q ys v
  | .ok _ => False
  | .error e => F s₀ e s
structure GEw where
  nx : List V → L2.St → Hp → Prop
  rt : List V → VK
  bk : List V → L2.St → Hp → Prop := fun _ _ _ => False
  ct : List V → L2.St → Hp → Prop := fun _ _ _ => False
abbrev TGw := GEw → List V → L2.St → Hp → Prop
def GEw.at (D : GEw) (ys : List V) : Ends := { nx := D.nx ys, rt := D.rt ys, bk := D.bk ys, ct := D.ct ys }
def SPw (X : Cx) (x : Heap → Value → Shared → Prop) (n0 : Nat) (s₀ : Shared) (pins : List (Addr × Obj)) (D : GEw) (ys : List V) (f : Flow) (s : Shared) : Prop := SP (Fx X x (cut n0 s₀.heap)) pins (D.at ys) f s
/-- where the code stands -/
structure GCw (X : Cx) (W Ls : List Addr) (n0 : Nat) (ip : List (Addr × Obj)) (A : Around) (c : Code) (fs : List Frame) (gd : Bool → Bool) : Prop where
  ho : ∀ p ∈ X.pn ++ ip, p.1 ∉ W
  fm : Fm X W Ls n0
  over : A.over c fs = X.A
  split : splitAtGen fs = none
  guard : fs.any Frame.guarded = false
  gd : gd false = false
/-- how it stands at a moment: since s₀ -/
structure GSt (W : List Addr) (N gm n : Nat) (ys : List V) (wp : List (Addr × Obj)) (s₀ s : Shared) : Prop where
  w : wp.map (·.1) = W
  p : ∀ p ∈ wp, s₀.heap.get? p.1 = some p.2
  n : n + ys.length = N
  z : gm ≤ s.gens.size
theorem GSt.gsz {W : List Addr} {N gm n : Nat} {ys : List V} {wp : List (Addr × Obj)} {s₀ s s' : Shared} (h : GSt W N gm n ys wp s₀ s) (z : gm ≤ s'.gens.size) : GSt W N gm n ys wp s₀ s' := ⟨h.w, h.p, h.n, z⟩
/-- what follows -/
structure GKw (X : Cx) (x : Heap → Value → Shared → Prop) (W Ls : List Addr) (Gk : Nat → Prop) (n0 : Nat) (It : List V → V → Prop) (N gm : Nat) (ip : List (Addr × Obj)) (A : Around) (R : GenEnd) (c : Code) (fs : List Frame) (K : Flow → Sem PySem.Fin) (J : Value → Sem PySem.Fin) (D : GEw) : Prop where
  ok : ∀ (n : Nat) (ys : List V) (wp : List (Addr × Obj)) (s₀ s : Shared) (f : Flow), GSt W N gm n ys wp s₀ s → SPw X x n0 s₀ (wp ++ ip) D ys f s → Seg (model X.prog X.w) A R (GYw X x W Ls Gk n0 It N) n s₀ c (K f) fs s
  exc : ∀ (n : Nat) (ys : List V) (wp : List (Addr × Obj)) (s₀ : Shared) (e : Value) (s : Shared), GSt W N 0 n ys wp s₀ s → x (cut n0 s₀.heap) e s → Seg (model X.prog X.w) A R (GYw X x W Ls Gk n0 It N) n s₀ c (J e) fs s
/-- a statement of a generator -/
structure GTw (X : Cx) (x : Heap → Value → Shared → Prop) (Gk : Nat → Prop) (n0 : Nat) (It : List V → V → Prop) (N gm : Nat) (st : List Stmt) (one : Option Stmt) (t : TGw) : Prop where
  run : ∀ (A : Around) (W Ls : List Addr) (wp ip : List (Addr × Obj)) (R : GenEnd) (n : Nat) (ys : List V) (s₀ : Shared) (c : Code) (fs : List Frame) (K : Flow → Sem PySem.Fin) (J : Value → Sem PySem.Fin) (gd : Bool → Bool) (lv : List Value → List Value) (s : Shared) (σ : L2.St) (H : Hp) (D : GEw),
    GCw X W Ls n0 ip A c fs gd → GSt W N gm n ys wp s₀ s → GKw X x W Ls Gk n0 It N gm ip A R c fs K J D → Inv (Fx X x (cut n0 s₀.heap)) (wp ++ ip) σ H s → t D ys σ H →
    Seg (model X.prog X.w) A R (GYw X x W Ls Gk n0 It N) n s₀ c ((match one with | some y => exec y X.env | none => execs st X.env).wrap K J gd lv) fs s
abbrev GSw (X : Cx) (x : Heap → Value → Shared → Prop) (Gk : Nat → Prop) (n0 : Nat) (It : List V → V → Prop) (N gm : Nat) (st : Stmt) (t : TGw) : Prop := GTw X x Gk n0 It N gm [] (some st) t
abbrev GSsw (X : Cx) (x : Heap → Value → Shared → Prop) (Gk : Nat → Prop) (n0 : Nat) (It : List V → V → Prop) (N gm : Nat) (st : List Stmt) (t : TGw) : Prop := GTw X x Gk n0 It N gm st none t
section
variable {X : Cx} {x : Heap → Value → Shared → Prop} {Gk : Nat → Prop} {n0 : Nat} {It : List V → V → Prop} {N gm : Nat} {st : Stmt} {rest : List Stmt}
def tPl (t : Heap → TS) : TGw := fun D ys σ H => ∀ h0, t h0 (D.at ys) σ H
theorem gw_ps {t : Heap → TS} (h : ∀ h0, PS (Fx X x h0) st (t h0)) : GSw X x Gk n0 It N gm st (tPl t) := by
  refine ⟨fun A W Ls wp ip R n ys s₀ c fs K J gd lv s σ H D g q k I ht => ?_⟩
  refine seg_wrap ?_
  rw [g.over]
  exact wpAny_gsz q.z (wpAny_mono ((h _).run _ s σ H (D.at ys) I (ht _)) (fun f s' y hz' => k.ok n ys wp s₀ s' f (q.gsz hz') y) fun y s' r _ => k.exc n ys wp s₀ y s' ⟨q.w, q.p, q.n, Nat.zero_le _⟩ r)
theorem gws_pss {t : Heap → TS} (h : ∀ h0, PSs (Fx X x h0) rest (t h0)) : GSsw X x Gk n0 It N gm rest (tPl t) := by
  refine ⟨fun A W Ls wp ip R n ys s₀ c fs K J gd lv s σ H D g q k I ht => ?_⟩
  refine seg_wrap ?_
  rw [g.over]
  exact wpAny_gsz q.z (wpAny_mono ((h _).run _ s σ H (D.at ys) I (ht _)) (fun f s' y hz' => k.ok n ys wp s₀ s' f (q.gsz hz') y) fun y s' r _ => k.exc n ys wp s₀ y s' ⟨q.w, q.p, q.n, Nat.zero_le _⟩ r)
theorem gws_nil : GSsw X x Gk n0 It N gm [] (fun D ys σ H => D.nx ys σ H) := by
  refine ⟨fun A W Ls wp ip R n ys s₀ c fs K J gd lv s σ H D g q k I ht => ?_⟩
  exact seg_execs_nil (k.ok n ys wp s₀ s .next q ⟨σ, H, I, ht⟩)
def tThen (t u : TGw) : TGw := fun D ys σ H => t { D with nx := fun ys' σ' H' => u D ys' σ' H' } ys σ H
theorem gws_cons {t u : TGw} (a : GSw X x Gk n0 It N gm st t) (b : GSsw X x Gk n0 It N gm rest u) : GSsw X x Gk n0 It N gm (st :: rest) (tThen t u) := by
  refine ⟨fun A W Ls wp ip R n ys s₀ c fs K J gd lv s σ H D g q k I ht => ?_⟩
  refine seg_execs_cons ?_
  refine a.run A W Ls wp ip R n ys s₀ c fs _ J gd lv s σ H { D with nx := fun ys' σ' H' => u D ys' σ' H' } g q ⟨fun n' ys' wp' s₀' s' f q' r => ?_, k.exc⟩ I ht
  cases f with
  | next =>
    obtain ⟨σ', H', I', r⟩ := r
    exact b.run A W Ls wp' ip R n' ys' s₀' c fs K J gd lv s' σ' H' D g q' k I' r
  | brk => exact k.ok n' ys' wp' s₀' s' .brk q' r
  | cont => exact k.ok n' ys' wp' s₀' s' .cont q' r
  | ret u => exact k.ok n' ys' wp' s₀' s' (.ret u) q' r
/-- all that stood at the entry stands -/
def Stood (X : Cx) (H : Hp) : Prop := ∀ b u, X.H_0 b = some u → H b = some u
/-- yield e; no more than N items are asked -/
def tYield (X : Cx) (It : List V → V → Prop) (N : Nat) (te : Heap → TE) : TGw := fun D ys σ H => ys.length < N ∧ ∀ h0, te h0 σ H fun y H1 => Stood X H1 ∧ It ys y ∧ (ys.length + 1 < N → D.nx (ys ++ [y]) σ X.H_0)
theorem gw_yield {e : Expr} {yp pos : Pos} {te : Heap → TE} (he : ∀ h0, PE (Fx X x h0) e (te h0)) (hco : X.env.scope.isCoroutine = false := by rfl) (hi : interactive X.env = false := by rfl) : GSw X x Gk n0 It N gm (.Expr (.Yield (some e) yp) pos) (tYield X It N te) := by
  refine ⟨fun A W Ls wp ip R n ys s₀ c fs K J gd lv s σ H D g q k I ht => ?_⟩
  obtain ⟨hlt, ht⟩ := ht
  obtain ⟨n, rfl⟩ : ∃ m, n = m + 1 := ⟨n - 1, by have := q.n; omega⟩
  refine seg_Expr_Yield g.split g.gd g.guard ?_ hco hi
  rw [g.over]
  refine wpAny_gsz q.z (wpAny_mono ((he _).run _ s σ H _ I (ht _)) (fun v s' hv hz' => ?_) fun y s' r _ => k.exc _ ys wp s₀ y s' ⟨q.w, q.p, q.n, Nat.zero_le _⟩ r)
  obtain ⟨y, H1, I1, rv, hst, hit, r⟩ := hv
  have I2 := forget g.fm I1 hst
  intro kap hk
  refine ⟨ys, y, wp, ip, σ, q.w, q.n, rv, hit, I2, q.p, fun hm s'' z => hk .none s'' ?_⟩
  obtain ⟨wp', e1, I3, e2⟩ := wakeW g.fm g.ho q.w (by rw [cut_size]; exact Nat.min_le_left _ _) I2 z
  refine k.ok n (ys ++ [y]) wp' s'' s'' .next ⟨e1, e2, ?_, Nat.le_trans hz' z.gsz⟩ ⟨σ, X.H_0, I3, r hm⟩
  have := q.n
  rw [List.length_append, List.length_singleton]
  omega
end
/-! ### while -/
section
variable {X : Cx} {x : Heap → Value → Shared → Prop} {Gk : Nat → Prop} {n0 : Nat} {It : List V → V → Prop} {N gm : Nat}
def tWh (c : Heap → TT) (tb : TGw) : TGw := fun D ys σ H => ∃ V : Nat → List L2.V → L2.St → Hp → Prop, (∃ m, V m ys σ H) ∧ ∀ m ys σ H, V m ys σ H →
  ∀ h0, c h0 σ H fun b H1 => if b = true then ∃ Nx : List L2.V → L2.St → Hp → Prop, (∀ ys' σ' H', Nx ys' σ' H' → ∃ m', m' < m ∧ V m' ys' σ' H') ∧ tb { D with nx := Nx, ct := Nx, bk := D.nx } ys σ H1 else D.nx ys σ H1
theorem gcw_loop {W Ls : List Addr} {ip : List (Addr × Obj)} {A : Around} {c c' : Code} {fs : List Frame} {gd : Bool → Bool} {k : Result → Sem PySem.Fin} {l kp : List Value} {p : Pos} (g : GCw X W Ls n0 ip A c fs gd) (h1 : c'.weight = 0) (h2 : c'.cUnits = 0) :
    GCw X W Ls n0 ip A c' (.ret k none (gd false) l c p kp :: fs) id := by
  refine ⟨g.ho, g.fm, (over_loop h1 h2).trans g.over, ?_, ?_, rfl⟩
  · show (splitAtGen fs).map _ = none
    rw [g.split]
    rfl
  · show (gd false || fs.any Frame.guarded) = false
    rw [g.gd, g.guard]
    rfl
/-- an exception leaves a loop's code -/
theorem segw_back {W Ls : List Addr} {wp ip : List (Addr × Obj)} {A : Around} {R : GenEnd} {c : Code} {fs : List Frame} {K : Flow → Sem PySem.Fin} {J : Value → Sem PySem.Fin} {gd : Bool → Bool} {lv : List Value → List Value} {D : GEw} {n : Nat} {ys : List V} {s₀ s : Shared} {e : Value}
    (g : GCw X W Ls n0 ip A c fs gd) (q : GSt W N 0 n ys wp s₀ s) (k : GKw X x W Ls Gk n0 It N gm ip A R c fs K J D) (h : cameBackBy (model X.prog X.w) X.A X.env (x (cut n0 s₀.heap)) e s) :
    Seg (model X.prog X.w) A R (GYw X x W Ls Gk n0 It N) n s₀ c (((Sem.raise e : Sem Flow).onRaise (cameBack X.env)).wrap K J gd lv) fs s := by
  show Seg _ _ _ _ _ _ _ (((cameBack X.env e).bind fun _ => (Sem.raise e : Sem Flow)).wrap K J gd lv) _ _
  rw [Sem.bind_eq_wrap, Sem.wrap_wrap]
  refine seg_wrap ?_
  rw [g.over]
  exact wpAny_mono h (fun _ s' r => k.exc n ys wp s₀ e s' ⟨q.w, q.p, q.n, Nat.zero_le _⟩ r) fun y s' r => k.exc n ys wp s₀ y s' ⟨q.w, q.p, q.n, Nat.zero_le _⟩ r
theorem gw_while {test : Expr} {body : List Stmt} {pos : Pos} {tc : Heap → TT} {tb : TGw} (hp : ∀ h0, PassesOwn (model X.prog X.w) X.A X.env (x h0)) (hc : ∀ h0, PT (Fx X x h0) test (tc h0)) (hb : GSsw X x Gk n0 It N gm body tb) : GSw X x Gk n0 It N gm (.While test body [] pos) (tWh tc tb) := by
  refine ⟨fun A W Ls wp ip R n ys s₀ c fs K J gd lv s σ H D g q k I ht => ?_⟩
  obtain ⟨V, ⟨m0, w0⟩, turn⟩ := ht
  refine seg_While fun p => ?_
  have gl := fun (kk : Result → Sem PySem.Fin) => gcw_loop (k := kk) (c' := .whileLoop test body [] X.env) (l := lv []) (kp := []) (p := p) g rfl rfl
  have loop : ∀ (m n : Nat) (ys : List L2.V) (wp : List (Addr × Obj)) (s₀ s : Shared) (σ : L2.St) (H : Hp), GSt W N gm n ys wp s₀ s → V m ys σ H → Inv (Fx X x (cut n0 s₀.heap)) (wp ++ ip) σ H s →
      Seg (model X.prog X.w) A R (GYw X x W Ls Gk n0 It N) n s₀ (.whileLoop test body [] X.env) ((model X.prog X.w).den (.whileLoop test body [] X.env))
        (.ret (fun r => ((match r with | .ok f => (.pure f : Sem Flow) | .error e => .raise e).onRaise (cameBack X.env)).wrap K J gd lv) none (gd false) (lv []) c p [] :: fs) s := by
    intro m
    induction m using Nat.strongRecOn with
    | ind m ih =>
      intro n ys wp s₀ s σ H q w I
      have ee : ∀ (n : Nat) (ys : List L2.V) (wp : List (Addr × Obj)) (s₀ : Shared) (y : Value) (s' : Shared), GSt W N 0 n ys wp s₀ s' → x (cut n0 s₀.heap) y s' → Seg (model X.prog X.w) A R (GYw X x W Ls Gk n0 It N) n s₀ (.whileLoop test body [] X.env)
          ((do noteFrame y X.env; theTreesLotGoes y : Sem Unit).wrap (fun _ => .raise y) .raise id id)
          (.ret (fun r => ((match r with | .ok f => (.pure f : Sem Flow) | .error e => .raise e).onRaise (cameBack X.env)).wrap K J gd lv) none (gd false) (lv []) c p [] :: fs) s' := fun n ys wp s₀ y s' q r => by
        refine seg_wrap ?_
        rw [(gl _).over]
        refine wpAny_bind (wpAny_mono (hp _ y s' r) (fun _ s'' hcb => wpAny_theTreesLotGoes ?_) fun y' s'' hcb => ?_)
        · exact seg_leaf (.error y) (segw_back g ⟨q.w, q.p, q.n, Nat.zero_le _⟩ k hcb)
        · exact seg_leaf (.error y') (segw_back g ⟨q.w, q.p, q.n, Nat.zero_le _⟩ k hcb)
      refine seg_whileLoop ?_
      rw [(gl _).over]
      refine wpAny_gsz q.z (wpAny_mono ((hc _).run _ s σ H _ I (turn m ys σ H w _)) (fun b s' hb' hz' => ?_) fun y s' r _ => ee n ys wp s₀ y s' ⟨q.w, q.p, q.n, Nat.zero_le _⟩ r)
      obtain ⟨H2, I2, q2⟩ := hb'
      cases b with
      | false =>
        rw [if_neg Bool.false_ne_true]
        exact seg_execs_nil (seg_leaf (.ok .next) (k.ok n ys wp s₀ s' .next (q.gsz hz') ⟨σ, H2, I2, q2⟩))
      | true =>
        obtain ⟨Nx, hN, q2⟩ := q2
        rw [if_pos rfl]
        refine hb.run A W Ls wp ip R n ys s₀ _ _ _ _ id id s' σ H2 { D with nx := Nx, ct := Nx, bk := D.nx } (gl _) (q.gsz hz') ⟨fun n' ys' wp' s₀' s3 f q3 r => ?_, fun n' ys' wp' s₀' y s3 q3 r => ee n' ys' wp' s₀' y s3 q3 r⟩ I2 q2
        have back : SPw X x n0 s₀' (wp' ++ ip) { D with nx := Nx, ct := Nx, bk := D.nx } ys' .next s3 → Seg (model X.prog X.w) A R (GYw X x W Ls Gk n0 It N) n' s₀' (.whileLoop test body [] X.env) (.pure (.again (.whileLoop test body [] X.env)))
            (.ret (fun r => ((match r with | .ok f => (.pure f : Sem Flow) | .error e => .raise e).onRaise (cameBack X.env)).wrap K J gd lv) none (gd false) (lv []) c p [] :: fs) s3 := fun r => by
          obtain ⟨σ3, H3, I3, n3⟩ := r
          obtain ⟨m', hm, w3⟩ := hN ys' σ3 H3 n3
          exact seg_again rfl (ih m' hm n' ys' wp' s₀' s3 σ3 H3 q3 w3 I3)
        cases f with
        | next => exact back r
        | cont => exact back r
        | brk => exact seg_leaf (.ok .next) (k.ok n' ys' wp' s₀' s3 .next q3 r)
        | ret v => exact seg_leaf (.ok (.ret v)) (k.ok n' ys' wp' s₀' s3 (.ret v) q3 r)
  exact loop m0 n ys wp s₀ s σ H q w0 I
end
end GW

/-! Sleeping generators stay as they are through code that is told for any generators: such code also runs where they cannot be woken, so it never wakes them. -/
namespace GW
open PySem PyProof.Rows
open Sem (wp)
def isG : Frame → Bool
  | .gen .. => true
  | _ => false
def noG (fs : List Frame) : Prop := ∀ F ∈ fs, isG F = false
/-- the same to look at, never to be woken -/
def poiF : Frame → Frame
  | .ret k h g l c p kp => .ret k h g l c p kp
  | .gen g k l c p => .ret (fun _ => .unsupported "") none false l c p []
def poi : GenState → GenState
  | .suspended _ l c p fs cl => .suspended (fun _ => .unsupported "") l c p (fs.map poiF) cl
  | x => x
def susp : GenState → Bool
  | .suspended .. => true
  | _ => false
theorem poiF_where (F : Frame) : (poiF F).where_ = F.where_ := by cases F <;> rfl
theorem poi_seen (x : GenState) : (poi x).seen = x.seen := by
  cases x with
  | suspended k l c p fs cl =>
    show (GenStatus.suspended, some ((c, p) :: (fs.map poiF).map Frame.where_)) = (GenStatus.suspended, some ((c, p) :: fs.map Frame.where_))
    rw [List.map_map]
    have : (Frame.where_ ∘ poiF) = Frame.where_ := funext poiF_where
    rw [this]
  | _ => rfl
theorem poi_bare (x : GenState) : (poi x).bare = x.bare := by cases x <;> rfl
theorem poi_not {x : GenState} (h : susp x = false) : poi x = x := by
  cases x with
  | suspended => cases h
  | _ => rfl
theorem noG_poi (fs : List Frame) : noG (fs.map poiF) := fun F hF => by
  obtain ⟨F', _, rfl⟩ := List.mem_map.mp hF
  cases F' <;> rfl
def NGg : GenState → Prop
  | .suspended _ _ _ _ fs _ => noG fs
  | _ => True
def NGs (a : Array GenState) : Prop := ∀ (i : Nat) (y : GenState), a[i]? = some y → NGg y
def NGe : End → Prop
  | .ret _ => True
  | .susp _ _ _ _ _ _ fs => noG fs
theorem ng_poi (x : GenState) : NGg (poi x) := by
  cases x with
  | suspended k l c p fs cl => exact noG_poi fs
  | _ => trivial
theorem ng_end {e : End} (h : NGe e) : NGg e.genState := by
  cases e with
  | ret _ => trivial
  | susp v g l k c p fs => exact h
theorem ng_set {a : Array GenState} (h : NGs a) {g : Nat} {x : GenState} (hx : NGg x) : NGs (a.setIfInBounds g x) := fun i y e => by
  by_cases q : g = i
  · subst q
    by_cases hl : g < a.size
    · rw [Array.getElem?_setIfInBounds_self_of_lt hl] at e
      cases e
      exact hx
    · rw [Array.getElem?_eq_none (by simp; omega)] at e
      cases e
  · rw [Array.getElem?_setIfInBounds_ne q] at e
    exact h i y e
theorem ng_push {a : Array GenState} (h : NGs a) {x : GenState} (hx : NGg x) : NGs (a.push x) := fun i y e => by
  rw [Array.getElem?_push] at e
  split at e
  · cases e
    exact hx
  · exact h i y e
/-- gv is gu with the sleeping ones of O as they are -/
structure Lg (O gu gv : Array GenState) : Prop where
  sz : gv.size = gu.size
  on : ∀ (i : Nat) (x : GenState), O[i]? = some x → susp x = true → gu[i]? = some (poi x) ∧ gv[i]? = some x
  off : ∀ i : Nat, (∀ x, O[i]? = some x → susp x = false) → gv[i]? = gu[i]?
theorem Lg.not {O gu gv : Array GenState} (h : Lg O gu gv) {g : Nat} {y : GenState} (e : gu[g]? = some y) (hy : susp y = false) : ∀ x, O[g]? = some x → susp x = false := fun x ex => by
  cases q : susp x with
  | false => rfl
  | true =>
    have := (h.on g x ex q).1
    rw [e] at this
    cases this
    cases x with
    | suspended => cases hy
    | _ => cases q
theorem lg_set {O gu gv : Array GenState} (h : Lg O gu gv) {g : Nat} (hg : ∀ x, O[g]? = some x → susp x = false) (y : GenState) : Lg O (gu.setIfInBounds g y) (gv.setIfInBounds g y) := by
  refine ⟨by simp [h.sz], fun i x e q => ?_, fun i e => ?_⟩
  · have hne : g ≠ i := fun z => by
      subst z
      rw [hg x e] at q
      cases q
    rw [Array.getElem?_setIfInBounds_ne hne, Array.getElem?_setIfInBounds_ne hne]
    exact h.on i x e q
  · by_cases z : g = i
    · subst z
      by_cases hl : g < gu.size
      · rw [Array.getElem?_setIfInBounds_self_of_lt hl, Array.getElem?_setIfInBounds_self_of_lt (by rw [h.sz]; exact hl)]
      · rw [Array.getElem?_eq_none (by simp [h.sz]; omega), Array.getElem?_eq_none (by simp; omega)]
    · rw [Array.getElem?_setIfInBounds_ne z, Array.getElem?_setIfInBounds_ne z]
      exact h.off i e
theorem lg_push {O gu gv : Array GenState} (h : Lg O gu gv) (y : GenState) : Lg O (gu.push y) (gv.push y) := by
  refine ⟨by simp [h.sz], fun i x e q => ?_, fun i e => ?_⟩
  · obtain ⟨h1, h2⟩ := h.on i x e q
    have l1 : i < gu.size := (Array.getElem?_eq_some_iff.mp h1).1
    rw [Array.getElem?_push, Array.getElem?_push, if_neg (by omega), if_neg (by rw [h.sz]; omega)]
    exact ⟨h1, h2⟩
  · rw [Array.getElem?_push, Array.getElem?_push, h.sz]
    split
    · rfl
    · exact h.off i e
theorem Lg.see {O gu gv : Array GenState} (l : Lg O gu gv) {g : Nat} {st : GenState} (hs : gu[g]? = some st) : ∃ st', gv[g]? = some st' ∧ st'.seen = st.seen := by
  by_cases q : ∃ x, O[g]? = some x ∧ susp x = true
  · obtain ⟨x, hx, hq⟩ := q
    obtain ⟨h1, h2⟩ := l.on g x hx hq
    rw [hs] at h1
    cases h1
    exact ⟨x, h2, (poi_seen x).symm⟩
  · refine ⟨st, (l.off g fun x hx => ?_).trans hs, rfl⟩
    cases z : susp x with
    | false => rfl
    | true => exact absurd ⟨x, hx, z⟩ q
theorem no_run {M : Model} {w : String} : ∀ {Γ : Ctx} {p : Pos} {t : Sem PySem.Fin} {fs : List Frame} {s s' : Shared} {e : End}, Runs M Γ p t fs s e s' → t = .unsupported w → False := by
  intro Γ p t fs s s' e h
  induction h with
  | segRet h1 h2 ih1 ih2 => exact ih1
  | segGen h1 h2 ih1 ih2 => exact ih1
  | segSuspOut h0 h1 ih => exact ih
  | segSuspGen h0 h1 h2 h3 ih1 ih2 => exact ih1
  | _ => intro z; cases z
theorem split_no : ∀ {fs : List Frame}, noG fs → splitAtGen fs = none
  | [], _ => rfl
  | .ret _ _ _ _ _ _ _ :: fs, h => by
    show (splitAtGen fs).map _ = none
    rw [split_no fun F hF => h F (List.mem_cons_of_mem _ hF)]
    rfl
  | .gen g k l c p :: fs, h => by
    have := h _ List.mem_cons_self
    cases this
theorem noG_app {a b : List Frame} (ha : noG a) (hb : noG b) : noG (a ++ b) := fun F hF => (List.mem_append.mp hF).elim (ha F) (hb F)
abbrev gS (s : Shared) (g : Array GenState) : Shared := { s with gens := g }
theorem runs_lift {M : Model} {O : Array GenState} {Γ : Ctx} {p : Pos} {t : Sem PySem.Fin} {fs : List Frame} {s s' : Shared} {e : End} (h : Runs M Γ p t fs s e s') :
    ∀ gv, Lg O s.gens gv → noG fs → NGs s.gens → ∃ gv', Lg O s'.gens gv' ∧ NGs s'.gens ∧ NGe e ∧ Runs M Γ p t fs (gS s gv) e (gS s' gv') := by
  induction h with
  | done => exact fun gv l _ n => ⟨gv, l, n, trivial, .done⟩
  | raise => exact fun gv l _ n => ⟨gv, l, n, trivial, .raise⟩
  | again hq _ ih =>
    intro gv l a n
    obtain ⟨g', l', n', e', r⟩ := ih gv l a n
    exact ⟨g', l', n', e', .again hq r⟩
  | rule _ ih =>
    intro gv l a n
    obtain ⟨g', l', n', e', r⟩ := ih gv l a n
    exact ⟨g', l', n', e', .rule r⟩
  | «at» _ ih =>
    intro gv l a n
    obtain ⟨g', l', n', e', r⟩ := ih gv l a n
    exact ⟨g', l', n', e', .at r⟩
  | load ho _ ih =>
    intro gv l a n
    obtain ⟨g', l', n', e', r⟩ := ih gv l a n
    exact ⟨g', l', n', e', .load ho r⟩
  | update ho _ ih =>
    intro gv l a n
    obtain ⟨g', l', n', e', r⟩ := ih gv l a n
    exact ⟨g', l', n', e', .update ho r⟩
  | loadIfAlive _ ih =>
    intro gv l a n
    obtain ⟨g', l', n', e', r⟩ := ih gv l a n
    exact ⟨g', l', n', e', .loadIfAlive r⟩
  | point _ ih =>
    intro gv l a n
    obtain ⟨g', l', n', e', r⟩ := ih gv l a n
    exact ⟨g', l', n', e', .point r⟩
  | alloc _ ih =>
    intro gv l a n
    obtain ⟨g', l', n', e', r⟩ := ih gv l a n
    exact ⟨g', l', n', e', .alloc r⟩
  | fresh _ ih =>
    intro gv l a n
    obtain ⟨g', l', n', e', r⟩ := ih gv l a n
    exact ⟨g', l', n', e', .fresh r⟩
  | ask _ ih =>
    intro gv l a n
    obtain ⟨g', l', n', e', r⟩ := ih gv l a n
    exact ⟨g', l', n', e', .ask r⟩
  | choose hn _ ih =>
    intro gv l a n
    obtain ⟨g', l', n', e', r⟩ := ih gv l a n
    exact ⟨g', l', n', e', .choose hn r⟩
  | os _ ih =>
    intro gv l a n
    obtain ⟨g', l', n', e', r⟩ := ih gv l a n
    exact ⟨g', l', n', e', .os r⟩
  | handled _ ih =>
    intro gv l a n
    obtain ⟨g', l', n', e', r⟩ := ih gv l a n
    exact ⟨g', l', n', e', .handled r⟩
  | genState hs _ ih =>
    intro gv l a n
    obtain ⟨g', l', n', e', r⟩ := ih gv l a n
    obtain ⟨st', h1, h2⟩ := l.see hs
    exact ⟨g', l', n', e', .genState h1 (by rw [h2]; exact r)⟩
  | stack _ ih =>
    intro gv l a n
    obtain ⟨g', l', n', e', r⟩ := ih gv l a n
    exact ⟨g', l', n', e', .stack r⟩
  | thread _ ih =>
    intro gv l a n
    obtain ⟨g', l', n', e', r⟩ := ih gv l a n
    exact ⟨g', l', n', e', .thread r⟩
  | newGen _ ih =>
    intro gv l a n
    obtain ⟨g', l', n', e', r⟩ := ih (gv.push (.fresh _)) (lg_push l _) a (ng_push n trivial)
    refine ⟨g', l', n', e', .newGen ?_⟩
    have e : ∀ {s0 : Shared}, Lg O s0.gens gv → (gS s0 gv).gens.size = s0.gens.size := fun l => l.sz
    rw [e l]
    exact r
  | call _ _ ih1 ih2 =>
    intro gv l a n
    obtain ⟨g1, l1, n1, e1, r1⟩ := ih1 gv l (fun _ h => by cases h) n
    obtain ⟨g2, l2, n2, e2, r2⟩ := ih2 g1 l1 a n1
    exact ⟨g2, l2, n2, e2, .call r1 r2⟩
  | callSusp _ ih =>
    intro gv l a n
    obtain ⟨g1, l1, n1, e1, r1⟩ := ih gv l (fun _ h => by cases h) n
    exact ⟨g1, l1, n1, noG_app e1 (fun F hF => by rw [List.mem_singleton.mp hF]; rfl), .callSusp r1⟩
  | yield => exact fun gv l _ n => ⟨gv, l, n, (fun _ h => by cases h), .yield⟩
  | resumeFresh hs _ hq _ ih1 ih2 =>
    intro gv l a n
    have hn := l.not hs rfl
    obtain ⟨g1, l1, n1, e1, r1⟩ := ih1 (gv.setIfInBounds _ .running) (lg_set l hn _) (fun _ h => by cases h) (ng_set n trivial)
    obtain ⟨g2, l2, n2, e2, r2⟩ := ih2 (g1.setIfInBounds _ _) (lg_set l1 hn _) a (ng_set n1 (ng_end e1))
    exact ⟨g2, l2, n2, e2, .resumeFresh ((l.off _ hn).trans hs) r1 hq r2⟩
  | @resumeSuspended Γ p g r l0 k s k₀ l₀ c₀ p₀ fs cl e₁ s₁ e s' hs h1 hq _ ih1 ih2 =>
    intro gv l a n
    by_cases q : ∃ x, O[g]? = some x ∧ susp x = true
    · obtain ⟨x, hx, hq⟩ := q
      have h2 := (l.on g x hx hq).1
      rw [hs] at h2
      cases x with
      | suspended kk ll cc pp ff cc2 =>
        cases h2
        exact (no_run h1 rfl).elim
      | _ => cases hq
    · have hn : ∀ x, O[g]? = some x → susp x = false := fun x hx => by
        cases z : susp x with
        | false => rfl
        | true => exact absurd ⟨x, hx, z⟩ q
      obtain ⟨g1, l1, n1, e1, r1⟩ := ih1 (gv.setIfInBounds _ .running) (lg_set l hn _) (n _ _ hs) (ng_set n trivial)
      obtain ⟨g2, l2, n2, e2, r2⟩ := ih2 (g1.setIfInBounds _ _) (lg_set l1 hn _) a (ng_set n1 (ng_end e1))
      exact ⟨g2, l2, n2, e2, .resumeSuspended ((l.off _ hn).trans hs) r1 hq r2⟩
  | resumeJustStarted hs hv _ ih =>
    intro gv l a n
    obtain ⟨g', l', n', e', r⟩ := ih gv l a n
    exact ⟨g', l', n', e', .resumeJustStarted ((l.off _ (l.not hs rfl)).trans hs) hv r⟩
  | resumeThrowFresh hs _ ih =>
    intro gv l a n
    have hn := l.not hs rfl
    obtain ⟨g', l', n', e', r⟩ := ih (gv.setIfInBounds _ .finished) (lg_set l hn _) a (ng_set n trivial)
    exact ⟨g', l', n', e', .resumeThrowFresh ((l.off _ hn).trans hs) r⟩
  | resumeRunning hs _ ih =>
    intro gv l a n
    obtain ⟨g', l', n', e', r⟩ := ih gv l a n
    exact ⟨g', l', n', e', .resumeRunning ((l.off _ (l.not hs rfl)).trans hs) r⟩
  | resumeFinished hs _ ih =>
    intro gv l a n
    obtain ⟨g', l', n', e', r⟩ := ih gv l a n
    exact ⟨g', l', n', e', .resumeFinished ((l.off _ (l.not hs rfl)).trans hs) r⟩
  | segRet _ _ ih1 ih2 =>
    intro gv l a n
    obtain ⟨g1, l1, n1, e1, r1⟩ := ih1 gv l (fun _ h => by cases h) n
    obtain ⟨g2, l2, n2, e2, r2⟩ := ih2 g1 l1 (fun F hF => a F (List.mem_cons_of_mem _ hF)) n1
    exact ⟨g2, l2, n2, e2, .segRet r1 r2⟩
  | segGen _ _ ih1 ih2 =>
    intro gv l a n
    have := a _ List.mem_cons_self
    cases this
  | segSuspOut h0 _ ih =>
    intro gv l a n
    obtain ⟨g1, l1, n1, e1, r1⟩ := ih gv l (fun _ h => by cases h) n
    exact ⟨g1, l1, n1, noG_app e1 a, .segSuspOut h0 r1⟩
  | segSuspGen h0 _ _ _ ih1 ih2 =>
    intro gv l a n
    rw [split_no a] at h0
    cases h0
theorem wakes_lift {M : Model} {O : Array GenState} {Γ : Ctx} {p : Pos} {g : Nat} {r : Resume} {s s' : Shared} {res : GenResult} (h : Wakes M Γ p g r s res s') {gv : Array GenState} (l : Lg O s.gens gv) (n : NGs s.gens) :
    ∃ gv', Lg O s'.gens gv' ∧ NGs s'.gens ∧ Wakes M Γ p g r (gS s gv) res (gS s' gv') := by
  unfold Wakes at h
  by_cases q : ∃ x, O[g]? = some x ∧ susp x = true
  · obtain ⟨x, hx, hq⟩ := q
    obtain ⟨h1, h2⟩ := l.on g x hx hq
    rw [h1] at h
    cases x with
    | suspended kk ll cc pp ff cc2 =>
      obtain ⟨e₁, s₁, hr, _⟩ := h
      exact (no_run hr rfl).elim
    | _ => cases hq
  · have hn : ∀ x, O[g]? = some x → susp x = false := fun x hx => by
      cases z : susp x with
      | false => rfl
      | true => exact absurd ⟨x, hx, z⟩ q
    have e : (gS s gv).gens[g]? = s.gens[g]? := l.off g hn
    unfold Wakes
    rw [e]
    cases hs : s.gens[g]? with
    | none => rw [hs] at h; exact h.elim
    | some y =>
      rw [hs] at h
      cases y with
      | fresh c =>
        cases r with
        | send v =>
          cases v with
          | none =>
            obtain ⟨e₁, s₁, hr, h1, h2, h3⟩ := h
            obtain ⟨g1, l1, n1, e1, r1⟩ := runs_lift hr (gv.setIfInBounds g .running) (lg_set l hn _) (fun _ h => by cases h) (ng_set n trivial)
            subst h3
            exact ⟨g1.setIfInBounds g e₁.genState, lg_set l1 hn _, ng_set n1 (ng_end e1), e₁, gS s₁ g1, r1, h1, h2, rfl⟩
          | _ =>
            obtain ⟨h1, h2⟩ := h
            subst h2
            exact ⟨gv, l, n, h1, rfl⟩
        | throw x =>
          obtain ⟨h1, h2⟩ := h
          subst h2
          exact ⟨gv.setIfInBounds g .finished, lg_set l hn _, ng_set n trivial, h1, rfl⟩
      | suspended k₀ l₀ c₀ p₀ fs cl =>
        obtain ⟨e₁, s₁, hr, h1, h2, h3⟩ := h
        obtain ⟨g1, l1, n1, e1, r1⟩ := runs_lift hr (gv.setIfInBounds g .running) (lg_set l hn _) (n _ _ hs) (ng_set n trivial)
        subst h3
        exact ⟨g1.setIfInBounds g e₁.genState, lg_set l1 hn _, ng_set n1 (ng_end e1), e₁, gS s₁ g1, r1, h1, h2, rfl⟩
      | running =>
        obtain ⟨h1, h2⟩ := h
        subst h2
        exact ⟨gv, l, n, h1, rfl⟩
      | finished =>
        obtain ⟨h1, h2⟩ := h
        subst h2
        exact ⟨gv, l, n, h1, rfl⟩
abbrev UpP (O : Array GenState) (Q : Shared → Prop) (v : Shared) : Prop := ∃ u gv', v = gS u gv' ∧ Lg O u.gens gv' ∧ Q u
theorem wp_lift {α : Type} (M : Model) (Γ : Ctx) (O : Array GenState) (t : Sem α) : ∀ (Q : α → Pos → Shared → Prop) (E : Value → Pos → Shared → Prop) (p : Pos) (s : Shared) (gv : Array GenState), Lg O s.gens gv → NGs s.gens → wp M Γ t Q E p s →
    wp M Γ t (fun a p' v => UpP O (Q a p') v) (fun e p' v => UpP O (E e p') v) p (gS s gv) := by
  induction t with
  | pure a => intro Q E p s gv l n h; exact ⟨s, gv, rfl, l, h⟩
  | raise e => intro Q E p s gv l n h; exact ⟨s, gv, rfl, l, h⟩
  | unsupported _ => intro Q E p s gv l n h; exact h
  | finish _ => intro Q E p s gv l n h; exact h
  | rule _ k ih => intro Q E p s gv l n h; exact ih () Q E p s gv l n h
  | «at» p' k ih => intro Q E p s gv l n h; exact ih () Q E p' s gv l n h
  | load a _ k ih => intro Q E p s gv l n h; obtain ⟨o, ho, h⟩ := h; exact ⟨o, ho, ih o Q E p s gv l n h⟩
  | update a _ f k ih => intro Q E p s gv l n h; exact ⟨h.1, ih () Q E p { s with heap := s.heap.update a f } gv l n h.2⟩
  | loadIfAlive a k ih => intro Q E p s gv l n h; exact ih _ Q E p s gv l n h
  | point _ k ih => intro Q E p s gv l n h; exact ih () Q E p s gv l n h
  | register _ _ => intro Q E p s gv l n h; exact h
  | alloc o k ih => intro Q E p s gv l n h; exact ih _ Q E p { s with heap := s.heap.push o } gv l n h
  | fresh k ih => intro Q E p s gv l n h; exact ih _ Q E p { s with toks := s.toks + 1 } gv l n h
  | ask k ih => intro Q E p s gv l n h; exact ih _ Q E p s gv l n h
  | choose src m k ih => intro Q E p s gv l n h; exact ⟨h.1, ih _ Q E p { s with drawn := s.drawn.bump src } gv l n h.2⟩
  | os q _ k ih => intro Q E p s gv l n h; exact ih _ Q E p { s with os := (Os.step s.os q).1 } gv l n h
  | call c hd _ _ k ih =>
    intro Q E p s gv l n h
    obtain ⟨r, s', hr, h⟩ := h
    obtain ⟨g1, l1, n1, e1, r1⟩ := runs_lift hr gv l (fun _ h => by cases h) n
    exact ⟨r, gS s' g1, r1, ih r Q E p s' g1 l1 n1 h⟩
  | handled own k ih => intro Q E p s gv l n h; exact ih _ Q E p s gv l n h
  | genState g k ih =>
    intro Q E p s gv l n h
    obtain ⟨st, hs, h⟩ := h
    obtain ⟨st', h1, h2⟩ := l.see hs
    exact ⟨st', h1, by rw [h2]; exact ih _ Q E p s gv l n h⟩
  | newGen c k ih =>
    intro Q E p s gv l n h
    have e : (gS s gv).gens.size = s.gens.size := l.sz
    have r := ih s.gens.size Q E p { s with gens := s.gens.push (.fresh c) } (gv.push (.fresh c)) (lg_push l _) (ng_push n trivial) h
    show wp M Γ (k (gS s gv).gens.size) _ _ _ _
    rw [e]
    exact r
  | resume g r _ k ih =>
    intro Q E p s gv l n h
    obtain ⟨res, s', hw, h⟩ := h
    obtain ⟨g1, l1, n1, r1⟩ := wakes_lift hw l n
    exact ⟨res, gS s' g1, r1, ih res Q E p s' g1 l1 n1 h⟩
  | yield _ _ _ _ => intro Q E p s gv l n h; exact h
  | stack k ih => intro Q E p s gv l n h; exact ih _ Q E p s gv l n h
  | fork _ _ => intro Q E p s gv l n h; exact h
  | thread k ih => intro Q E p s gv l n h; exact ih _ Q E p s gv l n h
  | await _ _ _ _ _ => intro Q E p s gv l n h; exact h
theorem lg_poi (a : Array GenState) : Lg a (a.map poi) a := by
  refine ⟨by simp, fun i x e _ => ⟨by simp [e], e⟩, fun i h => ?_⟩
  cases e : a[i]? with
  | none => simp [e]
  | some x => simp [e, poi_not (h x e)]
theorem ng_map (a : Array GenState) : NGs (a.map poi) := fun i y e => by
  rw [Array.getElem?_map] at e
  cases q : a[i]? with
  | none => rw [q] at e; cases e
  | some x => rw [q] at e; cases e; exact ng_poi x
theorem bare_poi {a : Array GenState} (h : AllBare a) : AllBare (a.map poi) := fun y hy => by
  obtain ⟨x, hx, rfl⟩ := Array.mem_map.mp hy
  rw [poi_bare]
  exact h x hx
/-- what stands behind code that is told for any generators -/
structure KeptG (s u v : Shared) : Prop where
  eq : v = gS u v.gens
  slot : ∀ (i : Nat) (x : GenState), s.gens[i]? = some x → susp x = true → v.gens[i]? = some x
  bare : AllBare s.gens → AllBare u.gens → AllBare v.gens
  sz : v.gens.size = u.gens.size
theorem kept_of {s u : Shared} {gv : Array GenState} (l : Lg s.gens u.gens gv) : KeptG s u (gS u gv) := by
  refine ⟨rfl, fun i x e q => (l.on i x e q).2, fun h1 h2 y hy => ?_, l.sz⟩
  obtain ⟨i, hi, e⟩ := Array.mem_iff_getElem.mp hy
  have hi : i < gv.size := hi
  have e' : gv[i]? = some y := by rw [Array.getElem?_eq_getElem hi]; exact congrArg some e
  by_cases q : ∃ x, s.gens[i]? = some x ∧ susp x = true
  · obtain ⟨x, hx, hq⟩ := q
    have := (l.on i x hx hq).2
    rw [e'] at this
    cases this
    exact h1 y (Array.mem_of_getElem? hx)
  · rw [l.off i fun x hx => by
      cases z : susp x with
      | false => rfl
      | true => exact absurd ⟨x, hx, z⟩ q] at e'
    exact h2 y (Array.mem_of_getElem? e')
theorem wpAny_keepG {α : Type} {M : Model} {A : Around} {t : Sem α} {Q : α → Shared → Prop} {E : Value → Shared → Prop} {s : Shared} (h : wpAny M A t Q E (gS s (s.gens.map poi))) :
    wpAny M A t (fun a v => ∃ u, Q a u ∧ KeptG s u v ∧ s.gens.size ≤ v.gens.size) (fun e v => ∃ u, E e u ∧ KeptG s u v ∧ s.gens.size ≤ v.gens.size) s := by
  have main : wpAny M A t (fun a v => ∃ u, Q a u ∧ KeptG s u v) (fun e v => ∃ u, E e u ∧ KeptG s u v) s := fun Γ p hΓ => by
    have r := wp_lift M Γ s.gens t _ _ p (gS s (s.gens.map poi)) s.gens (lg_poi _) (ng_map _) (h Γ p hΓ)
    refine Sem.wp_mono M Γ t (fun a _ v hv => ?_) (fun e _ v hv => ?_) p s r
    · obtain ⟨u, gv, rfl, l, q⟩ := hv
      exact ⟨u, q, kept_of l⟩
    · obtain ⟨u, gv, rfl, l, q⟩ := hv
      exact ⟨u, q, kept_of l⟩
  refine GenW.wpAny_gsz (Nat.le_refl s.gens.size) (wpAny_mono main (fun a v hv hz => ?_) fun e v hv hz => ?_)
  · obtain ⟨u, q, k⟩ := hv
    exact ⟨u, q, k, hz⟩
  · obtain ⟨u, q, k⟩ := hv
    exact ⟨u, q, k, hz⟩
end GW

/-! Generators that sleep while anything is done: what they own is what was made at their call. -/
namespace GW
open PySem PySem.Spec PyProof.Rows L2 GenW
def noCell (o : Obj) : Bool := match o.data with
  | .cell _ => false
  | _ => true
theorem noCell_of {o : Obj} (h : noCell o = true) : ∀ v, o.data ≠ .cell v := fun v e => by
  unfold noCell at h
  rw [e] at h
  cases h
theorem of_noCell {o : Obj} (h : ∀ v, o.data ≠ .cell v) : noCell o = true := by
  unfold noCell
  split
  · rename_i v e
    exact absurd e (h v)
  · rfl
/-- the objects from n0 on, but cells and what is owned -/
def Wd (n0 : Nat) (ow : List Addr) (s : Shared) : List Addr := (List.range s.heap.objs.size).filter fun b => decide (n0 ≤ b) && (!ow.contains b && (match s.heap.get? b with
  | some o => noCell o
  | none => false))
theorem mem_Wd {n0 : Nat} {ow : List Addr} {s : Shared} {b : Addr} : b ∈ Wd n0 ow s ↔ n0 ≤ b ∧ b ∉ ow ∧ ∃ o, s.heap.get? b = some o ∧ ∀ v, o.data ≠ .cell v := by
  unfold Wd
  rw [List.mem_filter, List.mem_range, Bool.and_eq_true, Bool.and_eq_true]
  constructor
  · rintro ⟨_, h1, h3, h2⟩
    refine ⟨of_decide_eq_true h1, by simpa using h3, ?_⟩
    split at h2
    · rename_i o e
      exact ⟨o, e, noCell_of h2⟩
    · cases h2
  · rintro ⟨h1, h3, o, e, h2⟩
    refine ⟨Heap.lt_size e, decide_eq_true h1, by simpa using h3, ?_⟩
    rw [e]
    exact of_noCell h2
/-- the generator sleeps: what it owns, what it knows of, stand at its waking -/
structure Slv (P : Program) (w : World) (base : Heap) (fs : List Addr) (H : Hp) (ow : List Addr) (Gk : Nat → Prop) (s s' : Shared) : Prop where
  os : s'.os = s.os
  bare : AllBare s'.gens
  hok : HOk P w H s'.heap
  bs : ∀ b o, base.get? b = some o → s'.heap.get? b = some o
  own : ∀ b ∈ ow, ∀ o, s.heap.get? b = some o → s'.heap.get? b = some o
  fr : ∀ b ∈ fs, ∃ o, s'.heap.get? b = some o ∧ ∀ vs, o.data ≠ .fields vs
  slot : ∀ g x, Gk g → s.gens[g]? = some x → s'.gens[g]? = some x
  gsz : s.gens.size ≤ s'.gens.size
  bz : base.objs.size ≤ s'.heap.objs.size
/-- what the generator's context bears through all sleeps -/
structure Fv (X : Cx) (n0 : Nat) (ow : List Addr) : Prop where
  ex : X.ex = []
  nL : n0 ≤ X.env.locals ∧ X.env.locals ∈ ow
  nC : ∀ x, X.env.cells.lookup x = none
  nT : ∀ b kvs, X.H_0 b ≠ some (.dT kvs)
  hk : ∃ h, HOk X.prog X.w X.H_0 h
  fr : ∀ b, n0 ≤ b → X.H_0 b = none
/-- woken again -/
theorem wakeV {X : Cx} {x : Heap → Value → Shared → Prop} {ow : List Addr} {Gk : Nat → Prop} {n0 : Nat} {h0 : Heap} {wp ip : List (Addr × Obj)} {σ : L2.St} {s s' : Shared} (g : Fv X n0 ow) (ho : ∀ p ∈ X.pn ++ ip, p.1 ∈ ow) (hn : h0.objs.size ≤ n0) (I : Inv (Fx X x h0) (wp ++ ip) σ X.H_0 s) (z : Slv X.prog X.w X.base X.fs X.H_0 ow Gk s s') :
    ∃ wp', wp'.map (·.1) = Wd n0 ow s' ∧ Inv (Fx X x (cut n0 s'.heap)) (wp' ++ ip) σ X.H_0 s' ∧ ∀ p ∈ wp', s'.heap.get? p.1 = some p.2 := by
  obtain ⟨wp', e1, e2⟩ := pins_at (W := Wd n0 ow s') (h := s'.heap) fun b hb => (mem_Wd.mp hb).2.2
  have fsLt : ∀ b ∈ X.fs, b < n0 := fun b hb => by
    obtain ⟨_, o, ho, _⟩ := I.ok.funs.mem hb
    exact Nat.lt_of_lt_of_le (Heap.lt_size ho) hn
  have hex : (Fx X x h0).ex = [] := g.ex
  have bz : X.base.objs.size ≤ n0 := Nat.le_trans I.ok.bsz hn
  have noE : ∀ b, b ∉ X.ex := fun b hb => by
    have hb : b ∈ (Fx X x h0).ex := hb
    rw [hex] at hb; cases hb
  have fun' : ∀ (l : List Env), (∀ b ∈ frs l, b ∈ X.fs) → s.heap.FunFrames X.base l → (cut n0 s'.heap).FunFrames X.base l := by
    intro l
    induction l with
    | nil => intro _ _; trivial
    | cons env r ih =>
      intro hs hl
      obtain ⟨hk, ⟨L, o, hf, hn', ho', hd⟩, hr⟩ := hl
      have hL : L ∈ X.fs := hs L (by unfold frs; rw [List.filterMap_cons, hf]; exact List.mem_cons_self)
      refine ⟨hk, ?_, ih (fun b hb => hs b (by unfold frs; rw [List.filterMap_cons, hf]; exact List.mem_cons_of_mem _ hb)) hr⟩
      obtain ⟨o', h1, h2⟩ := z.fr L hL
      exact ⟨L, o', hf, hn', (cut_get (fsLt L hL)).trans h1, h2⟩
  have cs : (cut n0 s'.heap).objs.size ≤ n0 := by rw [cut_size]; omega
  have cN : ∀ {y c}, X.env.cells.lookup y = some c → False := fun {y c} e => by rw [g.nC y] at e; cases e
  refine ⟨wp', e1, ⟨⟨I.ok.mod, I.ok.kind, I.ok.glob, I.ok.blt, Nat.le_trans cs g.nL.1, I.ok.inj, I.ok.has, fun y c _ e => (cN e).elim, I.ok.hd, I.ok.frames, I.ok.stk, I.ok.exf, fun b o e => ⟨?_, (I.ok.bs b o e).2⟩, ?_, I.ok.noex, I.ok.exfs, fun' _ (fun _ hb => hb) I.funs, I.ok.frf⟩,
    z.os.trans I.os, z.bare, Un.kept fun b u e => (cut_lt e).2, ?_, fun y c e => ?_, I.free, I.freeC, fun p hp => ?_, z.hok, I.len⟩, fun p hp => (e2 p hp).1⟩
  · exact (cut_get (Nat.lt_of_lt_of_le (Heap.lt_size e) bz)).trans (z.bs b o e)
  · show X.base.objs.size ≤ (cut n0 s'.heap).objs.size
    rw [cut_size]
    exact Nat.le_min.mpr ⟨bz, z.bz⟩
  · obtain ⟨m, hn', hl⟩ := I.loc
    refine ⟨m, ?_, fun i y v e1 e2 e3 => ?_⟩
    · obtain ⟨o, es, ep, ho', r⟩ := hn'
      exact ⟨o, es, ep, z.own _ g.nL.2 o ho', r⟩
    · obtain ⟨u, r, l⟩ := hl i y v e1 e2 e3
      refine ⟨u, r, ?_⟩
      rcases l with l | ⟨k, c, e, q⟩
      · exact .inl l
      · exact (cN e).elim
  · exact (cN e).elim
  · rcases List.mem_append.mp hp with hp' | hp'
    · obtain ⟨h1, h2, h3, h4, h5⟩ := I.pin p (List.mem_append_left _ hp')
      exact ⟨z.own _ (ho p (List.mem_append_left _ hp')) _ h1, h2, h3, h4, h5⟩
    rcases List.mem_append.mp hp' with hp' | hp'
    · have hb : p.1 ∈ Wd n0 ow s' := by
        rw [← e1]
        exact List.mem_map.mpr ⟨p, hp', rfl⟩
      obtain ⟨q, q1, _⟩ := mem_Wd.mp hb
      exact ⟨(e2 p hp').1, g.fr _ q, fun z => q1 (z ▸ g.nL.2), fun hm => Nat.not_lt.mpr q (fsLt _ hm), (e2 p hp').2⟩
    · obtain ⟨h1, h2, h3, h4, h5⟩ := I.pin p (List.mem_append_right _ (List.mem_append_right _ hp'))
      exact ⟨z.own _ (ho p (List.mem_append_right _ hp')) _ h1, h2, h3, h4, h5⟩
/-! ### the protocol -/
def GYv (X : Cx) (x : Heap → Value → Shared → Prop) (ow : List Addr) (Gk : Nat → Prop) (n0 : Nat) (It : List V → V → Prop) (N : Nat) : Protocol := fun n s₀ v s kap =>
  ∃ ys y wp ip σ, wp.map (·.1) = Wd n0 ow s₀ ∧ n + 1 + ys.length = N ∧ RelV y v ∧ It ys y ∧ Inv (Fx X x (cut n0 s₀.heap)) (wp ++ ip) σ X.H_0 s ∧ (∀ p ∈ wp, s₀.heap.get? p.1 = some p.2) ∧ (ys.length + 1 < N → ∀ s', Slv X.prog X.w X.base X.fs X.H_0 ow Gk s s' → kap (.send .none) s')
def GRv (X : Cx) (x : Heap → Value → Shared → Prop) (ow : List Addr) (n0 N : Nat) (Q : List V → V → Prop) (F : Shared → Value → Shared → Prop) : GenEnd := fun n s₀ r s => match r with
  | .ok (.ret u) => ∃ ys v wp ip σ, wp.map (·.1) = Wd n0 ow s₀ ∧ n + ys.length = N ∧ Inv (Fx X x (cut n0 s₀.heap)) (wp ++ ip) σ X.H_0 s ∧ (∀ p ∈ wp, s₀.heap.get? p.1 = some p.2) ∧ RelV v u ∧ Q ys v
  | .ok _ => False
  | .error e => F s₀ e s
/-- where the code stands -/
structure GCv (X : Cx) (ow : List Addr) (n0 : Nat) (ip : List (Addr × Obj)) (A : Around) (c : Code) (fs : List Frame) (gd : Bool → Bool) : Prop where
  ho : ∀ p ∈ X.pn ++ ip, p.1 ∈ ow
  fm : Fv X n0 ow
  over : A.over c fs = X.A
  split : splitAtGen fs = none
  guard : fs.any Frame.guarded = false
  gd : gd false = false
/-- how it stands at a moment: since s₀ -/
structure GStv (n0 : Nat) (ow : List Addr) (N gm n : Nat) (ys : List V) (wp : List (Addr × Obj)) (s₀ s : Shared) : Prop where
  w : wp.map (·.1) = Wd n0 ow s₀
  p : ∀ p ∈ wp, s₀.heap.get? p.1 = some p.2
  n : n + ys.length = N
  z : gm ≤ s.gens.size
theorem GStv.gsz {n0 : Nat} {ow : List Addr} {N gm n : Nat} {ys : List V} {wp : List (Addr × Obj)} {s₀ s s' : Shared} (h : GStv n0 ow N gm n ys wp s₀ s) (z : gm ≤ s'.gens.size) : GStv n0 ow N gm n ys wp s₀ s' := ⟨h.w, h.p, h.n, z⟩
/-- what follows -/
structure GKv (X : Cx) (x : Heap → Value → Shared → Prop) (ow : List Addr) (Gk : Nat → Prop) (n0 : Nat) (It : List V → V → Prop) (N gm : Nat) (ip : List (Addr × Obj)) (A : Around) (R : GenEnd) (c : Code) (fs : List Frame) (K : Flow → Sem PySem.Fin) (J : Value → Sem PySem.Fin) (D : GEw) : Prop where
  ok : ∀ (n : Nat) (ys : List V) (wp : List (Addr × Obj)) (s₀ s : Shared) (f : Flow), GStv n0 ow N gm n ys wp s₀ s → SPw X x n0 s₀ (wp ++ ip) D ys f s → Seg (model X.prog X.w) A R (GYv X x ow Gk n0 It N) n s₀ c (K f) fs s
  exc : ∀ (n : Nat) (ys : List V) (wp : List (Addr × Obj)) (s₀ : Shared) (e : Value) (s : Shared), GStv n0 ow N 0 n ys wp s₀ s → x (cut n0 s₀.heap) e s → Seg (model X.prog X.w) A R (GYv X x ow Gk n0 It N) n s₀ c (J e) fs s
/-- a statement of a generator -/
structure GTv (X : Cx) (x : Heap → Value → Shared → Prop) (Gk : Nat → Prop) (n0 : Nat) (It : List V → V → Prop) (N gm : Nat) (st : List Stmt) (one : Option Stmt) (t : TGw) : Prop where
  run : ∀ (A : Around) (ow : List Addr) (wp ip : List (Addr × Obj)) (R : GenEnd) (n : Nat) (ys : List V) (s₀ : Shared) (c : Code) (fs : List Frame) (K : Flow → Sem PySem.Fin) (J : Value → Sem PySem.Fin) (gd : Bool → Bool) (lv : List Value → List Value) (s : Shared) (σ : L2.St) (H : Hp) (D : GEw),
    GCv X ow n0 ip A c fs gd → GStv n0 ow N gm n ys wp s₀ s → GKv X x ow Gk n0 It N gm ip A R c fs K J D → Inv (Fx X x (cut n0 s₀.heap)) (wp ++ ip) σ H s → t D ys σ H →
    Seg (model X.prog X.w) A R (GYv X x ow Gk n0 It N) n s₀ c ((match one with | some y => exec y X.env | none => execs st X.env).wrap K J gd lv) fs s
abbrev GSv (X : Cx) (x : Heap → Value → Shared → Prop) (Gk : Nat → Prop) (n0 : Nat) (It : List V → V → Prop) (N gm : Nat) (st : Stmt) (t : TGw) : Prop := GTv X x Gk n0 It N gm [] (some st) t
abbrev GSsv (X : Cx) (x : Heap → Value → Shared → Prop) (Gk : Nat → Prop) (n0 : Nat) (It : List V → V → Prop) (N gm : Nat) (st : List Stmt) (t : TGw) : Prop := GTv X x Gk n0 It N gm st none t
section
variable {X : Cx} {x : Heap → Value → Shared → Prop} {Gk : Nat → Prop} {n0 : Nat} {It : List V → V → Prop} {N gm : Nat} {st : Stmt} {rest : List Stmt}
theorem gv_ps {t : Heap → TS} (h : ∀ h0, PS (Fx X x h0) st (t h0)) : GSv X x Gk n0 It N gm st (tPl t) := by
  refine ⟨fun A ow wp ip R n ys s₀ c fs K J gd lv s σ H D g q k I ht => ?_⟩
  refine seg_wrap ?_
  rw [g.over]
  exact wpAny_gsz q.z (wpAny_mono ((h _).run _ s σ H (D.at ys) I (ht _)) (fun f s' y hz' => k.ok n ys wp s₀ s' f (q.gsz hz') y) fun y s' r _ => k.exc n ys wp s₀ y s' ⟨q.w, q.p, q.n, Nat.zero_le _⟩ r)
theorem gvs_pss {t : Heap → TS} (h : ∀ h0, PSs (Fx X x h0) rest (t h0)) : GSsv X x Gk n0 It N gm rest (tPl t) := by
  refine ⟨fun A ow wp ip R n ys s₀ c fs K J gd lv s σ H D g q k I ht => ?_⟩
  refine seg_wrap ?_
  rw [g.over]
  exact wpAny_gsz q.z (wpAny_mono ((h _).run _ s σ H (D.at ys) I (ht _)) (fun f s' y hz' => k.ok n ys wp s₀ s' f (q.gsz hz') y) fun y s' r _ => k.exc n ys wp s₀ y s' ⟨q.w, q.p, q.n, Nat.zero_le _⟩ r)
theorem gvs_nil : GSsv X x Gk n0 It N gm [] (fun D ys σ H => D.nx ys σ H) := by
  refine ⟨fun A ow wp ip R n ys s₀ c fs K J gd lv s σ H D g q k I ht => ?_⟩
  exact seg_execs_nil (k.ok n ys wp s₀ s .next q ⟨σ, H, I, ht⟩)
theorem gvs_cons {t u : TGw} (a : GSv X x Gk n0 It N gm st t) (b : GSsv X x Gk n0 It N gm rest u) : GSsv X x Gk n0 It N gm (st :: rest) (tThen t u) := by
  refine ⟨fun A ow wp ip R n ys s₀ c fs K J gd lv s σ H D g q k I ht => ?_⟩
  refine seg_execs_cons ?_
  refine a.run A ow wp ip R n ys s₀ c fs _ J gd lv s σ H { D with nx := fun ys' σ' H' => u D ys' σ' H' } g q ⟨fun n' ys' wp' s₀' s' f q' r => ?_, k.exc⟩ I ht
  cases f with
  | next =>
    obtain ⟨σ', H', I', r⟩ := r
    exact b.run A ow wp' ip R n' ys' s₀' c fs K J gd lv s' σ' H' D g q' k I' r
  | brk => exact k.ok n' ys' wp' s₀' s' .brk q' r
  | cont => exact k.ok n' ys' wp' s₀' s' .cont q' r
  | ret u => exact k.ok n' ys' wp' s₀' s' (.ret u) q' r
theorem gv_yield {e : Expr} {yp pos : Pos} {te : Heap → TE} (he : ∀ h0, PE (Fx X x h0) e (te h0)) (hco : X.env.scope.isCoroutine = false := by rfl) (hi : interactive X.env = false := by rfl) : GSv X x Gk n0 It N gm (.Expr (.Yield (some e) yp) pos) (tYield X It N te) := by
  refine ⟨fun A ow wp ip R n ys s₀ c fs K J gd lv s σ H D g q k I ht => ?_⟩
  obtain ⟨hlt, ht⟩ := ht
  obtain ⟨n, rfl⟩ : ∃ m, n = m + 1 := ⟨n - 1, by have := q.n; omega⟩
  refine seg_Expr_Yield g.split g.gd g.guard ?_ hco hi
  rw [g.over]
  refine wpAny_gsz q.z (wpAny_mono ((he _).run _ s σ H _ I (ht _)) (fun v s' hv hz' => ?_) fun y s' r _ => k.exc _ ys wp s₀ y s' ⟨q.w, q.p, q.n, Nat.zero_le _⟩ r)
  obtain ⟨y, H1, I1, rv, hst, hit, r⟩ := hv
  have I2 := forget2 g.fm.nT g.fm.hk I1 hst
  intro kap hk
  refine ⟨ys, y, wp, ip, σ, q.w, q.n, rv, hit, I2, q.p, fun hm s'' z => hk .none s'' ?_⟩
  obtain ⟨wp', e1, I3, e2⟩ := wakeV g.fm g.ho (by rw [cut_size]; exact Nat.min_le_left _ _) I2 z
  refine k.ok n (ys ++ [y]) wp' s'' s'' .next ⟨e1, e2, ?_, Nat.le_trans hz' z.gsz⟩ ⟨σ, X.H_0, I3, r hm⟩
  have := q.n
  rw [List.length_append, List.length_singleton]
  omega
end
/-! ### while -/
section
variable {X : Cx} {x : Heap → Value → Shared → Prop} {Gk : Nat → Prop} {n0 : Nat} {It : List V → V → Prop} {N gm : Nat}
theorem gcv_loop {ow : List Addr} {ip : List (Addr × Obj)} {A : Around} {c c' : Code} {fs : List Frame} {gd : Bool → Bool} {k : Result → Sem PySem.Fin} {l kp : List Value} {p : Pos} (g : GCv X ow n0 ip A c fs gd) (h1 : c'.weight = 0) (h2 : c'.cUnits = 0) :
    GCv X ow n0 ip A c' (.ret k none (gd false) l c p kp :: fs) id := by
  refine ⟨g.ho, g.fm, (over_loop h1 h2).trans g.over, ?_, ?_, rfl⟩
  · show (splitAtGen fs).map _ = none
    rw [g.split]
    rfl
  · show (gd false || fs.any Frame.guarded) = false
    rw [g.gd, g.guard]
    rfl
/-- an exception leaves a loop's code -/
theorem segv_back {ow : List Addr} {wp ip : List (Addr × Obj)} {A : Around} {R : GenEnd} {c : Code} {fs : List Frame} {K : Flow → Sem PySem.Fin} {J : Value → Sem PySem.Fin} {gd : Bool → Bool} {lv : List Value → List Value} {D : GEw} {n : Nat} {ys : List V} {s₀ s : Shared} {e : Value}
    (g : GCv X ow n0 ip A c fs gd) (q : GStv n0 ow N 0 n ys wp s₀ s) (k : GKv X x ow Gk n0 It N gm ip A R c fs K J D) (h : cameBackBy (model X.prog X.w) X.A X.env (x (cut n0 s₀.heap)) e s) :
    Seg (model X.prog X.w) A R (GYv X x ow Gk n0 It N) n s₀ c (((Sem.raise e : Sem Flow).onRaise (cameBack X.env)).wrap K J gd lv) fs s := by
  show Seg _ _ _ _ _ _ _ (((cameBack X.env e).bind fun _ => (Sem.raise e : Sem Flow)).wrap K J gd lv) _ _
  rw [Sem.bind_eq_wrap, Sem.wrap_wrap]
  refine seg_wrap ?_
  rw [g.over]
  exact wpAny_mono h (fun _ s' r => k.exc n ys wp s₀ e s' ⟨q.w, q.p, q.n, Nat.zero_le _⟩ r) fun y s' r => k.exc n ys wp s₀ y s' ⟨q.w, q.p, q.n, Nat.zero_le _⟩ r
theorem gv_while {test : Expr} {body : List Stmt} {pos : Pos} {tc : Heap → TT} {tb : TGw} (hp : ∀ h0, PassesOwn (model X.prog X.w) X.A X.env (x h0)) (hc : ∀ h0, PT (Fx X x h0) test (tc h0)) (hb : GSsv X x Gk n0 It N gm body tb) : GSv X x Gk n0 It N gm (.While test body [] pos) (tWh tc tb) := by
  refine ⟨fun A ow wp ip R n ys s₀ c fs K J gd lv s σ H D g q k I ht => ?_⟩
  obtain ⟨V, ⟨m0, w0⟩, turn⟩ := ht
  refine seg_While fun p => ?_
  have gl := fun (kk : Result → Sem PySem.Fin) => gcv_loop (k := kk) (c' := .whileLoop test body [] X.env) (l := lv []) (kp := []) (p := p) g rfl rfl
  have loop : ∀ (m n : Nat) (ys : List L2.V) (wp : List (Addr × Obj)) (s₀ s : Shared) (σ : L2.St) (H : Hp), GStv n0 ow N gm n ys wp s₀ s → V m ys σ H → Inv (Fx X x (cut n0 s₀.heap)) (wp ++ ip) σ H s →
      Seg (model X.prog X.w) A R (GYv X x ow Gk n0 It N) n s₀ (.whileLoop test body [] X.env) ((model X.prog X.w).den (.whileLoop test body [] X.env))
        (.ret (fun r => ((match r with | .ok f => (.pure f : Sem Flow) | .error e => .raise e).onRaise (cameBack X.env)).wrap K J gd lv) none (gd false) (lv []) c p [] :: fs) s := by
    intro m
    induction m using Nat.strongRecOn with
    | ind m ih =>
      intro n ys wp s₀ s σ H q w I
      have ee : ∀ (n : Nat) (ys : List L2.V) (wp : List (Addr × Obj)) (s₀ : Shared) (y : Value) (s' : Shared), GStv n0 ow N 0 n ys wp s₀ s' → x (cut n0 s₀.heap) y s' → Seg (model X.prog X.w) A R (GYv X x ow Gk n0 It N) n s₀ (.whileLoop test body [] X.env)
          ((do noteFrame y X.env; theTreesLotGoes y : Sem Unit).wrap (fun _ => .raise y) .raise id id)
          (.ret (fun r => ((match r with | .ok f => (.pure f : Sem Flow) | .error e => .raise e).onRaise (cameBack X.env)).wrap K J gd lv) none (gd false) (lv []) c p [] :: fs) s' := fun n ys wp s₀ y s' q r => by
        refine seg_wrap ?_
        rw [(gl _).over]
        refine wpAny_bind (wpAny_mono (hp _ y s' r) (fun _ s'' hcb => wpAny_theTreesLotGoes ?_) fun y' s'' hcb => ?_)
        · exact seg_leaf (.error y) (segv_back g ⟨q.w, q.p, q.n, Nat.zero_le _⟩ k hcb)
        · exact seg_leaf (.error y') (segv_back g ⟨q.w, q.p, q.n, Nat.zero_le _⟩ k hcb)
      refine seg_whileLoop ?_
      rw [(gl _).over]
      refine wpAny_gsz q.z (wpAny_mono ((hc _).run _ s σ H _ I (turn m ys σ H w _)) (fun b s' hb' hz' => ?_) fun y s' r _ => ee n ys wp s₀ y s' ⟨q.w, q.p, q.n, Nat.zero_le _⟩ r)
      obtain ⟨H2, I2, q2⟩ := hb'
      cases b with
      | false =>
        rw [if_neg Bool.false_ne_true]
        exact seg_execs_nil (seg_leaf (.ok .next) (k.ok n ys wp s₀ s' .next (q.gsz hz') ⟨σ, H2, I2, q2⟩))
      | true =>
        obtain ⟨Nx, hN, q2⟩ := q2
        rw [if_pos rfl]
        refine hb.run A ow wp ip R n ys s₀ _ _ _ _ id id s' σ H2 { D with nx := Nx, ct := Nx, bk := D.nx } (gl _) (q.gsz hz') ⟨fun n' ys' wp' s₀' s3 f q3 r => ?_, fun n' ys' wp' s₀' y s3 q3 r => ee n' ys' wp' s₀' y s3 q3 r⟩ I2 q2
        have back : SPw X x n0 s₀' (wp' ++ ip) { D with nx := Nx, ct := Nx, bk := D.nx } ys' .next s3 → Seg (model X.prog X.w) A R (GYv X x ow Gk n0 It N) n' s₀' (.whileLoop test body [] X.env) (.pure (.again (.whileLoop test body [] X.env)))
            (.ret (fun r => ((match r with | .ok f => (.pure f : Sem Flow) | .error e => .raise e).onRaise (cameBack X.env)).wrap K J gd lv) none (gd false) (lv []) c p [] :: fs) s3 := fun r => by
          obtain ⟨σ3, H3, I3, n3⟩ := r
          obtain ⟨m', hm, w3⟩ := hN ys' σ3 H3 n3
          exact seg_again rfl (ih m' hm n' ys' wp' s₀' s3 σ3 H3 q3 w3 I3)
        cases f with
        | next => exact back r
        | cont => exact back r
        | brk => exact seg_leaf (.ok .next) (k.ok n' ys' wp' s₀' s3 .next q3 r)
        | ret v => exact seg_leaf (.ok (.ret v)) (k.ok n' ys' wp' s₀' s3 (.ret v) q3 r)
  exact loop m0 n ys wp s₀ s σ H q w0 I
end
end GW

/-! A generator def's promise, item by item. -/
namespace GW
open PySem PySem.Spec PyProof.Rows L2 GenW
/-- the end of its run -/
def REw (P : Program) (w : World) (outer : List Env) (H : Hp) (s : Shared) (W : List Addr) (a : Addr) (g N : Nat) (Q : List V → Prop) (E : XK) : GenEnd := fun n s₀ r s1 =>
  ((r = .ok (.ret .none) ∨ r = .ok .next) ∧ ∃ ys, s1.os = s.os ∧ AllBare s1.gens ∧ Un (frs outer) [] H H (cut s.heap.objs.size s₀.heap) s1.heap ∧ HOk P w H s1.heap ∧ (∀ b ∈ W, ∀ o, s₀.heap.get? b = some o → s1.heap.get? b = some o) ∧
    s1.heap.NoLimit ∧ s1.heap.IsGen a g ∧ n + ys.length = N ∧ Q ys) ∨ ∃ e, r = .error e ∧ CX P w outer H { s with heap := cut s.heap.objs.size s₀.heap } E e s1 ∧ s1.heap.IsGen a g
/-- an item comes -/
def YIw (P : Program) (w : World) (outer : List Env) (H : Hp) (s : Shared) (W Ls : List Addr) (a : Addr) (g N : Nat) (It : List V → V → Prop) : Protocol := fun n s₀ v s1 kap =>
  ∃ ys x, RelV x v ∧ It ys x ∧ n + 1 + ys.length = N ∧ s1.os = s.os ∧ AllBare s1.gens ∧ Un (frs outer) [] H H (cut s.heap.objs.size s₀.heap) s1.heap ∧ HOk P w H s1.heap ∧ (∀ b ∈ W, ∀ o, s₀.heap.get? b = some o → s1.heap.get? b = some o) ∧
    s1.heap.NoLimit ∧ s1.heap.IsGen a g ∧ (ys.length + 1 < N → ∀ s', Slw W Ls (g < ·) s1 s' → kap (.send .none) s')
/-- the consumer's objects: older than the call, or younger than the generator -/
structure Ww (base : Heap) (H : Hp) (outer : List Env) (W Ls : List Addr) (s s' s2 : Shared) : Prop where
  age : ∀ b ∈ W, b < s.heap.objs.size ∨ s'.heap.objs.size ≤ b
  nb : ∀ b ∈ W, base.get? b = none
  free : ∀ b ∈ W, H b = none
  nf : ∀ b ∈ W, b ∉ frs outer
  at2 : ∀ b ∈ W, ∃ o, s2.heap.get? b = some o ∧ ∀ v, o.data ≠ .cell v
  ls : ∀ b ∈ Ls, b ∈ frs outer
/-- a generator that has not begun -/
def GMw (P : Program) (w : World) (base : Heap) (k : Nat) (outer : List Env) (H : Hp) (s : Shared) (It : List V → V → Prop) (N : Nat) (Q : List V → Prop) (E : XK) (u : Value) (s' : Shared) : Prop :=
  ∃ (a : Addr) (g : Nat) (c : Code), u = .ref a ∧ s.heap.objs.size ≤ a ∧ a < s'.heap.objs.size ∧ s'.heap.IsGen a g ∧ s'.gens[g]? = some (.fresh c) ∧ g = s.gens.size ∧ (∀ (i : Nat) (x : GenState), s.gens[i]? = some x → s'.gens[i]? = some x) ∧ s'.os = s.os ∧ AllBare s'.gens ∧ s'.heap.NoLimit ∧
    (∀ b o, s.heap.get? b = some o → s'.heap.get? b = some o) ∧
    ∀ (A : Around) (W Ls : List Addr) (s2 : Shared), Room k A → A.guards = some [] → A.frames = some outer → Ww base H outer W Ls s s' s2 → (∀ b o, s'.heap.get? b = some o → s2.heap.get? b = some o) → s2.os = s.os → AllBare s2.gens → g < s2.gens.size →
      Seg (model P w) A (REw P w outer H s W a g N Q E) (YIw P w outer H s W Ls a g N It) N s2 c ((model P w).den c) [] s2
abbrev SpW := List V → Hp → (List V → V → Prop) → Nat → (List V → Prop) → XK → Prop
/-- an exception leaves the frame -/
def gxe (P : Program) (w : World) (qual : Str) (scope : Scope) (f : Addr) (cd : Value) (A : Around) (outer : List Env) (s : Shared) (H : Hp) (E : XK) (pn : List (Addr × Obj)) (h0 : Heap) (e : Value) (s' : Shared) : Prop :=
  wpAny (model P w) (A.deeper (envOfC qual scope s.heap.objs.size f cd)) (leaving (envOfC qual scope s.heap.objs.size f cd) e) (fun _ s'' => CX P w outer H { s with heap := h0 } E e s'' ∧ ∀ p ∈ pn, s''.heap.get? p.1 = some p.2) (fun _ _ => False) s'
structure GFw (P : Program) (w : World) (K : PySem.W.Frag) (mg : Str → Option Value) (base : Heap) (k : Nat) (f : Addr) (fd : FuncData) (ps : List Str) (sp : SpW) : Prop where
  len : ∀ vs H It N Q E, sp vs H It N Q E → vs.length = ps.length
  run : ∀ (A : Around) (outer : List Env) (s : Shared) (H : Hp) (args : Args) (us : List Value) (vs : List V) (It : List V → V → Prop) (N : Nat) (Q : List V → Prop) (E : XK), Room k A → (∀ b kvs, H b ≠ some (.dT kvs)) → Env0 P w K mg base A outer s H → BindsTo s fd args (ps.zip us) → Vals vs us → sp vs H It N Q E →
    codeAny (model P w) A (.call (.ref f) args) (fun r s' => match r with | .ok (.ret u) => GMw P w base k outer H s It N Q E u s' | _ => False) s
theorem gfw_of {P : Program} {w : World} {K : PySem.W.Frag} {mg : Str → Option Value} {base : Heap} {k : Nat} {f : Addr} {name qual : Str} {params : Arguments} {body : List Stmt} {scope : Scope} {dV kV doc pm cdv ct oc : Value} {an od : Option Addr}
    {osl : Array (Option Value)} {N ps : List Str} {sp : SpW} (lk : K.lookup f = some ⟨oc, od, .func (PySem.W.fnOf name qual params body scope dV kV doc pm an cdv ct), osl⟩) (hcd : PySem.W.codeIn K cdv qual = true) (S : GScope N ps scope)
    (len : ∀ vs H It M Q E, sp vs H It M Q E → vs.length = ps.length)
    (hbody : ∀ (A : Around) (outer : List Env) (s : Shared) (H : Hp) (vs : List V) (It : List V → V → Prop) (M : Nat) (Q : List V → Prop) (E : XK) (pn : List (Addr × Obj)) (g : Nat), A.guards = some [] → (∀ b kvs, H b ≠ some (.dT kvs)) → HOk P w H s.heap → Room k (A.deeper (envOfC qual scope s.heap.objs.size f cdv)) → sp vs H It M Q E →
      ∃ t, GSsw (gcxOf P w K mg base N qual scope f cdv A outer s H E pn) (gxe P w qual scope f cdv A outer s H E pn) (g < ·) s.heap.objs.size It M (g + 1) body t ∧
        t { nx := fun ys _ H' => Stood (gcxOf P w K mg base N qual scope f cdv A outer s H E pn) H' ∧ Q ys, rt := fun ys v H' => v = .non ∧ Stood (gcxOf P w K mg base N qual scope f cdv A outer s H E pn) H' ∧ Q ys } [] (start N vs) H) :
    GFw P w K mg base (k + 1) f (PySem.W.fnOf name qual params body scope dV kV doc pm an cdv ct) ps sp := by
  refine ⟨len, fun A outer s H args us vs It M Q E hr hnT e0 hb r hsp => ?_⟩
  have hl := len _ _ _ _ _ _ hsp
  have KX : K.In s.heap := e0.mod.kin.keeps fun b o e => (e0.bs b o e).1
  have lim : s.heap.NoLimit := e0.mod.nolimit.keeps fun b o e => (e0.bs b o e).1
  have hkind : ∀ y ∈ ps.zip us, scope.names.lookup y.1 = some .local ∨ (scope.names.lookup y.1 = some .cell ∧ ((cellsFrom (s.heap.objs.size + 1) scope.names []).lookup y.1).isSome = true) := fun ⟨n, v⟩ hy =>
    (S.par n (List.of_mem_zip hy).1).elim .inl fun q => .inr ⟨q, PySem.W.cellsFrom_some _ _ _ (.inl q)⟩
  refine codeAny_call_generator hr.depth (KX _ _ lk) rfl S.co S.gen rfl (PySem.W.codeRec_of KX hcd) (hb _ _ _ _ ?_)
  refine wpAny_newFunctionEnv_cells S.kind hkind fun env he s1 x => ?_
  subst he
  have lim1 : s1.heap.NoLimit := lim.keeps x.toInCall.keep
  refine ⟨lim1, ?_⟩
  obtain ⟨h1, tk, es1, hk1⟩ := x.done
  have os1 : s1.os = s.os := by rw [es1]
  have gen1 : s1.gens = s.gens := by rw [es1]
  have lt1 := x.toInCall.ns.lt
  have sz1 := Nat.le_of_lt lt1
  have kp1 := x.toInCall.keep
  have main : ∀ (go : Obj) (nm qn : Value) (tk2 : Nat), go.cls = .type "generator" → go.data = .fields #[.int s1.gens.size 0, nm, qn] → go.slots = #[] → (∀ h : Heap, (h.push go).get? h.objs.size = some go) →
      GMw P w base (k + 1) outer H s It M Q E (.ref s1.heap.objs.size) { s1 with gens := s1.gens.push (.fresh (.func body (envOfC qual scope s.heap.objs.size f cdv))), toks := tk2, heap := s1.heap.push go } := by
    intro go nm qn tk2 hgc hgd0 hgs hgp
    have hgen : ∀ h : Heap, h.get? s1.heap.objs.size = some go → h.IsGen s1.heap.objs.size s1.gens.size := fun h e => ⟨go, nm, qn, e, hgc, hgd0, hgs⟩
    have hpushed := hgp s1.heap
    refine ⟨s1.heap.objs.size, s1.gens.size, _, rfl, sz1, ?_, hgen _ hpushed, Array.getElem?_push_size .., by rw [gen1], fun i y e => ?_, os1, ?_, lim1.keeps fun b o e => Heap.get?_push_of_some _ e, fun b o e => Heap.get?_push_of_some _ (kp1 b o e), ?_⟩
    · show _ < (s1.heap.push _).objs.size
      rw [Heap.size_push]
      exact Nat.lt_succ_self _
    · show (s1.gens.push _)[i]? = some y
      rw [gen1]
      obtain ⟨hi, _⟩ := Array.getElem?_eq_some_iff.mp e
      rw [Array.getElem?_push_lt hi, ← Array.getElem?_eq_getElem hi]
      exact e
    · exact AllBare.push (by rw [gen1]; exact e0.bare) rfl
    intro Aw W Ls s2 hrw hgu hfr hW hk2 hos hba hgs2
    have e0w : Env0 P w K mg base Aw outer s H := ⟨hfr, e0.mod, e0.bs, e0.bsz, e0.funs, e0.frf, e0.hok, e0.bare⟩
    obtain ⟨pn, hpn0⟩ : ∃ pn, pn = [(s1.heap.objs.size, go)] := ⟨_, rfl⟩
    obtain ⟨t, ht, hq⟩ := hbody Aw outer s H vs It M Q E pn s1.gens.size hgu hnT e0.hok (hrw.deeper _) hsp
    obtain ⟨X, hX⟩ : ∃ X, X = gcxOf P w K mg base N qual scope f cdv Aw outer s H E pn := ⟨_, rfl⟩
    obtain ⟨xx, hxx⟩ : ∃ xx, xx = gxe P w qual scope f cdv Aw outer s H E pn := ⟨_, rfl⟩
    have I1 : Inv (gcxOf P w K mg base N qual scope f cdv Aw outer s H E []) [] (start N vs) H s1 := inv_startG S hrw.hd e0w hl r x
    have I2 : Inv (gcxOf P w K mg base N qual scope f cdv Aw outer s H E []) [] (start N vs) H s2 :=
      have kp2 : ∀ b o, s1.heap.get? b = some o → s2.heap.get? b = some o := fun b o e => hk2 b o (Heap.get?_push_of_some _ e)
      I1.call' (ch := []) (hos.trans os1.symm) (Un.kept kp2) (I1.hok.kept kp2) hba fun b z => by simp at z
    have hWz : ∀ b ∈ W, b < s.heap.objs.size ∨ s1.heap.objs.size < b := fun b hb => by
      rcases hW.age b hb with h | h
      · exact .inl h
      · have h : (s1.heap.push go).objs.size ≤ b := h
        rw [Heap.size_push] at h
        exact .inr h
    have hea : s2.heap.get? s1.heap.objs.size = some go := hk2 s1.heap.objs.size go hpushed
    have hgd : ∀ v, go.data ≠ .cell v := fun v q => by rw [hgd0] at q; cases q
    have hcl : ∀ y c, (cellsFrom (s.heap.objs.size + 1) scope.names []).lookup y = some c → s.heap.objs.size < c ∧ c < s1.heap.objs.size := fun y c e => by
      refine ⟨x.above y c (PySem.mem_of_lookup e), ?_⟩
      obtain ⟨v, ob, ho, _⟩ := I1.cell y c e
      exact Heap.lt_size ho
    have young : ∀ b, s1.heap.objs.size ≤ b → H b = none ∧ b ≠ s.heap.objs.size ∧ b ∉ frs outer ∧ s.heap.objs.size ≤ b ∧ ∀ y c, (cellsFrom (s.heap.objs.size + 1) scope.names []).lookup y = some c → c ≠ b := fun b hb => by
      refine ⟨I1.hok.fresh hb, Nat.ne_of_gt (Nat.lt_of_lt_of_le lt1 hb), I1.nofs hb, Nat.le_trans sz1 hb, fun y c e z => ?_⟩
      have q := (hcl y c e).2
      rw [z] at q
      exact Nat.lt_irrefl _ (Nat.lt_of_lt_of_le q hb)
    have wAp : ∀ b ∈ W, b ≠ s.heap.objs.size ∧ ∀ y c, (cellsFrom (s.heap.objs.size + 1) scope.names []).lookup y = some c → c ≠ b := fun b hb => by
      rcases hWz b hb with h | h
      · refine ⟨Nat.ne_of_lt h, fun y c e z => ?_⟩
        have q := (hcl y c e).1
        rw [z] at q
        exact Nat.lt_irrefl _ (Nat.lt_trans h q)
      · obtain ⟨_, y2, _, _, y5⟩ := young b (Nat.le_of_lt h)
        exact ⟨y2, y5⟩
    obtain ⟨wp, ew, hwp⟩ := pins_at (W := W) (h := s2.heap) fun b hb => hW.at2 b hb
    have inW : ∀ p ∈ wp, p.1 ∈ W := fun p hp => by
      rw [← ew]
      exact List.mem_map.mpr ⟨p, hp, rfl⟩
    have hG : Inv X (wp ++ []) (start N vs) H s2 := by
      rw [hX]
      refine Inv.pinnedG I2 fun p hp => ?_
      rw [hpn0] at hp
      rcases List.mem_append.mp hp with z | z
      · rw [List.mem_singleton.mp z]
        obtain ⟨y1, y2, y3, _, _⟩ := young s1.heap.objs.size (Nat.le_refl _)
        exact ⟨hea, y1, y2, y3, hgd⟩
      · rw [List.append_nil] at z
        exact ⟨(hwp p z).1, hW.free _ (inW p z), (wAp _ (inW p z)).1, hW.nf _ (inW p z), (hwp p z).2⟩
    have hH0 : X.H_0 = H := by rw [hX]; rfl
    have fm : Fm X W Ls s.heap.objs.size := by
      rw [hX]
      exact ⟨fun b hb => wAp b hb, hW.nb, hW.ls, rfl, Nat.le_refl _, fun y c e => Nat.le_of_lt (hcl y c e).1, hnT, ⟨_, e0.hok⟩⟩
    have hpn : ∀ p ∈ X.pn ++ [], p.1 ∉ W := fun p hp hb => by
      rw [List.append_nil, show X.pn = pn by rw [hX]; rfl, hpn0] at hp
      rw [List.mem_singleton.mp hp] at hb
      rcases hWz _ hb with h | h
      · exact Nat.lt_irrefl _ (Nat.lt_of_lt_of_le h sz1)
      · exact Nat.lt_irrefl _ h
    have hFx : Fx X xx s.heap = X := by rw [hX, hxx]; rfl
    have hG0 : Inv (Fx X xx s.heap) (wp ++ []) (start N vs) X.H_0 s2 := by rw [hFx, hH0]; exact hG
    obtain ⟨wp, ew, hG, hwp⟩ := wakeW (Gk := (s1.gens.size < ·)) fm hpn ew (Nat.le_refl _) hG0 ⟨rfl, hba, fun _ _ _ _ e => e, fun b hb o e => by
        obtain ⟨o', e', d⟩ := hW.at2 b hb
        exact ⟨o', e', d⟩, fun b hb o e => ⟨o, e, by
        obtain ⟨_, o', e', d⟩ := I2.funs.mem (hW.ls b hb)
        rw [e] at e'
        cases e'
        exact d⟩, fun _ _ _ e => e, Nat.le_refl _, Nat.le_refl _⟩
    have pinned : ∀ {h0 : Heap} {ip : List (Addr × Obj)} {s' : Shared} {σ' : L2.St} {H' : Hp}, Inv (Fx X xx h0) ip σ' H' s' → s'.heap.IsGen s1.heap.objs.size s1.gens.size := fun J =>
      hgen _ (J.pin (s1.heap.objs.size, go) (List.mem_append_left _ (by show _ ∈ X.pn; rw [show X.pn = pn by rw [hX]; rfl, hpn0]; exact List.mem_singleton.mpr rfl))).1
    have wkeep : ∀ {h0 : Heap} {wp' ip : List (Addr × Obj)} {s₀ s' : Shared} {σ' : L2.St} {H' : Hp}, wp'.map (·.1) = W → (∀ p ∈ wp', s₀.heap.get? p.1 = some p.2) → Inv (Fx X xx h0) (wp' ++ ip) σ' H' s' →
        ∀ b ∈ W, ∀ o, s₀.heap.get? b = some o → s'.heap.get? b = some o := fun e1 e2 J b hb o eo => by
      rw [← e1] at hb
      obtain ⟨p, hp, rfl⟩ := List.mem_map.mp hb
      rw [e2 p hp] at eo
      cases eo
      exact (J.pin p (List.mem_append_right _ (List.mem_append_left _ hp))).1
    rw [← hX, ← hxx] at ht
    rw [← hX] at hq
    have sOs : ∀ {h0 : Heap} {ip : List (Addr × Obj)} {s' : Shared} {σ' : L2.St} {H' : Hp}, Inv (Fx X xx h0) ip σ' H' s' → s'.os = s.os := fun J => J.os.trans (by rw [hX]; rfl)
    have bs : ∀ {h0 : Heap} {ip : List (Addr × Obj)} {s' : Shared} {σ' : L2.St} {H' : Hp}, Inv (Fx X xx h0) ip σ' H' s' → Un (frs outer) [] H H' h0 s'.heap := fun J => by
      have q := J.base
      rw [show (Fx X xx _).fs = frs outer by rw [hX]; rfl, show (Fx X xx _).ex = [] by rw [hX]; rfl, show (Fx X xx _).H_0 = H from hH0] at q
      exact q
    have hk : ∀ {h0 : Heap} {ip : List (Addr × Obj)} {s' : Shared} {σ' : L2.St} {H' : Hp}, Inv (Fx X xx h0) ip σ' H' s' → HOk P w H' s'.heap := fun J => by
      have q := J.hok
      rw [show (Fx X xx _).prog = P by rw [hX]; rfl, show (Fx X xx _).w = w by rw [hX]; rfl] at q
      exact q
    have hMod : model X.prog X.w = model P w := by rw [hX]; rfl
    have hEnv : X.env = envOfC qual scope s.heap.objs.size f cdv := by rw [hX]; rfl
    have hA : X.A = Aw.deeper (envOfC qual scope s.heap.objs.size f cdv) := by rw [hX]; rfl
    refine seg_func ?_
    refine seg_imp (R := GRw X xx W s.heap.objs.size M (fun ys v => v = .non ∧ Q ys) fun s₀ e s' => CX P w outer H { s with heap := cut s.heap.objs.size s₀.heap } E e s' ∧ ∀ p ∈ pn, s'.heap.get? p.1 = some p.2)
      (Y := GYw X xx W Ls (s1.gens.size < ·) s.heap.objs.size It M) (fun n s₀ r s1' hR => ?_) (fun n s₀ v s1' kap kap' hkk hY => ?_) M ?_
    · cases r with
      | error e =>
        obtain ⟨q1, q2⟩ := hR
        exact .inr ⟨e, rfl, q1, hgen _ (q2 (s1.heap.objs.size, go) (by rw [hpn0]; exact List.mem_singleton.mpr rfl))⟩
      | ok fl =>
        cases fl with
        | next => exact False.elim hR
        | brk => exact False.elim hR
        | cont => exact False.elim hR
        | ret u =>
          obtain ⟨ys, v, wp', ip, σ', e1, hn, J, e2, rv, ev, hQ⟩ := hR
          subst ev
          obtain rfl : u = Value.none := rv
          rw [hH0] at J
          exact .inl ⟨.inl rfl, ys, sOs J, J.bare, bs J, hk J, wkeep e1 e2 J, J.nolimit, pinned J, hn, hQ⟩
    · obtain ⟨ys, y, wp', ip, σ', e1, hn, rv, hit, J, e2, kk⟩ := hY
      rw [hH0] at J
      exact ⟨ys, y, rv, hit, hn, sOs J, J.bare, bs J, hk J, wkeep e1 e2 J, J.nolimit, pinned J, fun hm s' z => hkk _ _ (kk hm s' z)⟩
    · subst hX
      subst hxx
      refine ht.run Aw W Ls wp [] _ M [] s2 _ [] _ _ id id s2 (start N vs) H _ ⟨hpn, fm, over_func, rfl, rfl, rfl⟩ ⟨ew, hwp, Nat.add_zero _, hgs2⟩ ⟨fun n ys wp' s₀ s' fl q hs => ?_, fun n ys wp' s₀ e s' q hx => ?_⟩ hG hq
      · cases fl with
        | next =>
          obtain ⟨σ', H', J, hst, hQ⟩ := hs
          exact seg_end (.ok (.ret .none)) ⟨ys, .non, wp', [], σ', q.w, q.n, forget fm J hst, q.p, rfl, rfl, hQ⟩
        | brk =>
          obtain ⟨_, _, _, r⟩ := hs
          exact False.elim r
        | cont =>
          obtain ⟨_, _, _, r⟩ := hs
          exact False.elim r
        | ret u =>
          obtain ⟨v, σ', H', J, rv, ev, hst, hQ⟩ := hs
          exact seg_end (.ok (.ret u)) ⟨ys, v, wp', [], σ', q.w, q.n, forget fm J hst, q.p, rv, ev, hQ⟩
      · refine seg_wrap ?_
        rw [over_func]
        refine wpAny_mono (show wpAny (model P w) (Aw.deeper (envOfC qual scope s.heap.objs.size f cdv)) (leaving (envOfC qual scope s.heap.objs.size f cdv) e) (fun _ s'' => CX P w outer H { s with heap := cut s.heap.objs.size s₀.heap } E e s'' ∧ ∀ p ∈ pn, s''.heap.get? p.1 = some p.2) (fun _ _ => False) s' from hx) (fun _ s'' r => ?_) fun _ s'' r => r.elim
        exact seg_end (.error e) r
  exact main _ _ _ _ rfl rfl rfl fun h => Heap.get?_push_size _ rfl
end GW

/-! Generators that sleep while anything is done: calls. -/
namespace GW
open PySem PySem.Spec PyProof.Rows L2 GenW
/-- what is no cell, not owned and was made after the call is kept; what is owned is there -/
abbrev OwA (ow : List Addr) (s : Shared) : Prop := ∀ b ∈ ow, ∃ o, s.heap.get? b = some o ∧ ∀ v, o.data ≠ .cell v
abbrev KwV (n0 : Nat) (ow : List Addr) (s₀ s1 : Shared) : Prop := ∀ b o, n0 ≤ b → b ∉ ow → (∀ v, o.data ≠ .cell v) → s₀.heap.get? b = some o → s1.heap.get? b = some o
def REv (P : Program) (w : World) (outer : List Env) (H : Hp) (s : Shared) (ow : List Addr) (a : Addr) (g N : Nat) (Q : List V → Prop) (E : XK) : GenEnd := fun n s₀ r s1 =>
  ((r = .ok (.ret .none) ∨ r = .ok .next) ∧ ∃ ys, s1.os = s.os ∧ AllBare s1.gens ∧ Un (frs outer) [] H H (cut s.heap.objs.size s₀.heap) s1.heap ∧ HOk P w H s1.heap ∧ KwV s.heap.objs.size ow s₀ s1 ∧ OwA ow s1 ∧
    s1.heap.NoLimit ∧ s1.heap.IsGen a g ∧ n + ys.length = N ∧ Q ys) ∨ ∃ e, r = .error e ∧ CX P w outer H { s with heap := cut s.heap.objs.size s₀.heap } E e s1 ∧ s1.heap.IsGen a g
/-- an item comes -/
def YIv (P : Program) (w : World) (base : Heap) (outer : List Env) (H : Hp) (s : Shared) (ow : List Addr) (a : Addr) (g N : Nat) (It : List V → V → Prop) : Protocol := fun n s₀ v s1 kap =>
  ∃ ys x, RelV x v ∧ It ys x ∧ n + 1 + ys.length = N ∧ s1.os = s.os ∧ AllBare s1.gens ∧ Un (frs outer) [] H H (cut s.heap.objs.size s₀.heap) s1.heap ∧ HOk P w H s1.heap ∧ KwV s.heap.objs.size ow s₀ s1 ∧ OwA ow s1 ∧
    s1.heap.NoLimit ∧ s1.heap.IsGen a g ∧ (ys.length + 1 < N → ∀ s', Slv P w base (frs outer) H ow (fun _ => False) s1 s' → kap (.send .none) s')
/-- a generator that has not begun -/
def GMv (P : Program) (w : World) (base : Heap) (k : Nat) (outer : List Env) (H : Hp) (s : Shared) (It : List V → V → Prop) (N : Nat) (Q : List V → Prop) (E : XK) (u : Value) (s' : Shared) : Prop :=
  ∃ (a : Addr) (g : Nat) (c : Code) (ow : List Addr), u = .ref a ∧ s.heap.objs.size ≤ a ∧ a < s'.heap.objs.size ∧ s'.heap.IsGen a g ∧ s'.gens[g]? = some (.fresh c) ∧ g = s.gens.size ∧ (∀ (i : Nat) (x : GenState), s.gens[i]? = some x → s'.gens[i]? = some x) ∧ s'.os = s.os ∧ AllBare s'.gens ∧ s'.heap.NoLimit ∧
    (∀ b o, s.heap.get? b = some o → s'.heap.get? b = some o) ∧ (∀ b ∈ ow, s.heap.objs.size ≤ b) ∧ a ∈ ow ∧ OwA ow s' ∧
    ∀ (A : Around) (s2 : Shared), Room k A → A.guards = some [] → A.frames = some outer → Slv P w base (frs outer) H ow (fun _ => False) s' s2 → g < s2.gens.size →
      Seg (model P w) A (REv P w outer H s ow a g N Q E) (YIv P w base outer H s ow a g N It) N s2 c ((model P w).den c) [] s2
structure GFv (P : Program) (w : World) (K : PySem.W.Frag) (mg : Str → Option Value) (base : Heap) (k : Nat) (f : Addr) (fd : FuncData) (ps : List Str) (sp : SpW) : Prop where
  len : ∀ vs H It N Q E, sp vs H It N Q E → vs.length = ps.length
  run : ∀ (A : Around) (outer : List Env) (s : Shared) (H : Hp) (args : Args) (us : List Value) (vs : List V) (It : List V → V → Prop) (N : Nat) (Q : List V → Prop) (E : XK), Room k A → (∀ b kvs, H b ≠ some (.dT kvs)) → Env0 P w K mg base A outer s H → BindsTo s fd args (ps.zip us) → Vals vs us → sp vs H It N Q E →
    codeAny (model P w) A (.call (.ref f) args) (fun r s' => match r with | .ok (.ret u) => GMv P w base k outer H s It N Q E u s' | _ => False) s
theorem gfv_of {P : Program} {w : World} {K : PySem.W.Frag} {mg : Str → Option Value} {base : Heap} {k : Nat} {f : Addr} {name qual : Str} {params : Arguments} {body : List Stmt} {scope : Scope} {dV kV doc pm cdv ct oc : Value} {an od : Option Addr}
    {osl : Array (Option Value)} {N ps : List Str} {sp : SpW} (lk : K.lookup f = some ⟨oc, od, .func (PySem.W.fnOf name qual params body scope dV kV doc pm an cdv ct), osl⟩) (hcd : PySem.W.codeIn K cdv qual = true) (S : GScope N ps scope) (hnc : ∀ n y, (cellsFrom n scope.names []).lookup y = none)
    (len : ∀ vs H It M Q E, sp vs H It M Q E → vs.length = ps.length)
    (hbody : ∀ (A : Around) (outer : List Env) (s : Shared) (H : Hp) (vs : List V) (It : List V → V → Prop) (M : Nat) (Q : List V → Prop) (E : XK) (pn : List (Addr × Obj)) (g : Nat), A.guards = some [] → (∀ b kvs, H b ≠ some (.dT kvs)) → HOk P w H s.heap → Room k (A.deeper (envOfC qual scope s.heap.objs.size f cdv)) → sp vs H It M Q E →
      ∃ t, GSsv (gcxOf P w K mg base N qual scope f cdv A outer s H E pn) (gxe P w qual scope f cdv A outer s H E pn) (fun _ => False) s.heap.objs.size It M (g + 1) body t ∧
        t { nx := fun ys _ H' => Stood (gcxOf P w K mg base N qual scope f cdv A outer s H E pn) H' ∧ Q ys, rt := fun ys v H' => v = .non ∧ Stood (gcxOf P w K mg base N qual scope f cdv A outer s H E pn) H' ∧ Q ys } [] (start N vs) H) :
    GFv P w K mg base (k + 1) f (PySem.W.fnOf name qual params body scope dV kV doc pm an cdv ct) ps sp := by
  refine ⟨len, fun A outer s H args us vs It M Q E hr hnT e0 hb r hsp => ?_⟩
  have hl := len _ _ _ _ _ _ hsp
  have KX : K.In s.heap := e0.mod.kin.keeps fun b o e => (e0.bs b o e).1
  have lim : s.heap.NoLimit := e0.mod.nolimit.keeps fun b o e => (e0.bs b o e).1
  have hkind : ∀ y ∈ ps.zip us, scope.names.lookup y.1 = some .local ∨ (scope.names.lookup y.1 = some .cell ∧ ((cellsFrom (s.heap.objs.size + 1) scope.names []).lookup y.1).isSome = true) := fun ⟨n, v⟩ hy =>
    (S.par n (List.of_mem_zip hy).1).elim .inl fun q => .inr ⟨q, PySem.W.cellsFrom_some _ _ _ (.inl q)⟩
  refine codeAny_call_generator hr.depth (KX _ _ lk) rfl S.co S.gen rfl (PySem.W.codeRec_of KX hcd) (hb _ _ _ _ ?_)
  refine wpAny_newFunctionEnv_cells S.kind hkind fun env he s1 x => ?_
  subst he
  have lim1 : s1.heap.NoLimit := lim.keeps x.toInCall.keep
  refine ⟨lim1, ?_⟩
  obtain ⟨h1, tk, es1, hk1⟩ := x.done
  have os1 : s1.os = s.os := by rw [es1]
  have gen1 : s1.gens = s.gens := by rw [es1]
  have lt1 := x.toInCall.ns.lt
  have sz1 := Nat.le_of_lt lt1
  have kp1 := x.toInCall.keep
  have main : ∀ (go : Obj) (nm qn : Value) (tk2 : Nat), go.cls = .type "generator" → go.data = .fields #[.int s1.gens.size 0, nm, qn] → go.slots = #[] → (∀ h : Heap, (h.push go).get? h.objs.size = some go) →
      GMv P w base (k + 1) outer H s It M Q E (.ref s1.heap.objs.size) { s1 with gens := s1.gens.push (.fresh (.func body (envOfC qual scope s.heap.objs.size f cdv))), toks := tk2, heap := s1.heap.push go } := by
    intro go nm qn tk2 hgc hgd0 hgs hgp
    have hgen : ∀ h : Heap, h.get? s1.heap.objs.size = some go → h.IsGen s1.heap.objs.size s1.gens.size := fun h e => ⟨go, nm, qn, e, hgc, hgd0, hgs⟩
    have hpushed := hgp s1.heap
    refine ⟨s1.heap.objs.size, s1.gens.size, _, [s.heap.objs.size, s1.heap.objs.size], rfl, sz1, ?_, hgen _ hpushed, Array.getElem?_push_size .., by rw [gen1], fun i y e => ?_, os1, ?_, lim1.keeps fun b o e => Heap.get?_push_of_some _ e, fun b o e => Heap.get?_push_of_some _ (kp1 b o e), fun b hb => ?_, by simp, fun b hb => ?_, ?_⟩
    · show _ < (s1.heap.push _).objs.size
      rw [Heap.size_push]
      exact Nat.lt_succ_self _
    · show (s1.gens.push _)[i]? = some y
      rw [gen1]
      obtain ⟨hi, _⟩ := Array.getElem?_eq_some_iff.mp e
      rw [Array.getElem?_push_lt hi, ← Array.getElem?_eq_getElem hi]
      exact e
    · exact AllBare.push (by rw [gen1]; exact e0.bare) rfl
    · have hb : b = s.heap.objs.size ∨ b = s1.heap.objs.size := by simpa using hb
      rcases hb with z | z <;> rw [z]
      · exact Nat.le_refl _
      · exact sz1
    · have hb : b = s.heap.objs.size ∨ b = s1.heap.objs.size := by simpa using hb
      rcases hb with z | z
      · obtain ⟨oc, es, ep, hoc, hdc, _⟩ := x.toInCall.ns
        have hoc : s1.heap.get? s.heap.objs.size = some oc := hoc
        rw [z]
        exact ⟨oc, Heap.get?_push_of_some _ hoc, fun v q => by rw [hdc] at q; cases q⟩
      · rw [z]
        exact ⟨go, hpushed, fun v q => by rw [hgd0] at q; cases q⟩
    intro Aw s2 hrw hgu hfr hSl hgs2
    have e0w : Env0 P w K mg base Aw outer s H := ⟨hfr, e0.mod, e0.bs, e0.bsz, e0.funs, e0.frf, e0.hok, e0.bare⟩
    obtain ⟨pn, hpn0⟩ : ∃ pn, pn = [(s1.heap.objs.size, go)] := ⟨_, rfl⟩
    obtain ⟨t, ht, hq⟩ := hbody Aw outer s H vs It M Q E pn s1.gens.size hgu hnT e0.hok (hrw.deeper _) hsp
    obtain ⟨X, hX⟩ : ∃ X, X = gcxOf P w K mg base N qual scope f cdv Aw outer s H E pn := ⟨_, rfl⟩
    obtain ⟨xx, hxx⟩ : ∃ xx, xx = gxe P w qual scope f cdv Aw outer s H E pn := ⟨_, rfl⟩
    have I1 : Inv (gcxOf P w K mg base N qual scope f cdv Aw outer s H E []) [] (start N vs) H s1 := inv_startG S hrw.hd e0w hl r x
    obtain ⟨sp, hsp'⟩ : ∃ sp : Shared, sp = { s1 with gens := s1.gens.push (.fresh (.func body (envOfC qual scope s.heap.objs.size f cdv))), toks := tk2, heap := s1.heap.push go } := ⟨_, rfl⟩
    rw [← hsp'] at hSl
    have spH : sp.heap = s1.heap.push go := by rw [hsp']
    have kp2 : ∀ b o, s1.heap.get? b = some o → sp.heap.get? b = some o := fun b o e => by rw [spH]; exact Heap.get?_push_of_some _ e
    have bareP : AllBare sp.gens := by rw [hsp']; exact AllBare.push (by rw [gen1]; exact e0.bare) rfl
    have I2 : Inv (gcxOf P w K mg base N qual scope f cdv Aw outer s H E []) [] (start N vs) H sp :=
      I1.call' (ch := []) (by rw [hsp']) (Un.kept kp2) (I1.hok.kept kp2) bareP fun b z => by simp at z
    have hea : sp.heap.get? s1.heap.objs.size = some go := by rw [spH]; exact hpushed
    have hgd : ∀ v, go.data ≠ .cell v := fun v q => by rw [hgd0] at q; cases q
    have hcl : ∀ y c, (cellsFrom (s.heap.objs.size + 1) scope.names []).lookup y = some c → s.heap.objs.size < c ∧ c < s1.heap.objs.size := fun y c e => by
      refine ⟨x.above y c (PySem.mem_of_lookup e), ?_⟩
      obtain ⟨v, ob, ho, _⟩ := I1.cell y c e
      exact Heap.lt_size ho
    have young : ∀ b, s1.heap.objs.size ≤ b → H b = none ∧ b ≠ s.heap.objs.size ∧ b ∉ frs outer ∧ s.heap.objs.size ≤ b ∧ ∀ y c, (cellsFrom (s.heap.objs.size + 1) scope.names []).lookup y = some c → c ≠ b := fun b hb => by
      refine ⟨I1.hok.fresh hb, Nat.ne_of_gt (Nat.lt_of_lt_of_le lt1 hb), I1.nofs hb, Nat.le_trans sz1 hb, fun y c e z => ?_⟩
      have q := (hcl y c e).2
      rw [z] at q
      exact Nat.lt_irrefl _ (Nat.lt_of_lt_of_le q hb)
    have hG : Inv X ([] ++ []) (start N vs) H sp := by
      rw [hX]
      refine Inv.pinnedG I2 fun p hp => ?_
      rw [hpn0] at hp
      rcases List.mem_append.mp hp with z | z
      · rw [List.mem_singleton.mp z]
        obtain ⟨y1, y2, y3, _, _⟩ := young s1.heap.objs.size (Nat.le_refl _)
        exact ⟨hea, y1, y2, y3, hgd⟩
      · exact absurd z (by simp)
    have hH0 : X.H_0 = H := by rw [hX]; rfl
    have fm : Fv X s.heap.objs.size [s.heap.objs.size, s1.heap.objs.size] := by
      rw [hX]
      exact ⟨rfl, ⟨Nat.le_refl _, List.mem_cons_self⟩, fun y => hnc _ y, hnT, ⟨_, e0.hok⟩, fun b hb => e0.hok.fresh hb⟩
    have hpn : ∀ p ∈ X.pn ++ [], p.1 ∈ [s.heap.objs.size, s1.heap.objs.size] := fun p hp => by
      rw [List.append_nil, show X.pn = pn by rw [hX]; rfl, hpn0] at hp
      rw [List.mem_singleton.mp hp]
      simp
    have hFx : Fx X xx s.heap = X := by rw [hX, hxx]; rfl
    have hG0 : Inv (Fx X xx s.heap) ([] ++ []) (start N vs) X.H_0 sp := by rw [hFx, hH0]; exact hG
    obtain ⟨wp, ew, hG, hwp⟩ := wakeV (Gk := fun _ => False) fm hpn (Nat.le_refl _) hG0 (by rw [hX]; exact hSl)
    have pinned : ∀ {h0 : Heap} {ip : List (Addr × Obj)} {s' : Shared} {σ' : L2.St} {H' : Hp}, Inv (Fx X xx h0) ip σ' H' s' → s'.heap.IsGen s1.heap.objs.size s1.gens.size := fun J =>
      hgen _ (J.pin (s1.heap.objs.size, go) (List.mem_append_left _ (by show _ ∈ X.pn; rw [show X.pn = pn by rw [hX]; rfl, hpn0]; exact List.mem_singleton.mpr rfl))).1
    have wkeep : ∀ {h0 : Heap} {wp' ip : List (Addr × Obj)} {s₀ s' : Shared} {σ' : L2.St} {H' : Hp}, wp'.map (·.1) = Wd s.heap.objs.size [s.heap.objs.size, s1.heap.objs.size] s₀ → (∀ p ∈ wp', s₀.heap.get? p.1 = some p.2) → Inv (Fx X xx h0) (wp' ++ ip) σ' H' s' →
        KwV s.heap.objs.size [s.heap.objs.size, s1.heap.objs.size] s₀ s' := fun e1 e2 J b o hb ho hc eo => by
      have hm := mem_Wd.mpr ⟨hb, ho, o, eo, hc⟩
      rw [← e1] at hm
      obtain ⟨p, hp, rfl⟩ := List.mem_map.mp hm
      rw [e2 p hp] at eo
      cases eo
      exact (J.pin p (List.mem_append_right _ (List.mem_append_left _ hp))).1
    rw [← hX, ← hxx] at ht
    rw [← hX] at hq
    have sOs : ∀ {h0 : Heap} {ip : List (Addr × Obj)} {s' : Shared} {σ' : L2.St} {H' : Hp}, Inv (Fx X xx h0) ip σ' H' s' → s'.os = s.os := fun J => J.os.trans (by rw [hX]; rfl)
    have bs : ∀ {h0 : Heap} {ip : List (Addr × Obj)} {s' : Shared} {σ' : L2.St} {H' : Hp}, Inv (Fx X xx h0) ip σ' H' s' → Un (frs outer) [] H H' h0 s'.heap := fun J => by
      have q := J.base
      rw [show (Fx X xx _).fs = frs outer by rw [hX]; rfl, show (Fx X xx _).ex = [] by rw [hX]; rfl, show (Fx X xx _).H_0 = H from hH0] at q
      exact q
    have hk : ∀ {h0 : Heap} {ip : List (Addr × Obj)} {s' : Shared} {σ' : L2.St} {H' : Hp}, Inv (Fx X xx h0) ip σ' H' s' → HOk P w H' s'.heap := fun J => by
      have q := J.hok
      rw [show (Fx X xx _).prog = P by rw [hX]; rfl, show (Fx X xx _).w = w by rw [hX]; rfl] at q
      exact q
    have owA : ∀ {h0 : Heap} {ip : List (Addr × Obj)} {s' : Shared} {σ' : L2.St} {H' : Hp}, Inv (Fx X xx h0) ip σ' H' s' → OwA [s.heap.objs.size, s1.heap.objs.size] s' := fun J b hb => by
      have hb : b = s.heap.objs.size ∨ b = s1.heap.objs.size := by simpa using hb
      rcases hb with z | z
      · obtain ⟨mm, ⟨oc, es, ep, hoc, hdc, _⟩, _⟩ := J.loc
        rw [show (Fx X xx _).env.locals = s.heap.objs.size by rw [hX]; rfl] at hoc
        rw [z]
        exact ⟨oc, hoc, fun v q => by rw [hdc] at q; cases q⟩
      · rw [z]
        exact ⟨go, (J.pin (s1.heap.objs.size, go) (List.mem_append_left _ (by show _ ∈ X.pn; rw [show X.pn = pn by rw [hX]; rfl, hpn0]; exact List.mem_singleton.mpr rfl))).1, hgd⟩
    refine seg_func ?_
    refine seg_imp (R := GRv X xx [s.heap.objs.size, s1.heap.objs.size] s.heap.objs.size M (fun ys v => v = .non ∧ Q ys) fun s₀ e s' => CX P w outer H { s with heap := cut s.heap.objs.size s₀.heap } E e s' ∧ ∀ p ∈ pn, s'.heap.get? p.1 = some p.2)
      (Y := GYv X xx [s.heap.objs.size, s1.heap.objs.size] (fun _ => False) s.heap.objs.size It M) (fun n s₀ r s1' hR => ?_) (fun n s₀ v s1' kap kap' hkk hY => ?_) M ?_
    · cases r with
      | error e =>
        obtain ⟨q1, q2⟩ := hR
        exact .inr ⟨e, rfl, q1, hgen _ (q2 (s1.heap.objs.size, go) (by rw [hpn0]; exact List.mem_singleton.mpr rfl))⟩
      | ok fl =>
        cases fl with
        | next => exact False.elim hR
        | brk => exact False.elim hR
        | cont => exact False.elim hR
        | ret u =>
          obtain ⟨ys, v, wp', ip, σ', e1, hn, J, e2, rv, ev, hQ⟩ := hR
          subst ev
          obtain rfl : u = Value.none := rv
          rw [hH0] at J
          exact .inl ⟨.inl rfl, ys, sOs J, J.bare, bs J, hk J, wkeep e1 e2 J, owA J, J.nolimit, pinned J, hn, hQ⟩
    · obtain ⟨ys, y, wp', ip, σ', e1, hn, rv, hit, J, e2, kk⟩ := hY
      rw [hH0] at J
      exact ⟨ys, y, rv, hit, hn, sOs J, J.bare, bs J, hk J, wkeep e1 e2 J, owA J, J.nolimit, pinned J, fun hm s' z => hkk _ _ (kk hm s' (by rw [hX]; exact z))⟩
    · subst hX
      subst hxx
      refine ht.run Aw [s.heap.objs.size, s1.heap.objs.size] wp [] _ M [] s2 _ [] _ _ id id s2 (start N vs) H _ ⟨hpn, fm, over_func, rfl, rfl, rfl⟩ ⟨ew, hwp, Nat.add_zero _, hgs2⟩ ⟨fun n ys wp' s₀ s' fl q hs => ?_, fun n ys wp' s₀ e s' q hx => ?_⟩ hG hq
      · cases fl with
        | next =>
          obtain ⟨σ', H', J, hst, hQ⟩ := hs
          exact seg_end (.ok (.ret .none)) ⟨ys, .non, wp', [], σ', q.w, q.n, forget2 fm.nT fm.hk J hst, q.p, rfl, rfl, hQ⟩
        | brk =>
          obtain ⟨_, _, _, r⟩ := hs
          exact False.elim r
        | cont =>
          obtain ⟨_, _, _, r⟩ := hs
          exact False.elim r
        | ret u =>
          obtain ⟨v, σ', H', J, rv, ev, hst, hQ⟩ := hs
          exact seg_end (.ok (.ret u)) ⟨ys, v, wp', [], σ', q.w, q.n, forget2 fm.nT fm.hk J hst, q.p, rv, ev, hQ⟩
      · refine seg_wrap ?_
        rw [over_func]
        refine wpAny_mono (show wpAny (model P w) (Aw.deeper (envOfC qual scope s.heap.objs.size f cdv)) (leaving (envOfC qual scope s.heap.objs.size f cdv) e) (fun _ s'' => CX P w outer H { s with heap := cut s.heap.objs.size s₀.heap } E e s'' ∧ ∀ p ∈ pn, s''.heap.get? p.1 = some p.2) (fun _ _ => False) s' from hx) (fun _ s'' r => ?_) fun _ s'' r => r.elim
        exact seg_end (.error e) r
  exact main _ _ _ _ rfl rfl rfl fun h => Heap.get?_push_size _ rfl
end GW

/-! Generators taken one item at a time: the consumer. -/
namespace GW
open PySem PySem.Spec PyProof.Rows L2 GenW
/-- dicts with tuples as keys are forgotten -/
def noT (H : Hp) : Hp := fun b => match H b with | some (.dT _) => none | o => o
theorem noT_some {H : Hp} {b : Addr} {u : HO} (e : noT H b = some u) : H b = some u := by
  unfold noT at e
  split at e
  · cases e
  · exact e
theorem noT_of {H : Hp} {b : Addr} {u : HO} (e : H b = some u) (h : ∀ kvs, u ≠ .dT kvs) : noT H b = some u := by
  unfold noT
  split
  · rename_i kvs q
    rw [e] at q
    cases q
    exact absurd rfl (h kvs)
  · exact e
theorem noT_none {H : Hp} {b : Addr} (e : H b = none) : noT H b = none := by
  unfold noT
  rw [e]
theorem noT_no {H : Hp} (b : Addr) (kvs : List (List Key × V)) : noT H b ≠ some (.dT kvs) := fun e => by
  have q := noT_some e
  unfold noT at e
  rw [q] at e
  cases e
theorem hok_noT {P : Program} {w : World} {H : Hp} {h : Heap} (x : HOk P w H h) : HOk P w (noT H) h := fun a o e =>
  (x a o (noT_some e)).stay (fun _ _ _ q => q) (fun b q => noT_of q (fun _ z => by cases z)) fun b xs q => noT_of q (fun _ z => by cases z)
theorem inv_noT {X : Cx} {pins : List (Addr × Obj)} {σ : L2.St} {H : Hp} {s : Shared} (I : Inv X pins σ H s) : Inv X pins σ (noT H) s := by
  refine ⟨I.ok, I.os, I.bare, ⟨I.base.keep, I.base.slot, fun b o q n x => noT_none (I.base.free b o q n x), I.base.there, fun b xs q => noT_of (I.base.tups b xs q) (fun _ z => by cases z), fun b o u q => noT_of (I.base.frzs b o u q) (fun _ z => by cases z), fun b ps q => ?_⟩,
    I.loc, I.cell, noT_none I.free, fun y c e => noT_none (I.freeC y c e), fun p hp => ?_, hok_noT I.hok, I.len⟩
  · obtain ⟨m, e⟩ := I.base.tbls b ps q
    exact ⟨m, noT_of e fun _ z => by cases z⟩
  · obtain ⟨e1, e2, e3⟩ := I.pin p hp
    exact ⟨e1, noT_none e2, e3⟩
/-- the consumer's context behind an item -/
theorem item_inv {Y : Cx} {pins : List (Addr × Obj)} {σ : L2.St} {H : Hp} {s₀ s1 : Shared} {W : List Addr} {n0 : Nat} (I : Inv Y pins σ H s₀) (hos : s1.os = s₀.os) (hb : AllBare s1.gens) (un : Un (frs Y.stack) [] H H (cut n0 s₀.heap) s1.heap) (hok : HOk Y.prog Y.w H s1.heap)
    (kw : ∀ b ∈ W, ∀ o, s₀.heap.get? b = some o → s1.heap.get? b = some o)
    (hch : ∀ b, n0 ≤ b → b ∉ W → (b ∈ Y.ex ∨ Y.s_0.heap.objs.size ≤ b) ∧ b ≠ Y.env.locals ∧ (∀ x c, Y.env.cells.lookup x = some c → c ≠ b) ∧ ∀ p ∈ Y.pn ++ pins, p.1 ≠ b) : Inv Y pins σ H s1 := by
  obtain ⟨hh, gg, dd, tt, oo⟩ := s1
  obtain rfl : oo = s₀.os := hos
  have old : ∀ b o, b ∉ (List.range s₀.heap.objs.size).filter (fun b => decide (n0 ≤ b ∧ b ∉ W)) → s₀.heap.get? b = some o → b < n0 ∨ b ∈ W := fun b o h e => by
    rcases Nat.lt_or_ge b n0 with q | q
    · exact .inl q
    · refine .inr (Classical.byContradiction fun hw => h (List.mem_filter.mpr ⟨List.mem_range.mpr (Heap.lt_size e), decide_eq_true ⟨q, hw⟩⟩))
  refine I.step (h' := hh) (g' := gg) (t' := tt) (d' := dd) (ch := (List.range s₀.heap.objs.size).filter fun b => decide (n0 ≤ b ∧ b ∉ W)) (fun b h => ?_) (fun b o h1 h2 h3 e n => ?_) (fun b o h1 h2 h3 e n => ?_) (fun _ _ _ _ n => n) (fun b o h3 e => ?_) (fun _ _ q => q) (fun _ _ _ q => q) (fun b ps q => ⟨#[], by rw [q]; simp⟩) (fun m hm => ?_) hok hb
  · have z := of_decide_eq_true (List.mem_filter.mp h).2
    exact hch b z.1 z.2
  · rcases old b o h3 e with q | q
    · refine un.keep b o ((cut_get q).trans e) n (fun hm => ?_) (by simp)
      rcases List.mem_cons.mp (I.stkSub b hm) with z | z
      · exact h1 z
      · exact h2 z
    · exact kw b q o e
  · rcases old b o h3 e with q | q
    · exact un.any ((cut_get q).trans e) n (by simp)
    · exact ⟨o.slots, kw b q o e⟩
  · rcases old b o h3 e with q | q
    · exact un.there b o ((cut_get q).trans e) (by simp)
    · exact ⟨o, kw b q o e⟩
  · obtain ⟨o, es, ep, ho, r⟩ := hm
    rcases Nat.lt_or_ge Y.env.locals n0 with q | q
    · obtain ⟨sl, e⟩ := un.any ((cut_get q).trans ho) I.free (by simp)
      exact ⟨_, es, ep, e, r⟩
    · refine ⟨o, es, ep, kw _ (Classical.byContradiction fun hw => ?_) o ho, r⟩
      exact (hch _ q hw).2.1 rfl
/-- what stands behind an item or the end, since s₀ -/
structure Stp (P : Program) (w : World) (outer : List Env) (H : Hp) (n0 : Nat) (W : List Addr) (a : Addr) (g : Nat) (s₀ s1 : Shared) : Prop where
  os : s1.os = s₀.os
  bare : AllBare s1.gens
  un : Un (frs outer) [] H H (cut n0 s₀.heap) s1.heap
  hok : HOk P w H s1.heap
  kw : ∀ b ∈ W, ∀ o, s₀.heap.get? b = some o → s1.heap.get? b = some o
  lim : s1.heap.NoLimit
  gen : s1.heap.IsGen a g
/-- the generator sleeps at s: n turns are left -/
structure Slp (P : Program) (w : World) (A : Around) (outer : List Env) (H : Hp) (sc : Shared) (W Ls : List Addr) (a : Addr) (g N : Nat) (It : List V → V → Prop) (Q : List V → Prop) (E : XK) (n : Nat) (s : Shared) : Prop where
  os : s.os = sc.os
  lim : s.heap.NoLimit
  gen : s.heap.IsGen a g
  go : ∃ gs, s.gens[g]? = some gs ∧ gs.Goes (model P w) A.in1 (REw P w outer H sc W a g N Q E) (YIw P w outer H sc W Ls a g N It) n (.send .none) (s.setGen g .running)
/-- next() of a generator; what its end tells may lean on where it was woken -/
theorem next_own {P : Program} {w : World} {A : Around} {E : Value → Shared → Prop} {s : Shared} {a : Addr} {g n : Nat} {gs : GenState} {R : GenEnd} {Y : Protocol} {Q : Option Value → Shared → Prop} (hh : A.handled = none)
    (hl : s.heap.NoLimit) (hroom : A.depth < recursionLimit) (hg : s.heap.IsGen a g) (hgs : s.gens[g]? = some gs) (hgo : gs.Goes (model P w) A.in1 R Y n (.send .none) (s.setGen g .running))
    (hY : ∀ v s₁ gs', gs'.bare = true → Y (n - 1) (s.setGen g .running) v s₁ (fun r' s'' => match n with
        | 0 => False
        | m + 1 => gs'.Goes (model P w) A.in1 R Y m r' s'') → Q (some v) (s₁.setGen g gs'))
    (hR : ∀ r s₁, R n (s.setGen g .running) r s₁ → ((r = .ok (.ret .none) ∨ r = .ok .next) ∧ ∀ h', (∀ b o, s₁.heap.get? b = some o → h'.get? b = some o) → Q none { s₁.setGen g .finished with heap := h' }) ∨
      ∃ e, r = .error e ∧ s₁.heap.IsGen a g ∧ NotStop (model P w) e s₁.heap ∧ E e (s₁.setGen g .finished)) :
    wpAny (model P w) A (pyNext (.ref a)) Q E s := by
  unfold pyNext
  refine wpAny_bind (wpAny_attempt (wpAny_callSpecial?_slot (name := Str.ofString "__next__") hg.typeIs slot_gen_next
    (wpAny_call_entry slot_gen_next hg.typeIs entry_gen_next ?_ (args_gen_next _))))
  show wpAny _ A.in1 (Builtin.Generator.genWake (.ref a) (.send .none)) _ _ s
  unfold Builtin.Generator.genWake
  refine wpAny_bind (wpAny_holding (wpAny_genNumber hg (wpAny_bind (wpAny_genState hgs ?_))))
  cases gs with
  | running => exact hgo.elim
  | finished => exact hgo.elim
  | _ =>
    refine wpAny_bind (wpAny_roomToWake hl hroom ?_)
    show wpAny _ A.in1 (.resume g (.send .none) [] _) _ _ s
    refine wpAny_resumeQ hgs hgo (fun x s₁ hx => ?_) (fun v s₁ gs' hb hv => ?_)
    · rcases hR x s₁ hx with ⟨hr, hp⟩ | ⟨e, rfl, hg1, hns, hq⟩
      · have hres : End.result (.ret x) = .returned .none := by
          rcases hr with hr | hr <;> rw [hr] <;> rfl
        first | rw [hres] | simp only [hres]
        show wpAny _ A.in1 (newExc (.type "StopIteration") [] >>= _) _ _ _
        refine wpAny_bind ?_
        simp only [newExc, newTuple]
        refine wpAny_bind (wpAny_newObj_type ?_ (by size_fits))
        refine wpAny_bind (m := firstArgMember _ _) (wpAny_of_eq (a := Value.none) (by first | rfl | (simp only [firstArgMember]; rfl)) ?_)
        refine wpAny_newObj_type ?_ (by size_fits)
        simp only [raiseNew]
        refine wpAny_bind (wpAny_bind (wpAny_handled ?_))
        first | rw [show A.in1.handled = none from hh] | rw [hh]
        refine wpAny_throw ?_
        refine wpAny_bind (wpAny_isInstance (T := "StopIteration") (b := true) ⟨_, Heap.get?_push_size _ rfl, rfl⟩ isSubtype_stop ?_)
        exact wpAny_pure (hp _ fun b o hb => Heap.get?_push_of_some _ (Heap.get?_push_of_some _ hb))
      · obtain ⟨o, nm, qn, ho, hc, hd, hsl⟩ := hg1
        show wpAny _ A.in1 (Builtin.Generator.genLeft (.ref a) e) _ _ _
        unfold Builtin.Generator.genLeft Builtin.Generator.madeByALambda
        refine wpAny_bind (wpAny_bind (wpAny_load (o := o) ho (wpAny_pure ?_)))
        refine wpAny_bind (hns _ _ _ _ rfl ?_)
        rw [Bool.and_false, if_neg Bool.false_ne_true]
        unfold Builtin.Generator.genEscaped
        first
          | refine wpAny_bind (hns _ _ _ _ rfl ?_)
          | refine wpAny_bind (wpAny_pure (wpAny_bind (hns _ _ _ _ rfl ?_)))
        rw [if_pos (show (!false) = true from rfl)]
        first
          | refine wpAny_throw ?_
          | refine wpAny_bind (wpAny_throw ?_)
        refine wpAny_bind (hns _ _ _ _ rfl ?_)
        rw [if_neg Bool.false_ne_true]
        exact wpAny_throw hq
    · exact wpAny_pure ⟨v, rfl, wpAny_pure (hY v s₁ gs' hb hv)⟩
theorem set_other {s : Shared} {g i : Nat} {x : GenState} (h : i ≠ g) : (s.setGen g x).gens[i]? = s.gens[i]? := by
  show (s.gens.setIfInBounds g x)[i]? = _
  rw [Array.getElem?_setIfInBounds_ne (Ne.symm h)]
theorem next_gw {P : Program} {w : World} {A : Around} {outer : List Env} {H : Hp} {sc s : Shared} {W Ls : List Addr} {a : Addr} {g N n : Nat} {It : List V → V → Prop} {Q : List V → Prop} {E : XK} {Qn : Option Value → Shared → Prop} {Er : Value → Shared → Prop} (hh : A.handled = none) (hroom : A.depth < recursionLimit) (ha : a ∉ W ∧ a ∉ Ls) (hc : cStatics ∉ W ∧ cStatics ∉ Ls)
    (h : Slp P w A outer H sc W Ls a g N It Q E (n + 1) s)
    (hY : ∀ ys y v s1, RelV y v → It ys y → n + 1 + ys.length = N → Stp P w outer H sc.heap.objs.size W a g s s1 →
      (ys.length + 1 < N → ∀ s', Slw W Ls (g ≤ ·) s1 s' → Slp P w A outer H sc W Ls a g N It Q E n s') → Qn (some v) s1)
    (hP : ∀ ys s1, n + 1 + ys.length = N → Q ys → Stp P w outer H sc.heap.objs.size W a g s s1 → Qn none s1)
    (hE : ∀ e s1, CX P w outer H { sc with heap := cut sc.heap.objs.size s.heap } E e s1 → NotStop (model P w) e s1.heap ∧ Er e (s1.setGen g .finished)) :
    wpAny (model P w) A (pyNext (.ref a)) Qn Er s := by
  obtain ⟨hos, hl, hg, gs, hgs, hgo⟩ := h
  have hgl : g < s.gens.size := (Array.getElem?_eq_some_iff.mp hgs).1
  refine wpAny_mono (wpAny_gsz (n := g + 1) hgl (next_own (Q := fun r s1 => g + 1 ≤ s1.gens.size → Qn r s1) (E := fun e s1 => g + 1 ≤ s1.gens.size → Er e s1) hh hl hroom hg hgs hgo (fun v s1 gs' hbare hv => ?_) fun r s1 hr => ?_)) (fun _ _ q => q) fun _ _ q => q
  · intro hsz
    obtain ⟨ys, y, rv, it, hn, os1, b1, un, hok, kw, lim, ig, kap⟩ := hv
    have hsz1 : g < s1.gens.size := by
      have q : (s1.setGen g gs').gens.size = s1.gens.size := setGen_size _ _ _
      have hsz' : g + 1 ≤ (s1.setGen g gs').gens.size := hsz
      omega
    refine hY ys y v (s1.setGen g gs') rv it hn ⟨os1.trans hos.symm, allBare_setGen b1 hbare, un, hok, kw, lim, ig⟩ fun hm s' z => ?_
    have hgs' : s'.gens[g]? = some gs' := z.slot g gs' (Nat.le_refl _) (setGen_at hsz1)
    have keepG : s'.heap.IsGen a g := by
      obtain ⟨o, nm, qn, ho, r⟩ := ig
      exact ⟨o, nm, qn, z.keep a o ha.1 ha.2 ho, r⟩
    refine ⟨z.os.trans os1, ?_, keepG, gs', hgs', ?_⟩
    · obtain ⟨mc, hns, hnn⟩ := lim
      exact ⟨mc, hns.at' fun o e => z.keep _ o hc.1 hc.2 e, hnn⟩
    · refine kap hm (s'.setGen g .running) ⟨z.os, allBare_setGen z.bare rfl, z.keep, z.wide, z.fr, fun i x hi e => ?_, ?_, z.hsz⟩
      · rw [set_other (Nat.ne_of_gt hi)]
        refine z.slot i x (Nat.le_of_lt hi) ?_
        rw [set_other (Nat.ne_of_gt hi)]
        exact e
      · have q1 : (s1.setGen g gs').gens.size = s1.gens.size := setGen_size _ _ _
        have q2 : (s'.setGen g .running).gens.size = s'.gens.size := setGen_size _ _ _
        rw [q2, ← q1]
        exact z.gsz
  · rcases hr with ⟨hr, ys, os1, b1, un, hok, kw, lim, ig, hn, hq⟩ | ⟨e, rfl, cx, ig⟩
    · refine .inl ⟨hr, fun h' hk _ => ?_⟩
      refine hP ys _ hn hq ⟨os1.trans hos.symm, allBare_setGen b1 rfl, ?_, ?_, fun b hb o e => hk b o (kw b hb o e), ?_, ?_⟩
      · exact un.trans (Un.kept hk)
      · exact hok.kept hk
      · exact lim.keeps hk
      · exact ig.keeps hk
    · obtain ⟨q1, q2⟩ := hE e s1 cx
      exact .inr ⟨e, rfl, ig, q1, fun _ => q2⟩
end GW

/-! Generators taken one item at a time: an expression that makes one; [x for x in g]. -/
namespace GW
open PySem PySem.Spec PyProof.Rows L2 GenW
/-- an expression whose value is a generator that has not begun -/
abbrev TGn := L2.St → Hp → (List V → V → Prop) → Nat → (List V → Prop) → (Hp → Prop) → Prop
structure PGw (X : Cx) (k : Nat) (e : Expr) (tg : TGn) (E : XK) : Prop where
  run : ∀ (pins : List (Addr × Obj)) (s : Shared) (σ : L2.St) (H : Hp) (It : List V → V → Prop) (N : Nat) (Q : List V → Prop) (P : Hp → Prop) (gm : Nat), gm ≤ s.gens.size → Inv X pins σ H s → tg σ H It N Q P → wpAny (model X.prog X.w) X.A (eval e X.env)
    (fun u s' => ∃ H1 sc, Inv X pins σ H1 sc ∧ (∀ b kvs, H1 b ≠ some (.dT kvs)) ∧ GMw X.prog X.w X.base k X.stack H1 sc It N Q E u s' ∧ P H1 ∧ gm ≤ sc.gens.size) X.xe s
section
variable {X : Cx} {k : Nat} {f C : Addr} {fd : FuncData} {ps : List Str} {sp : SpW} {m : Str} {p pos pos' apos : Pos} {o : Expr} {ta : TE} {Fg : Hp → Hp → Prop}
/-- what the consumer forgets ahead of the call -/
abbrev Forg (X : Cx) (Fg : Hp → Hp → Prop) : Prop := ∀ (pins : List (Addr × Obj)) (σ : L2.St) (H Hn : Hp) (s : Shared), Inv X pins σ H s → Fg H Hn → Inv X pins σ Hn s ∧ ∀ b kvs, Hn b ≠ some (.dT kvs)
theorem forg_noT : Forg X fun H Hn => Hn = noT H := fun pins σ H Hn s I e => by
  subst e
  exact ⟨inv_noT I, fun b kvs => noT_no b kvs⟩
theorem run_gfw {pins : List (Addr × Obj)} {σ : L2.St} {H : Hp} {s : Shared} {us : List Value} {vs : List V} {It : List V → V → Prop} {N : Nat} {Q : List V → Prop} {E : XK} {P : Hp → Prop} {E1 : Value → Shared → Prop} {gm : Nat} (F : GFw X.prog X.w X.K X.mg X.base k f fd ps sp) (hr : Room k X.A) (hb : Binds X.K fd ps []) (fg : Forg X Fg) (hgm : gm ≤ s.gens.size)
    (I : Inv X pins σ H s) (r : Vals vs us) (h : ∃ Hn, Fg H Hn ∧ sp vs Hn It N Q E ∧ P Hn) :
    wpAny (model X.prog X.w) X.A (call (.ref f) us) (fun u s' => ∃ H1 sc, Inv X pins σ H1 sc ∧ (∀ b kvs, H1 b ≠ some (.dT kvs)) ∧ GMw X.prog X.w X.base k X.stack H1 sc It N Q E u s' ∧ P H1 ∧ gm ≤ sc.gens.size) E1 s := by
  obtain ⟨Hn, hf, h, hP⟩ := h
  obtain ⟨I1, nT⟩ := fg pins σ H Hn s I hf
  have hl2 : (us ++ []).length = ps.length := by rw [List.append_nil, ← r.length]; exact F.len _ _ _ _ _ _ h
  have hbs := hb s us I1.kIn hl2
  rw [List.append_nil] at hbs
  refine wpAny_call (codeAny_mono (F.run X.A X.stack s Hn ⟨us, []⟩ us vs It N Q E hr nT I1.env0 hbs r h) fun r s' hq => ?_)
  cases r with
  | error e => exact False.elim hq
  | ok fl =>
    cases fl with
    | ret u => exact ⟨Hn, s, I1, nT, hq, hP, hgm⟩
    | next => exact False.elim hq
    | brk => exact False.elim hq
    | cont => exact False.elim hq
def tMethGw (C : Addr) (m : Str) (sp : SpW) (Fg : Hp → Hp → Prop) (E : XK) (ta : TE) (t : TA) : TGn := fun σ H It N Q P => ta σ H fun x H1 => ∃ a dx fs, x = .ref a ∧ H1 a = some (.ins C dx fs) ∧ fs.lookup m = none ∧
  t σ H1 fun vs H2 => ∃ Hn, Fg H2 Hn ∧ sp (x :: vs) Hn It N Q E ∧ P Hn
/-- o.m(e, ..) of a generator method -/
theorem pgw_meth {E : XK} {pl : Sem Bool} {e : Expr} {es : List Expr} {t : TA} (he : PE X o ta) (c : Cls X.K C) (hm : Meth X.K C m f) (F : GFw X.prog X.w X.K X.mg X.base k f fd ps sp) (hr : Room k X.A) (hb : Binds X.K fd ps []) (fg : Forg X Fg) (ha : PA X (e :: es) t)
    (hst : starEach (e :: es) X.env = (false, eval e X.env) :: starEach es X.env := by rfl) (hpl : (backTo pos' (starEach es X.env)).any (·.1) = false := by rfl)
    (ht : eval (.Call (.Attribute o m apos) (e :: es) [] pos') X.env = (do
      let ov ← eval o X.env
      standAt apos.atName
      let (f, first) ← holding [ov] (getMethod ov m pl)
      callWith pos' f first (backTo pos' (starEach (e :: es) X.env)) (backToKw pos' (keywordEach [] X.env))) := by rfl) :
    PGw X k (.Call (.Attribute o m apos) (e :: es) [] pos') (tMethGw C m sp Fg E ta t) E := by
  refine ⟨fun pins s σ H It N Q P gm hgm I h => ?_⟩
  refine PySem.W.methodCall_KW (pl := pl) (wpAny_gsz hgm (wpAny_mono (he.run pins s σ H _ I h) (fun u s1 ⟨x, H1, I1, rx, a, dx, fs, ex, ea, l, q⟩ hg1 => ?_) fun _ _ q _ => q)) ht
  subst ex
  obtain rfl : u = Value.ref a := rx
  refine getmeth_ok I1 ea c hm l ?_
  refine PySem.W.callWith_K (first := [.ref a]) (h₀ := X.base) I.ok.mod.kin hm.kp (wpAny_gsz hg1 (wpAny_mono (ha.run pos' pins s1 σ H1 _ I1 q) (fun us s2 ⟨vs, H2, I2, r, q2⟩ hg2 => ⟨I2.kIn, ?_⟩) fun _ _ q _ => q)) hst hpl
  exact run_gfw (us := .ref a :: us) (vs := .ref a :: vs) F hr hb fg hg2 I2 (.cons rfl r) q2
end
/-! ### [x for x in g] -/
section
variable {X : Cx} {pins : List (Addr × Obj)} {σ : L2.St} {H : Hp} {s : Shared}
/-- a local name is stored: the state behind it -/
theorem store_loc {M : Model} {A : Around} {E : Value → Shared → Prop} {i : Nat} {x : Str} {v : V} {u : Value} {Q : Unit → Shared → Prop} (I : Inv X pins σ H s) (hN : X.N.Nodup) (hi : X.N[i]? = some x) (hk : X.env.scope.names.lookup x = some .local) (r : RelV v u)
    (h : ∀ h' tk m, Inv X pins (σ.set i (some v)) H { s with heap := h', toks := tk } → h'.Ns X.env.locals m → m x = some u → Heap.SameBut X.env.locals s.heap h' → Q () { s with heap := h', toks := tk }) : wpAny M A (storeName X.env x u) Q E s := by
  obtain ⟨m, hn, hl⟩ := id I.loc
  have hcls : (X.env.scope.kind == .class || (X.env.scope.kind == .module && X.env.locals != X.env.globals)) = false := by rw [I.ok.kind]; rfl
  have hiσ : i < σ.length := by rw [I.len]; exact (List.getElem?_eq_some_iff.mp hi).1
  refine wpAny_storeName_local hk hn (fun h' hn' hs => ?_) hcls
  have ot : ∀ b o, b ≠ X.env.locals → s.heap.get? b = some o → h'.get? b = some o := fun b o nb e => (hs.2 b nb).trans e
  have nl : ∀ b u, H b = some u → b ≠ X.env.locals := fun b u q z => by rw [z, I.free] at q; cases q
  have I1 : Inv X pins (σ.set i none) H { s with heap := h', toks := s.toks + 1 } := by
    obtain ⟨oL, esL, epL, hoL, hdL, hkL, hfL⟩ := id hn'
    have I0 := I.weak (σ' := σ.set i none) (List.length_set ..) fun j v' e => by
      by_cases hj : j = i
      · subst hj
        rw [List.getElem?_set_self hiσ] at e
        cases e
      · rwa [List.getElem?_set_ne (Ne.symm hj)] at e
    refine ⟨I.ok, I.os, I.bare, ⟨fun b o e n hb hx => ?_, fun b o e n hb hx => ?_, I.base.free, fun b o e hx => ?_, I.base.tups, I.base.frzs, I.base.tbls⟩, ⟨_, hn', fun j y v' e1 e2 e3 => ?_⟩, fun y c e => ?_, I.free, I.freeC, fun p hp => ?_, fun b ob e => ?_, by rw [List.length_set]; exact I.len⟩
    · exact ot b o (Nat.ne_of_lt (Nat.lt_of_lt_of_le (Heap.lt_size e) I.ok.above)) (I.base.keep b o e n hb hx)
    · obtain ⟨sl, e1⟩ := I.base.slot b o e n hb hx
      exact ⟨sl, ot b _ (Nat.ne_of_lt (Nat.lt_of_lt_of_le (Heap.lt_size e) I.ok.above)) e1⟩
    · obtain ⟨o', e1⟩ := I.base.there b o e hx
      exact ⟨o', ot b _ (Nat.ne_of_lt (Nat.lt_of_lt_of_le (Heap.lt_size e) I.ok.above)) e1⟩
    · have hj : j ≠ i := fun z => by
        subst z
        rw [List.getElem?_set_self hiσ] at e2
        cases e2
      rw [List.getElem?_set_ne (Ne.symm hj)] at e2
      obtain ⟨u', r', q⟩ := hl j y v' e1 e2 e3
      refine ⟨u', r', ?_⟩
      rcases q with ⟨k, e⟩ | ⟨k, c, e, z⟩
      · refine .inl ⟨k, ?_⟩
        have : y ≠ x := fun e => hj (nodup_ix hN e1 (e ▸ hi))
        simp [this, e]
      · exact .inr ⟨k, c, e, z.sameBut hs (I.cne y c e)⟩
    · obtain ⟨w', z⟩ := I.cell y c e
      exact ⟨w', z.sameBut hs (I.cne y c e)⟩
    · obtain ⟨e, n, ne, nf, d⟩ := I.pin p hp
      exact ⟨ot p.1 p.2 ne e, n, ne, nf, d⟩
    · refine (I.hok b ob e).stay (fun c w' hc q => ot c w' ?_ q) (fun _ q => q) fun _ _ q => q
      rcases hc with z | z
      · rw [z]; exact nl b ob e
      · exact nl c _ z
  refine h h' _ _ ?_ hn' (by simp) hs
  refine ⟨I1.ok, I1.os, I1.bare, I1.base, ⟨_, hn', fun j y v' e1 e2 e3 => ?_⟩, I1.cell, I1.free, I1.freeC, I1.pin, I1.hok, by rw [List.length_set]; exact I.len⟩
  by_cases hj : j = i
  · subst hj
    rw [hi] at e1; cases e1
    rw [List.getElem?_set_self hiσ] at e2
    cases e2
    exact ⟨u, r, .inl ⟨hk, by simp⟩⟩
  · rw [List.getElem?_set_ne (Ne.symm hj)] at e2
    obtain ⟨u', r', q⟩ := hl j y v' e1 e2 e3
    refine ⟨u', r', ?_⟩
    rcases q with ⟨k, e⟩ | ⟨k, c, e, z⟩
    · refine .inl ⟨k, ?_⟩
      have : y ≠ x := fun e => hj (nodup_ix hN e1 (e ▸ hi))
      simp [this, e]
    · exact .inr ⟨k, c, e, z.sameBut hs (I.cne y c e)⟩
end
end GW

/-! Generators that sleep while anything is done: the consumer. -/
namespace GW
open PySem PySem.Spec PyProof.Rows L2 GenW
open Sem (wp)
def kapOf (M : Model) (A : Around) (R : GenEnd) (Y : Protocol) (gs : GenState) : Nat → Resume → Shared → Prop
  | 0, _, _ => False
  | m + 1, r, s => gs.Goes M A R Y m r s
/-- as wpAny_resumeQ, and what is left sleeps -/
theorem resumeS {M : Model} {A : Around} {R : GenEnd} {Y : Protocol} {n : Nat} {E : Value → Shared → Prop} {s : Shared} {g : Nat} {gs : GenState}
    {r : Resume} {l : List Value} {α : Type} {k : GenResult → Sem α} {Q : α → Shared → Prop} (hg : s.gens[g]? = some gs)
    (hgo : gs.Goes M A R Y n r (s.setGen g .running))
    (hR : ∀ x s₁, R n (s.setGen g .running) x s₁ → wpAny M A (k (End.ret x).result) Q E (s₁.setGen g .finished))
    (hY : ∀ v s₁ gs', susp gs' = true → gs'.bare = true → Y (n - 1) (s.setGen g .running) v s₁ (kapOf M A R Y gs' n) →
      wpAny M A (k (.yielded v)) Q E (s₁.setGen g gs')) :
    wpAny M A (.resume g r l k) Q E s := by
  intro Γ p hΓ
  rw [Sem.wp_resume]
  have hB : ∀ c, (Γ.wake c p).Woken A := fun c => hΓ.wake c p
  have fin : ∀ e₁ s₁, SegEnd R Y n (Seg.next M A R Y n) (s.setGen g .running) e₁ s₁ →
      wp M Γ (k e₁.result) (fun a _ s' => Q a s') (fun e _ s' => E e s') p (s₁.setGen g e₁.genState) := by
    intro e₁ s₁ he
    cases e₁ with
    | ret x => exact hR x s₁ he Γ p hΓ
    | susp v g₀ l₀ k₀ c₀ p₀ fs₀ =>
      refine hY v s₁ _ rfl (End.bare_of_quiet he.1) ?_ Γ p hΓ
      cases n with
      | zero => exact he.2
      | succ m => exact he.2
  have hqt : ∀ e₁ s₁, SegEnd R Y n (Seg.next M A R Y n) (s.setGen g .running) e₁ s₁ → e₁.quiet = true := by
    intro e₁ s₁ he
    cases e₁ with
    | ret x => rfl
    | susp v g₀ l₀ k₀ c₀ p₀ fs₀ => exact he.1
  cases gs with
  | fresh c =>
    obtain ⟨rfl, hs⟩ := hgo
    obtain ⟨e₁, s₁, hr, he⟩ := seg_iff.mp hs (Γ.wake c p) p rfl (hB c)
    exact ⟨_, _, by unfold Wakes; rw [hg]; exact ⟨e₁, s₁, hr, hqt e₁ s₁ he, rfl, rfl⟩, fin e₁ s₁ he⟩
  | suspended k₀ l₀ c₀ p₀ fs₀ cl =>
    obtain ⟨e₁, s₁, hr, he⟩ := seg_iff.mp hgo (Γ.wake c₀ p) p₀ rfl (hB c₀)
    exact ⟨_, _, by unfold Wakes; rw [hg]; exact ⟨e₁, s₁, hr, hqt e₁ s₁ he, rfl, rfl⟩, fin e₁ s₁ he⟩
  | running => exact hgo.elim
  | finished => exact hgo.elim
/-- next() of a generator that does not end -/
theorem next_ownS {P : Program} {w : World} {A : Around} {E : Value → Shared → Prop} {s : Shared} {a : Addr} {g n : Nat} {gs : GenState} {R : GenEnd} {Y : Protocol} {Q : Option Value → Shared → Prop}
    (hl : s.heap.NoLimit) (hroom : A.depth < recursionLimit) (hg : s.heap.IsGen a g) (hgs : s.gens[g]? = some gs) (hgo : gs.Goes (model P w) A.in1 R Y n (.send .none) (s.setGen g .running))
    (hR : ∀ r s₁, R n (s.setGen g .running) r s₁ → False)
    (hY : ∀ v s₁ gs', susp gs' = true → gs'.bare = true → Y (n - 1) (s.setGen g .running) v s₁ (kapOf (model P w) A.in1 R Y gs' n) → Q (some v) (s₁.setGen g gs')) :
    wpAny (model P w) A (pyNext (.ref a)) Q E s := by
  unfold pyNext
  refine wpAny_bind (wpAny_attempt (wpAny_callSpecial?_slot (name := Str.ofString "__next__") hg.typeIs slot_gen_next
    (wpAny_call_entry slot_gen_next hg.typeIs entry_gen_next ?_ (args_gen_next _))))
  show wpAny _ A.in1 (Builtin.Generator.genWake (.ref a) (.send .none)) _ _ s
  unfold Builtin.Generator.genWake
  refine wpAny_bind (wpAny_holding (wpAny_genNumber hg (wpAny_bind (wpAny_genState hgs ?_))))
  cases gs with
  | running => exact hgo.elim
  | finished => exact hgo.elim
  | _ =>
    refine wpAny_bind (wpAny_roomToWake hl hroom ?_)
    show wpAny _ A.in1 (.resume g (.send .none) [] _) _ _ s
    refine resumeS hgs hgo (fun x s₁ hx => (hR x s₁ hx).elim) (fun v s₁ gs' hsu hb hv => ?_)
    exact wpAny_pure ⟨v, rfl, wpAny_pure (hY v s₁ gs' hsu hb hv)⟩
theorem inv_gens {X : Cx} {pins : List (Addr × Obj)} {σ : L2.St} {H : Hp} {s : Shared} {g : Array GenState} (I : Inv X pins σ H s) (hb : AllBare g) : Inv X pins σ H (gS s g) :=
  ⟨I.ok, I.os, hb, I.base, I.loc, I.cell, I.free, I.freeC, I.pin, I.hok, I.len⟩
theorem inv_kept {X : Cx} {pins : List (Addr × Obj)} {σ : L2.St} {H : Hp} {s u v : Shared} (I : Inv X pins σ H u) (k : KeptG s u v) (hb : AllBare s.gens) : Inv X pins σ H v := by
  rw [k.eq]
  exact inv_gens I (k.bare hb I.bare)
/-- lists, tuples, dicts -/
def SmpT (u : HO) : Prop := (∃ xs, u = .lst xs) ∨ (∃ xs, u = .tup xs) ∨ ∃ kvs, u = .dK kvs
/-- what the consumer knows beside what the generator knows -/
structure Gd (Hn Hc : Hp) : Prop where
  sub : ∀ b u, Hn b = some u → Hc b = some u
  smp : ∀ b u, Hc b = some u → Hn b = none → SmpT u
theorem smp_data {P : Program} {w : World} {H : Hp} {h : Heap} {a : Addr} {u : HO} (x : ObjOk P w H h a u) (s : SmpT u) : ∃ o, h.get? a = some o ∧ ∀ v, o.data ≠ .cell v := by
  rcases s with ⟨xs, rfl⟩ | ⟨xs, rfl⟩ | ⟨kvs, rfl⟩
  · obtain ⟨_, its, n, _, e⟩ := x
    exact ⟨_, e, fun v z => by cases z⟩
  · obtain ⟨_, its, _, ob, e, _, n, d⟩ := x
    exact ⟨_, e, fun v z => by rw [d] at z; cases z⟩
  · obtain ⟨_, _, vs, _, ob, es, ep, e, c⟩ := x
    exact ⟨_, e, fun v z => by rw [c.2.1] at z; cases z⟩
theorem smp_keep {P : Program} {w : World} {H : Hp} {h h' : Heap} {a : Addr} {u : HO} (x : ObjOk P w H h a u) (s : SmpT u) (k : ∀ o, h.get? a = some o → h'.get? a = some o) : ObjOk P w H h' a u := by
  rcases s with ⟨xs, rfl⟩ | ⟨xs, rfl⟩ | ⟨kvs, rfl⟩
  · obtain ⟨z, its, n, r, e⟩ := x
    exact ⟨z, its, n, r, k _ e⟩
  · obtain ⟨z, its, r, ob, e, c⟩ := x
    exact ⟨z, its, r, ob, k _ e, c⟩
  · obtain ⟨z, y, vs, r, ob, es, ep, e, c⟩ := x
    exact ⟨z, y, vs, r, ob, es, ep, k _ e, c⟩
/-- the consumer's context behind an item -/
theorem item_invV {Y : Cx} {pins : List (Addr × Obj)} {σ : L2.St} {Hc Hn : Hp} {s₀ s1 : Shared} {ow : List Addr} {n0 : Nat} (I : Inv Y pins σ Hc s₀) (gd : Gd Hn Hc) (hos : s1.os = s₀.os) (hb : AllBare s1.gens) (un : Un (frs Y.stack) [] Hn Hn (cut n0 s₀.heap) s1.heap) (hok : HOk Y.prog Y.w Hn s1.heap)
    (kw : KwV n0 ow s₀ s1) (hY : Y.s_0.heap.objs.size ≤ n0) (hL : Y.env.locals < n0) (hC : ∀ x c, Y.env.cells.lookup x = some c → c < n0) (how : ∀ b ∈ ow, n0 ≤ b ∧ Hc b = none ∧ ∀ p ∈ Y.pn ++ pins, p.1 ≠ b) : Inv Y pins σ Hc s1 := by
  obtain ⟨hh, gg, dd, tt, oo⟩ := s1
  obtain rfl : oo = s₀.os := hos
  obtain ⟨ch, hch⟩ : ∃ ch, ch = (List.range s₀.heap.objs.size).filter fun b => decide (n0 ≤ b) && (ow.contains b || (match s₀.heap.get? b with
    | some o => !noCell o
    | none => false)) := ⟨_, rfl⟩
  have mch : ∀ b, b ∈ ch → n0 ≤ b ∧ (b ∈ ow ∨ ∃ o, s₀.heap.get? b = some o ∧ noCell o = false) := fun b h => by
    rw [hch, List.mem_filter, Bool.and_eq_true, Bool.or_eq_true] at h
    refine ⟨of_decide_eq_true h.2.1, ?_⟩
    rcases h.2.2 with z | z
    · exact .inl (by simpa using z)
    · split at z
      · rename_i o e
        exact .inr ⟨o, e, by simpa using z⟩
      · cases z
  have old : ∀ b o, b ∉ ch → s₀.heap.get? b = some o → b < n0 ∨ (n0 ≤ b ∧ b ∉ ow ∧ ∀ v, o.data ≠ .cell v) := fun b o h e => by
    rcases Nat.lt_or_ge b n0 with q | q
    · exact .inl q
    · refine .inr ⟨q, fun z => h ?_, ?_⟩
      · rw [hch, List.mem_filter, Bool.and_eq_true, Bool.or_eq_true]
        exact ⟨List.mem_range.mpr (Heap.lt_size e), decide_eq_true q, .inl (by simpa using z)⟩
      · cases hc : noCell o with
        | true => exact noCell_of hc
        | false =>
          refine absurd ?_ h
          rw [hch, List.mem_filter, Bool.and_eq_true, Bool.or_eq_true, e]
          exact ⟨List.mem_range.mpr (Heap.lt_size e), decide_eq_true q, .inr (by show (!noCell o) = true; rw [hc]; rfl)⟩
  have none_ : ∀ b, Hc b = none → Hn b = none := fun b n => by
    cases q : Hn b with
    | none => rfl
    | some u => rw [gd.sub b u q] at n; cases n
  have noF : ∀ b u, Hc b = some u → b ∉ frs Y.stack := fun b u e hm => by
    rcases List.mem_cons.mp (I.stkSub b hm) with z | z
    · rw [z, I.free] at e
      cases e
    · obtain ⟨_, o, ho, _⟩ := I.ok.funs.mem z
      rw [I.base.free b o ho (I.ok.frf b z) fun hx => I.ok.exfs b hx z] at e
      cases e
  refine I.step (h' := hh) (g' := gg) (t' := tt) (d' := dd) (ch := ch) (fun b h => ?_) (fun b o h1 h2 h3 e n => ?_) (fun b o h1 h2 h3 e n => ?_) (fun _ _ _ _ n => n) (fun b o h3 e => ?_) (fun _ _ q => q) (fun _ _ _ q => q) (fun b ps q => ⟨#[], by rw [q]; simp⟩) (fun m hm => ?_) (fun a u e => ?_) hb
  · obtain ⟨q1, q2⟩ := mch b h
    refine ⟨.inr (Nat.le_trans hY q1), Nat.ne_of_gt (Nat.lt_of_lt_of_le hL q1), fun x c e => Nat.ne_of_lt (Nat.lt_of_lt_of_le (hC x c e) q1), fun p hp z => ?_⟩
    rcases q2 with q2 | ⟨o, eo, hc⟩
    · exact (how b q2).2.2 p hp z
    · obtain ⟨h1, _, _, _, h5⟩ := I.pin p hp
      rw [z, eo] at h1
      cases h1
      rw [of_noCell h5] at hc
      cases hc
  · rcases old b o h3 e with q | ⟨q1, q2, q3⟩
    · refine un.keep b o ((cut_get q).trans e) (none_ b n) (fun hm => ?_) (by simp)
      rcases List.mem_cons.mp (I.stkSub b hm) with z | z
      · exact h1 z
      · exact h2 z
    · exact kw b o q1 q2 q3 e
  · rcases old b o h3 e with q | ⟨q1, q2, q3⟩
    · exact un.any ((cut_get q).trans e) (none_ b n) (by simp)
    · exact ⟨o.slots, kw b o q1 q2 q3 e⟩
  · rcases old b o h3 e with q | ⟨q1, q2, q3⟩
    · exact un.there b o ((cut_get q).trans e) (by simp)
    · exact ⟨o, kw b o q1 q2 q3 e⟩
  · obtain ⟨o, es, ep, ho, r⟩ := hm
    obtain ⟨sl, e⟩ := un.any ((cut_get hL).trans ho) (none_ _ I.free) (by simp)
    exact ⟨_, es, ep, e, r⟩
  · cases hn : Hn a with
    | some u' =>
      have := gd.sub a u' hn
      rw [e] at this
      cases this
      exact (hok a u hn).stay (fun _ _ _ q => q) (fun b q => gd.sub b _ q) fun b xs q => gd.sub b _ q
    | none =>
      have hs := gd.smp a u e hn
      refine smp_keep (I.hok a u e) hs fun o eo => ?_
      rcases Nat.lt_or_ge a n0 with q | q
      · exact un.keep a o ((cut_get q).trans eo) hn (noF a u e) (by simp)
      · obtain ⟨o', eo', hc⟩ := smp_data (I.hok a u e) hs
        rw [eo] at eo'
        cases eo'
        exact kw a o q (fun z => by rw [(how a z).2.1] at e; cases e) hc eo
end GW

/-! for x in g: .. with any body. -/
namespace GW
open PySem PySem.Spec PyProof.Rows L2 GenW
open Sem (wp)
/-- the generator sleeps at s: n turns are left -/
structure SlpV (P : Program) (w : World) (A : Around) (base : Heap) (outer : List Env) (Hn : Hp) (sc : Shared) (ow : List Addr) (a : Addr) (g N : Nat) (It : List V → V → Prop) (n : Nat) (s : Shared) : Prop where
  os : s.os = sc.os
  lim : s.heap.NoLimit
  gen : s.heap.IsGen a g
  go : ∃ gs, s.gens[g]? = some gs ∧ gs.Goes (model P w) A.in1 (REv P w outer Hn sc ow a g N (fun _ => False) fun _ _ _ => False) (YIv P w base outer Hn sc ow a g N It) n (.send .none) (s.setGen g .running)
theorem next_gv {P : Program} {w : World} {A : Around} {base : Heap} {outer : List Env} {Hn : Hp} {sc s : Shared} {ow : List Addr} {a : Addr} {g N n : Nat} {It : List V → V → Prop} {Qn : Option Value → Shared → Prop} {Er : Value → Shared → Prop} (hroom : A.depth < recursionLimit) (hao : a ∈ ow)
    (h : SlpV P w A base outer Hn sc ow a g N It (n + 1) s)
    (hY : ∀ ys y v s1 x0, RelV y v → It ys y → n + 1 + ys.length = N → s1.os = s.os → AllBare s1.gens → Un (frs outer) [] Hn Hn (cut sc.heap.objs.size s.heap) s1.heap → HOk P w Hn s1.heap → KwV sc.heap.objs.size ow s s1 → OwA ow s1 → s1.heap.IsGen a g → s1.gens[g]? = some x0 → susp x0 = true →
      (ys.length + 1 < N → ∀ s', Slv P w base (frs outer) Hn ow (fun _ => False) s1 s' → s'.heap.NoLimit → s'.gens[g]? = some x0 → SlpV P w A base outer Hn sc ow a g N It n s') → Qn (some v) s1) :
    wpAny (model P w) A (pyNext (.ref a)) Qn Er s := by
  obtain ⟨hos, hl, hg, gs, hgs, hgo⟩ := h
  have hgl : g < s.gens.size := (Array.getElem?_eq_some_iff.mp hgs).1
  refine wpAny_mono (wpAny_gsz (n := g + 1) hgl (next_ownS (Q := fun r s1 => g + 1 ≤ s1.gens.size → Qn r s1) (E := fun e s1 => g + 1 ≤ s1.gens.size → Er e s1) hl hroom hg hgs hgo (fun r s1 hr => ?_) fun v s1 gs' hsu hbare hv => ?_)) (fun _ _ q => q) fun _ _ q => q
  · rcases hr with ⟨_, ys, _, _, _, _, _, _, _, _, _, hq⟩ | ⟨e, _, cx, _⟩
    · exact hq
    · obtain ⟨_, _, _, _, _, _, _, _, _, _, _, _, z⟩ := cx
      exact z
  · intro hsz
    obtain ⟨ys, y, rv, it, hn, os1, b1, un, hok, kw, oa, lim, ig, kap⟩ := hv
    have hsz1 : g < s1.gens.size := by
      have q : (s1.setGen g gs').gens.size = s1.gens.size := setGen_size _ _ _
      have hsz' : g + 1 ≤ (s1.setGen g gs').gens.size := hsz
      omega
    refine hY ys y v (s1.setGen g gs') gs' rv it hn (os1.trans hos.symm) (allBare_setGen b1 hbare) un hok kw oa ig (setGen_at hsz1) hsu fun hm s' z hlim hslot => ?_
    have keepG : s'.heap.IsGen a g := by
      obtain ⟨o, nm, qn, ho, r⟩ := ig
      exact ⟨o, nm, qn, z.own a hao o ho, r⟩
    refine ⟨z.os.trans os1, hlim, keepG, gs', hslot, ?_⟩
    refine kap hm (s'.setGen g .running) ⟨z.os, allBare_setGen z.bare rfl, z.hok, z.bs, z.own, z.fr, fun i x hi _ => hi.elim, ?_, z.bz⟩
    have q1 : (s1.setGen g gs').gens.size = s1.gens.size := setGen_size _ _ _
    have q2 : (s'.setGen g .running).gens.size = s'.gens.size := setGen_size _ _ _
    rw [q2, ← q1]
    exact z.gsz
/-- an expression whose value is such a generator: what it knows, what the consumer knows -/
abbrev TGv := L2.St → Hp → (List V → V → Prop) → Nat → (List V → Prop) → (Hp → Hp → Prop) → Prop
structure PGv (X : Cx) (k : Nat) (e : Expr) (tg : TGv) (E : XK) : Prop where
  run : ∀ (pins : List (Addr × Obj)) (s : Shared) (σ : L2.St) (H : Hp) (It : List V → V → Prop) (N : Nat) (Q : List V → Prop) (P : Hp → Hp → Prop), Inv X pins σ H s → tg σ H It N Q P → wpAny (model X.prog X.w) X.A (eval e X.env)
    (fun u s' => ∃ H2 Hn sc, Inv X pins σ H2 sc ∧ Gd Hn H2 ∧ (∀ b kvs, Hn b ≠ some (.dT kvs)) ∧ HOk X.prog X.w Hn sc.heap ∧ GMv X.prog X.w X.base k X.stack Hn sc It N Q E u s' ∧ P Hn H2) X.xe s
section
variable {X : Cx}
/-- lists and dicts are forgotten -/
def drop (fl : List Addr) (H : Hp) : Hp := fun b => if b ∈ fl then none else H b
theorem drop_some {fl : List Addr} {H : Hp} {b : Addr} {u : HO} (e : drop fl H b = some u) : H b = some u ∧ b ∉ fl := by
  unfold drop at e
  split at e
  · cases e
  · rename_i q
    exact ⟨e, q⟩
theorem drop_of {fl : List Addr} {H : Hp} {b : Addr} {u : HO} (e : H b = some u) (h : b ∉ fl) : drop fl H b = some u := by
  unfold drop
  rw [if_neg h]
  exact e
theorem drop_none {fl : List Addr} {H : Hp} {b : Addr} (e : H b = none) : drop fl H b = none := by
  unfold drop
  split
  · rfl
  · exact e
/-- what may be forgotten -/
def SmpD (u : HO) : Prop := (∃ xs, u = .lst xs) ∨ ∃ kvs, u = .dK kvs
theorem inv_drop {pins : List (Addr × Obj)} {σ : L2.St} {H : Hp} {s : Shared} {fl : List Addr} (I : Inv X pins σ H s) (hf : ∀ b ∈ fl, ∀ u, H b = some u → SmpD u) (nT : ∀ b kvs, H b ≠ some (.dT kvs)) : Inv X pins σ (drop fl H) s := by
  have kp : ∀ {b u}, H b = some u → ¬ SmpD u → drop fl H b = some u := fun {b u} e h => drop_of e fun z => h (hf b z u e)
  have n1 : ∀ {xs}, ¬ SmpD (.tup xs) := fun {xs} h => by rcases h with ⟨_, z⟩ | ⟨_, z⟩ <;> cases z
  have n2 : ∀ {o u}, ¬ SmpD (.frz o u) := fun {o u} h => by rcases h with ⟨_, z⟩ | ⟨_, z⟩ <;> cases z
  have n3 : ∀ {ps}, ¬ SmpD (.tbl ps) := fun {ps} h => by rcases h with ⟨_, z⟩ | ⟨_, z⟩ <;> cases z
  have n4 : ∀ {a}, ¬ SmpD (.own a) := fun {a} h => by rcases h with ⟨_, z⟩ | ⟨_, z⟩ <;> cases z
  refine ⟨I.ok, I.os, I.bare, ⟨I.base.keep, I.base.slot, fun b o q n x => drop_none (I.base.free b o q n x), I.base.there, fun b xs q => kp (I.base.tups b xs q) n1, fun b o u q => kp (I.base.frzs b o u q) n2, fun b ps q => ?_⟩,
    I.loc, I.cell, drop_none I.free, fun y c e => drop_none (I.freeC y c e), fun p hp => ?_, fun a o e => ?_, I.len⟩
  · obtain ⟨m, e⟩ := I.base.tbls b ps q
    exact ⟨m, kp e n3⟩
  · obtain ⟨e1, e2, e3⟩ := I.pin p hp
    exact ⟨e1, drop_none e2, e3⟩
  · exact (I.hok a o (drop_some e).1).stay (fun _ _ _ q => q) (fun b q => kp q n4) fun b xs q => kp q n1
theorem gd_drop {H : Hp} {fl : List Addr} (hf : ∀ b ∈ fl, ∀ u, H b = some u → SmpD u) : Gd (drop fl H) H :=
  ⟨fun b u e => (drop_some e).1, fun b u e n => by
    by_cases h : b ∈ fl
    · rcases hf b h u e with ⟨xs, z⟩ | ⟨xs, z⟩
      · exact .inl ⟨xs, z⟩
      · exact .inr (.inr ⟨xs, z⟩)
    · rw [drop_of e h] at n
      cases n⟩
variable {k : Nat} {f C : Addr} {fd : FuncData} {ps : List Str} {sp : SpW} {m : Str} {p pos pos' apos : Pos} {o : Expr} {ta : TE} {ds : List Value} {dvs : List V}
theorem run_gfv {pins : List (Addr × Obj)} {σ : L2.St} {H : Hp} {s : Shared} {us : List Value} {vs : List V} {It : List V → V → Prop} {N : Nat} {Q : List V → Prop} {E : XK} {P : Hp → Hp → Prop} {E1 : Value → Shared → Prop} (F : GFv X.prog X.w X.K X.mg X.base k f fd ps sp) (hr : Room k X.A) (hb : Binds X.K fd ps ds) (hd : Vals dvs ds)
    (I : Inv X pins σ H s) (r : Vals vs us) (h : ∃ fl, (∀ b ∈ fl, ∀ u, noT H b = some u → SmpD u) ∧ sp (vs ++ dvs) (drop fl (noT H)) It N Q E ∧ P (drop fl (noT H)) (noT H)) :
    wpAny (model X.prog X.w) X.A (call (.ref f) us) (fun u s' => ∃ H2 Hn sc, Inv X pins σ H2 sc ∧ Gd Hn H2 ∧ (∀ b kvs, Hn b ≠ some (.dT kvs)) ∧ HOk X.prog X.w Hn sc.heap ∧ GMv X.prog X.w X.base k X.stack Hn sc It N Q E u s' ∧ P Hn H2) E1 s := by
  obtain ⟨fl, hf, h, hP⟩ := h
  have I0 := inv_noT I
  have I1 := inv_drop I0 hf fun b kvs => noT_no b kvs
  have nT : ∀ b kvs, drop fl (noT H) b ≠ some (.dT kvs) := fun b kvs e => noT_no b kvs (drop_some e).1
  have ra : Vals (vs ++ dvs) (us ++ ds) := r.append hd
  have hl2 : (us ++ ds).length = ps.length := by rw [← ra.length]; exact F.len _ _ _ _ _ _ h
  refine wpAny_call (codeAny_mono (F.run X.A X.stack s _ ⟨us, []⟩ (us ++ ds) (vs ++ dvs) It N Q E hr nT I1.env0 (hb s us I1.kIn hl2) ra h) fun r s' hq => ?_)
  cases r with
  | error e => exact False.elim hq
  | ok fl' =>
    cases fl' with
    | ret u => exact ⟨noT H, drop fl (noT H), s, I0, gd_drop hf, nT, I1.hok, hq, hP⟩
    | next => exact False.elim hq
    | brk => exact False.elim hq
    | cont => exact False.elim hq
def tMethGv (C : Addr) (m : Str) (sp : SpW) (E : XK) (dvs : List V) (ta : TE) (t : TA) : TGv := fun σ H It N Q P => ta σ H fun x H1 => ∃ a dx fs, x = .ref a ∧ H1 a = some (.ins C dx fs) ∧ fs.lookup m = none ∧
  t σ H1 fun vs H2 => ∃ fl, (∀ b ∈ fl, ∀ u, noT H2 b = some u → SmpD u) ∧ sp (x :: (vs ++ dvs)) (drop fl (noT H2)) It N Q E ∧ P (drop fl (noT H2)) (noT H2)
theorem pgv_meth {E : XK} {pl : Sem Bool} {e : Expr} {es : List Expr} {t : TA} (he : PE X o ta) (c : Cls X.K C) (hm : Meth X.K C m f) (F : GFv X.prog X.w X.K X.mg X.base k f fd ps sp) (hr : Room k X.A) (hb : Binds X.K fd ps ds) (hd : Vals dvs ds) (ha : PA X (e :: es) t)
    (hst : starEach (e :: es) X.env = (false, eval e X.env) :: starEach es X.env := by rfl) (hpl : (backTo pos' (starEach es X.env)).any (·.1) = false := by rfl)
    (ht : eval (.Call (.Attribute o m apos) (e :: es) [] pos') X.env = (do
      let ov ← eval o X.env
      standAt apos.atName
      let (f, first) ← holding [ov] (getMethod ov m pl)
      callWith pos' f first (backTo pos' (starEach (e :: es) X.env)) (backToKw pos' (keywordEach [] X.env))) := by rfl) :
    PGv X k (.Call (.Attribute o m apos) (e :: es) [] pos') (tMethGv C m sp E dvs ta t) E := by
  refine ⟨fun pins s σ H It N Q P I h => ?_⟩
  refine PySem.W.methodCall_KW (pl := pl) (thn (he.run pins s σ H _ I h) fun u s1 ⟨x, H1, I1, rx, a, dx, fs, ex, ea, l, q⟩ => ?_) ht
  subst ex
  obtain rfl : u = Value.ref a := rx
  refine getmeth_ok I1 ea c hm l ?_
  refine PySem.W.callWith_K (first := [.ref a]) (h₀ := X.base) I.ok.mod.kin hm.kp (thn (ha.run pos' pins s1 σ H1 _ I1 q) fun us s2 ⟨vs, H2, I2, r, q2⟩ => ⟨I2.kIn, ?_⟩) hst hpl
  exact run_gfv (us := .ref a :: us) (vs := .ref a :: vs) F hr hb hd I2 (.cons rfl r) q2
theorem pgv_meth0 {E : XK} {pl : Sem Bool} (he : PE X o ta) (c : Cls X.K C) (hm : Meth X.K C m f) (F : GFv X.prog X.w X.K X.mg X.base k f fd ps sp) (hr : Room k X.A) (hb : Binds X.K fd ps ds) (hd : Vals dvs ds)
    (ht : eval (.Call (.Attribute o m apos) [] [] pos') X.env = (do
      let ov ← eval o X.env
      standAt apos.atName
      let (f, first) ← holding [ov] (getMethod ov m pl)
      callWith pos' f first (backTo pos' (starEach [] X.env)) (backToKw pos' (keywordEach [] X.env))) := by rfl) :
    PGv X k (.Call (.Attribute o m apos) [] [] pos') (tMethGv C m sp E dvs ta tNil) E := by
  refine ⟨fun pins s σ H It N Q P I h => ?_⟩
  refine PySem.W.methodCall_KW (pl := pl) (thn (he.run pins s σ H _ I h) fun u s1 ⟨x, H1, I1, rx, a, dx, fs, ex, ea, l, q⟩ => ?_) ht
  subst ex
  obtain rfl : u = Value.ref a := rx
  refine getmeth_ok I1 ea c hm l (PySem.W.callWith_K0 (first := [.ref a]) I1.kIn hm.kp ?_)
  exact run_gfv (us := [.ref a]) (vs := [.ref a]) F hr hb hd I1 (.cons rfl .nil) q
end
end GW

/-! for x in g: the loop. -/
namespace GW
open PySem PySem.Spec PyProof.Rows L2 GenW
section
variable {X : Cx}
/-- for x in g: f 0, f 1, .. are the items, at most N are asked; the body may do anything that is told for any generators -/
def tForV (tg : TGv) (g : TG) (tb : TS) : TS := fun D σ H => ∃ (f : Nat → L2.V) (N : Nat) (V : Nat → L2.St → Hp → Prop), 1 ≤ N ∧ tg σ H (fun ys x => x = f ys.length) N (fun _ => False) fun Hn H2 => V 0 σ H2 ∧
  ∀ m σ' Hc, m < N → Gd Hn Hc → V m σ' Hc → g (f m) σ' Hc fun σ2 H3 => tb { D with nx := fun σ5 H5 => m + 1 < N ∧ Gd Hn H5 ∧ V (m + 1) σ5 H5, ct := fun σ5 H5 => m + 1 < N ∧ Gd Hn H5 ∧ V (m + 1) σ5 H5, bk := D.nx } σ2 H3
theorem ps_forV {iter target : Expr} {body : List Stmt} {k : Nat} {tg : TGv} {g : TG} {tb : TS} {pos : Pos} (hp : PassesOwn (model X.prog X.w) X.A X.env X.xe) (hxe : ∀ e s, X.xe e s → False) (hi : PGv X k iter tg fun _ _ _ => False) (hr : Room (k + 1) X.A) (hgd : X.A.guards = some []) (hg : PG X target g) (hb : PSs X body tb)
    (hs : ∀ x, foldedSetIterable iter X.env x = pure x := by intro _; rfl) : PS X (.For target iter body [] pos) (tForV tg g tb) := by
  refine ⟨fun pins s σ H D I h => ?_⟩
  obtain ⟨f, N, V, hN1, h⟩ := h
  refine wpAny_For (thn (hi.run pins s σ H _ _ _ _ I h) fun u s1 hx => ?_) hs
  obtain ⟨H2, Hn, sc, I1, gd, nT, hkn, hG, hV0, turn⟩ := hx
  obtain ⟨ga, gi, cg, ow, rfl, ha1, ha2, hgen, hgs, hgi, hgk, hos, hbr, hl, hkp, how, hgow, howA, wake⟩ := hG
  refine wpAny_pyIter_gen hgen ?_
  have hgl : gi < s1.gens.size := (Array.getElem?_eq_some_iff.mp hgs).1
  have I2 : Inv X pins σ H2 s1 := I1.call' (ch := []) hos (Un.kept hkp) (I1.hok.kept hkp) hbr fun b z => by simp at z
  have hY0 : X.s_0.heap.objs.size ≤ sc.heap.objs.size := I1.sz
  have hL0 : X.env.locals < sc.heap.objs.size := I1.lt
  have hC0 : ∀ x c, X.env.cells.lookup x = some c → c < sc.heap.objs.size := fun x c e => by
    obtain ⟨v, o, ho, _⟩ := I1.cell x c e
    exact Heap.lt_size ho
  have howF : ∀ b ∈ ow, H2 b = none := fun b hb => I1.hok.fresh (how b hb)
  have howP : ∀ b ∈ ow, ∀ p ∈ X.pn ++ pins, p.1 ≠ b := fun b hb p hp z => by
    have := Heap.lt_size (I1.pin p hp).1
    rw [z] at this
    exact Nat.not_lt.mpr (how b hb) this
  have frA : ∀ {pl : List (Addr × Obj)} {σ' : L2.St} {H' : Hp} {s' : Shared}, Inv X pl σ' H' s' → ∀ b ∈ frs X.stack, ∃ o, s'.heap.get? b = some o ∧ ∀ vs, o.data ≠ .fields vs := fun {pl σ' H' s'} J b hb => by
    rcases List.mem_cons.mp (J.stkSub b hb) with z | z
    · obtain ⟨mm, ⟨oc, es, ep, hoc, hdc, _⟩, _⟩ := J.loc
      rw [z]
      exact ⟨oc, hoc, fun vs q => by rw [hdc] at q; cases q⟩
    · obtain ⟨_, o', e', d⟩ := J.funs.mem z
      exact ⟨o', e', d⟩
  have fpO : ∀ {σ' : L2.St} {H' : Hp} {s' : Shared}, Inv X pins σ' H' s' → (∀ b ∈ ow, H' b = none) → ∀ b ∈ ow, FpOk X pins H' b := fun {σ' H' s'} J hn b hb =>
    ⟨hn b hb, Nat.ne_of_gt (Nat.lt_of_lt_of_le hL0 (how b hb)), fun hm => by
      obtain ⟨_, o, ho, _⟩ := I1.ok.funs.mem hm
      exact Nat.not_lt.mpr (Nat.le_trans hY0 (how b hb)) (Heap.lt_size ho), .inr (Nat.le_trans hY0 (how b hb)), fun x c e => Nat.ne_of_lt (Nat.lt_of_lt_of_le (hC0 x c e) (how b hb)), howP b hb⟩
  have S0 : SlpV X.prog X.w X.A X.base X.stack Hn sc ow ga gi N (fun ys x => x = f ys.length) N s1 := by
    refine ⟨hos, hl, hgen, .fresh cg, hgs, rfl, ?_⟩
    refine wake X.A.in1 (s1.setGen gi .running) hr.in1 hgd I1.ok.frames ⟨rfl, allBare_setGen hbr rfl, hkn.kept hkp, I2.bk, fun b _ o e => e, frA (s' := s1.setGen gi .running) (inv_gens I2 (allBare_setGen hbr rfl)), fun _ _ q _ => q.elim, ?_, ?_⟩ ?_
    · have q : (s1.setGen gi .running).gens.size = s1.gens.size := setGen_size _ _ _
      rw [q]
      exact Nat.le_refl _
    · exact Nat.le_trans I2.ok.bsz I2.sz
    · have q : (s1.setGen gi .running).gens.size = s1.gens.size := setGen_size _ _ _
      rw [q]
      exact hgl
  refine codeAny_forLoop_any (fun n s' => ∃ (m : Nat) (σ' : L2.St) (Hc : Hp), Inv X pins σ' Hc s' ∧ SlpV X.prog X.w X.A X.base X.stack Hn sc ow ga gi N (fun ys x => x = f ys.length) n s' ∧ Gd Hn Hc ∧ (∀ b ∈ ow, Hc b = none) ∧ n + m = N ∧ 1 ≤ n ∧ V m σ' Hc) ?_ N ⟨0, σ, H2, I2, S0, gd, howF, rfl, hN1, hV0⟩
  rintro n s3 ⟨m, σ3, H3, I3, S3, gd3, hf3, hnm, hn1, v3⟩
  obtain ⟨n, rfl⟩ : ∃ n', n = n' + 1 := ⟨n - 1, by omega⟩
  refine wpAny_passesOwn hp (E := X.xe) (next_gv hr.depth hgow S3 fun ys y v s4 x0 rv hit hys os4 b4 un4 hok4 kw4 oa4 ig4 hx0 hsu kap => ?_)
  have hym : ys.length = m := by omega
  rw [hit, hym] at rv
  rw [hym] at kap
  have I4 : Inv X pins σ3 H3 s4 := item_invV I3 gd3 os4 b4 un4 hok4 kw4 hY0 hL0 hC0 fun b hb => ⟨how b hb, hf3 b hb, howP b hb⟩
  obtain ⟨og, nmg, qng, hog, hgc, hgdd, _⟩ := id ig4
  refine go_of hog hgc hgdd (by decide) ?_
  have I4p := I4.pinned (fpO I4 hf3) oa4
  refine wpAny_passesOwn hp (wpAny_mono (wpAny_keepG (hg.run _ (gS s4 (s4.gens.map poi)) σ3 H3 (f m) v _ (inv_gens I4p (bare_poi b4)) rv (turn m σ3 H3 (by omega) gd3 v3))) (fun _ s6 hv6 => ?_) fun e s6 hv6 => ?_)
  rotate_left
  · obtain ⟨u6, q, _⟩ := hv6
    exact (hxe e u6 q).elim
  obtain ⟨u6, ⟨σ6, H6, I6', q6⟩, k6, z6⟩ := hv6
  have I6 := inv_kept I6' k6 b4
  have sl6 := k6.slot gi x0 hx0 hsu
  refine wpAny_passesOwn hp (wpAny_mono (wpAny_keepG (hb.run _ (gS s6 (s6.gens.map poi)) σ6 H6 _ (inv_gens I6 (bare_poi I6.bare)) q6)) (fun fl s7 hv7 => ?_) fun e s7 hv7 => ?_)
  rotate_left
  · obtain ⟨u7, q, _⟩ := hv7
    exact (hxe e u7 q).elim
  obtain ⟨u7, q7, k7, z7⟩ := hv7
  have sl7 := k7.slot gi x0 sl6 hsu
  have again : ∀ {σ7 : L2.St} {H7 : Hp}, Inv X (pins ++ pinsAt ow s4.heap) σ7 H7 s7 → (m + 1 < N ∧ Gd Hn H7 ∧ V (m + 1) σ7 H7) → ∃ m', m' < n + 1 ∧ ∃ (m : Nat) (σ' : L2.St) (Hc : Hp), Inv X pins σ' Hc s7 ∧ SlpV X.prog X.w X.A X.base X.stack Hn sc ow ga gi N (fun ys x => x = f ys.length) m' s7 ∧ Gd Hn Hc ∧ (∀ b ∈ ow, Hc b = none) ∧ m' + m = N ∧ 1 ≤ m' ∧ V m σ' Hc := fun {σ7 H7} I7 q => by
    obtain ⟨hlt, gd7, v7⟩ := q
    have pinO : ∀ b ∈ ow, ∀ o, s4.heap.get? b = some o → s7.heap.get? b = some o ∧ H7 b = none := fun b hb o e => by
      obtain ⟨h1, h2, _⟩ := I7.pin (b, o) (List.mem_append_right _ (List.mem_append_right _ (mem_pinsAt hb e)))
      exact ⟨h1, h2⟩
    have hf7 : ∀ b ∈ ow, H7 b = none := fun b hb => by
      obtain ⟨o, e, _⟩ := oa4 b hb
      exact (pinO b hb o e).2
    refine ⟨n, Nat.lt_succ_self _, m + 1, σ7, H7, I7.unpinned, kap hlt s7 ⟨I7.os.trans I4.os.symm, I7.bare, hok_forget I7.hok gd7.sub nT hkn, I7.bk, fun b hb o e => (pinO b hb o e).1, frA I7, fun _ _ z _ => z.elim, Nat.le_trans z6 z7, Nat.le_trans I7.ok.bsz I7.sz⟩ I7.nolimit sl7, gd7, hf7, by omega, by omega, v7⟩
  cases fl with
  | next =>
    obtain ⟨σ7, H7, I7, n7⟩ := q7
    exact again (inv_kept I7 k7 I6.bare) n7
  | cont =>
    obtain ⟨σ7, H7, I7, n7⟩ := q7
    exact again (inv_kept I7 k7 I6.bare) n7
  | brk =>
    obtain ⟨σ7, H7, I7, q7⟩ := q7
    exact ⟨σ7, H7, (inv_kept I7 k7 I6.bare).unpinned, q7⟩
  | ret v =>
    obtain ⟨x7, σ7, H7, I7, r7, q7⟩ := q7
    exact ⟨x7, σ7, H7, (inv_kept I7 k7 I6.bare).unpinned, r7, q7⟩
end
end GW

/-! [x for x in g]: a generator taken to its end by a comprehension. -/
namespace GW
open PySem PySem.Spec PyProof.Rows L2 GenW
section
variable {X : Cx}
/-- [y for y in g]: f tells the items, M how many there are -/
def tLcG (tg : TGn) : TE := fun σ H Q => ∃ (f : Nat → V) (N : Nat) (Qm : Nat → Prop), 1 ≤ N ∧ N ≤ sizeLine ∧ tg σ H (fun ys x => x = f ys.length ∧ ys.length + 1 < N) N (fun ys => Qm ys.length) fun H1 =>
  ∀ m D, Qm m → H1 D = none → Q (.ref D) (upd H1 D (.lst ((List.range m).map f)))
theorem pe_lcG {y : Str} {p1 p2 pos : Pos} {iter : Expr} {scope : Scope} {own : List (Str × Nat)} {k i : Nat} {tg : TGn} (hc : X.calm = true) (hN : X.N.Nodup) (hi : PGw X k iter tg fun _ _ _ => False) (hr : Room (k + 1) X.A) (hgd : X.A.guards = some []) (ok : BlkOk X.N X.env.scope scope own) (hy : X.N[i]? = some y) (hyo : i ∈ own.map (·.2))
    (hyl : (relS scope X.env.scope).names.lookup y = some .local) (hcl : ∀ z ∈ scope.names, z.2 ≠ .cell) (hyd : (y == ("__debug__" : Str)) = false := by decide) (hs : ∀ x, foldedSetIterable iter X.env x = pure x := by intro _; rfl) :
    PE X (.ListComp (.Name y p1) [⟨.Name y p2, iter, [], 0⟩] scope pos) (tLcG tg) := by
  refine ⟨fun pins s σ H Q I h => ?_⟩
  rw [eval_ListComp]
  obtain ⟨f, N, Qm, hN1, hN2, h⟩ := h
  have hfree : ∀ y ∈ scope.names, y.2 = .free → ∃ c, X.env.cells.lookup y.1 = some c := fun y hy e => by
    rcases ok.free y hy e with k | k
    · exact I.ok.has _ (.inl k)
    · exact I.ok.has _ (.inr k)
  refine wpAny_comprehension_free (use := none) rfl hs (closure_ok hfree) ok.kind (fun y hy e => by rw [ok.uniq y hy, e])
    (thn (hi.run pins s σ H _ _ _ _ 0 (Nat.zero_le _) I h) fun xv s1 hx => ?_)
  obtain ⟨H1, sc, I1, nT, hG, hP, _⟩ := hx
  obtain ⟨a, g, c, rfl, ha1, ha2, hg, hgs, _, _, hos, hb, hl, hkp, wake⟩ := hG
  refine wpAny_pyIter_gen hg ?_
  have hgl : g < s1.gens.size := (Array.getElem?_eq_some_iff.mp hgs).1
  have I2 : Inv X pins σ H1 s1 := I1.call' (ch := []) hos (Un.kept hkp) (I1.hok.kept hkp) hb fun b z => by simp at z
  refine wpAny_newObj_type (newEnv_comp ?_) (by show 0 ≤ sizeLine; decide)
  generalize hD : s1.heap.objs.size = D
  generalize hs3 : ({ s1 with heap := s1.heap.push { cls := .type "list", data := .seq ([] : List Value).toArray } } : Shared) = s3
  have h3 : s3.heap = s1.heap.push { cls := .type "list", data := .seq ([] : List Value).toArray } := by rw [← hs3]
  have k3 : ∀ b o, s1.heap.get? b = some o → s3.heap.get? b = some o := fun b o e => by rw [h3]; exact Heap.get?_push_of_some _ e
  have I3 : Inv X pins σ H1 s3 := I2.call' (ch := []) (by rw [← hs3]) (Un.kept k3) (I2.hok.kept k3) (by rw [← hs3]; exact hb) fun b z => by simp at z
  have z3 : s3.heap.objs.size = D + 1 := by rw [h3, Heap.size_push, hD]
  have zc : sc.heap.objs.size ≤ D := by rw [← hD]; exact Nat.le_trans ha1 (Nat.le_of_lt ha2)
  have hD3 : s3.heap.get? D = some { cls := .type "list", data := .seq ([] : List Value).toArray } := by rw [h3, ← hD]; exact Heap.get?_push_size _ rfl
  obtain ⟨fp, hfp⟩ : ∃ fp, fp = (List.range s3.heap.objs.size).filter fun b => decide (sc.heap.objs.size ≤ b) := ⟨_, rfl⟩
  have mfp : ∀ b, b ∈ fp ↔ sc.heap.objs.size ≤ b ∧ b < s3.heap.objs.size := fun b => by
    rw [hfp, List.mem_filter, List.mem_range]
    exact ⟨fun q => ⟨of_decide_eq_true q.2, q.1⟩, fun q => ⟨q.2, decide_eq_true q.1⟩⟩
  have f3 : ∀ b ∈ fp, FpOk X pins H1 b ∧ b < s3.heap.objs.size := fun b hb => by
    obtain ⟨q1, q2⟩ := (mfp b).mp hb
    exact ⟨I1.fpOk q1 (I1.hok.fresh q1), q2⟩
  have I4 := block_start I3 ok hN f3
  show codeAny _ _ (.compStart (.ListComp (.Name y p1) [⟨.Name y p2, iter, [], 0⟩] scope pos) 0 (.ref a) (.ref D) (compEnvC scope (cellsFrom (s3.heap.objs.size + 1) scope.names (cloFrom X.env.cells scope.names [])) s3.heap.objs.size X.env)) (compPost (model X.prog X.w) X.A X.xe none (EP X pins σ Q) (.ref D) s3.heap.objs.size) { s3 with heap := pushCells (s3.heap.push { cls := .type "dict", data := .dict #[] }) scope.names }
  have ccell : ∀ y' c', (cellsFrom (s3.heap.objs.size + 1) scope.names (cloFrom X.env.cells scope.names [])).lookup y' = some c' → c' < sc.heap.objs.size := fun y' c' e => by
    rw [← Heap.size_push s3.heap { cls := .type "dict", data := .dict #[] }] at e
    rcases cells_mem (PySem.mem_of_lookup e) with hm | ⟨hm, _⟩
    · rcases cloFrom_mem hm with hm | ⟨q1, rfl⟩
      · cases hm
      · obtain ⟨c, hc⟩ := hfree _ q1 rfl
        rw [hc]
        obtain ⟨v, o, ho, _⟩ := I1.cell _ _ hc
        exact Heap.lt_size ho
    · exact absurd rfl (hcl _ hm)
  generalize hce : compEnvC scope (cellsFrom (s3.heap.objs.size + 1) scope.names (cloFrom X.env.cells scope.names [])) s3.heap.objs.size X.env = ce at I4 ⊢
  have cL : ce.locals = s3.heap.objs.size := by subst hce; rfl
  have cC : ce.cells = cellsFrom (s3.heap.objs.size + 1) scope.names (cloFrom X.env.cells scope.names []) := by subst hce; rfl
  have cS : ce.scope = relS scope X.env.scope := by subst hce; rfl
  generalize hs4 : ({ s3 with heap := pushCells (s3.heap.push { cls := .type "dict", data := .dict #[] }) scope.names } : Shared) = s4 at I4 ⊢
  have k4 : ∀ b o, s3.heap.get? b = some o → s4.heap.get? b = some o := fun b o e => by rw [← hs4]; exact pushCells_keeps _ _ _ _ (Heap.get?_push_of_some _ e)
  have g4 : s4.gens = s1.gens := by rw [← hs4, ← hs3]
  have hC4 : s4.heap.get? s3.heap.objs.size = some { cls := .type "dict", data := .dict #[] } := by
    rw [← hs4]
    exact pushCells_keeps _ _ _ _ (Heap.get?_push_size _ rfl)
  obtain ⟨W, hW⟩ : ∃ W, W = [D, s3.heap.objs.size] := ⟨_, rfl⟩
  have mW : ∀ b, b ∈ W ↔ b = D ∨ b = s3.heap.objs.size := fun b => by rw [hW]; simp
  have zb : X.base.objs.size ≤ sc.heap.objs.size := Nat.le_trans I1.ok.bsz I1.sz
  have wy : ∀ b ∈ W, D ≤ b := fun b hb => by
    rcases (mW b).mp hb with rfl | rfl
    · exact Nat.le_refl _
    · rw [z3]; exact Nat.le_succ _
  have haW : a ∉ W := fun hb => Nat.not_lt.mpr (wy a hb) (by rw [← hD]; exact ha2)
  have hcs : cStatics ∉ W := fun hb => by
    obtain ⟨_, hn, _⟩ := hl
    exact Nat.not_lt.mpr (wy _ hb) (by rw [← hD]; exact hn.lt)
  have ww : Ww X.base H1 X.stack W [] sc s1 (s4.setGen g .running) := by
    refine ⟨fun b hb => .inr (by rw [hD]; exact wy b hb), fun b hb => Heap.get?_none_of_le (Nat.le_trans zb (Nat.le_trans zc (wy b hb))), fun b hb => I1.hok.fresh (Nat.le_trans zc (wy b hb)), fun b hb hm => ?_, fun b hb => ?_, fun b hb => by simp at hb⟩
    · rcases List.mem_cons.mp (I1.stkSub b hm) with z | z
      · exact Nat.not_lt.mpr (Nat.le_trans zc (wy b hb)) (by rw [z]; exact I1.lt)
      · exact I1.nofs (Nat.le_trans zc (wy b hb)) z
    · rcases (mW b).mp hb with rfl | rfl
      · exact ⟨_, k4 _ _ hD3, fun v z => by cases z⟩
      · exact ⟨_, hC4, fun v z => by cases z⟩
  have s0 : Slp X.prog X.w X.A X.stack H1 sc W [] a g N (fun ys x => x = f ys.length ∧ ys.length + 1 < N) (fun ys => Qm ys.length) (fun _ _ _ => False) N s4 := by
    refine ⟨by rw [← hs4, ← hs3]; exact hos, hl.keeps fun b o e => k4 b o (k3 b o e), hg.keeps fun b o e => k4 b o (k3 b o e), .fresh c, by rw [g4]; exact hgs, rfl, ?_⟩
    refine wake X.A.in1 W [] (s4.setGen g .running) hr.in1 (by exact hgd) I1.ok.frames ww (fun b o e => k4 b o (k3 b o e)) (by rw [← hs4, ← hs3]; exact hos) (allBare_setGen (by rw [g4]; exact hb) rfl) ?_
    have q : (s4.setGen g .running).gens.size = s4.gens.size := setGen_size _ _ _
    rw [q, g4]
    exact hgl
  have hlB : ce.scope.names.lookup y = some .local := by rw [cS]; exact hyl
  have Ddata : ∀ {acc : Array Value} {n : Nat} (v : Option Value), (lstObj acc n).data ≠ .cell v := fun v z => by cases z
  have loop : codeAny (model X.prog X.w) X.A (.compLoop (.ListComp (.Name y p1) [⟨.Name y p2, iter, [], 0⟩] scope pos) 0 (.ref a) (.ref D) ce) (compPost (model X.prog X.w) X.A X.xe none (EP X pins σ Q) (.ref D) s3.heap.objs.size) s4 := by
    refine compLoop_any (fun n s' => ∃ (m : Nat) (acc : Array Value) (cnt : Nat), Inv (X.blk s3 H1 scope ce fp) [] (wipe σ (own.map (·.2))) H1 s' ∧ Slp X.prog X.w X.A X.stack H1 sc W [] a g N (fun ys x => x = f ys.length ∧ ys.length + 1 < N) (fun ys => Qm ys.length) (fun _ _ _ => False) n s' ∧
      s'.heap.get? D = some (lstObj acc cnt) ∧ Vals ((List.range m).map f) acc.toList ∧ n + m = N ∧ 1 ≤ n) ?_ N ⟨0, #[], 0, I4, s0, k4 _ _ hD3, .nil, Nat.add_zero _, hN1⟩
    rintro n s5 ⟨m, acc, cnt, I5, S5, hD5, r5, hnm, hn1⟩
    obtain ⟨n, rfl⟩ : ∃ n', n = n' + 1 := ⟨n - 1, by omega⟩
    have step : ∀ {s6 : Shared}, Stp X.prog X.w X.stack H1 sc.heap.objs.size W a g s5 s6 → Inv (X.blk s3 H1 scope ce fp) [] (wipe σ (own.map (·.2))) H1 s6 := fun {s6} q => by
      refine item_inv (W := W) (n0 := sc.heap.objs.size) I5 q.os q.bare q.un q.hok q.kw fun b hb hw => ?_
      have hbD : b ≠ s3.heap.objs.size := fun z => hw ((mW b).mpr (.inr z))
      refine ⟨?_, ?_, fun y' c' e z => ?_, fun p hp => absurd (show p ∈ ([] : List (Addr × Obj)) ++ [] from hp) (by simp)⟩
      · rcases Nat.lt_or_ge b s3.heap.objs.size with q | q
        · exact .inl ((mfp b).mpr ⟨hb, q⟩)
        · exact .inr q
      · show b ≠ ce.locals
        rw [cL]; exact hbD
      · have e : ce.cells.lookup y' = some c' := e
        rw [cC] at e
        have := ccell y' c' e
        rw [z] at this
        exact Nat.not_lt.mpr hb this
    refine next_gw (by exact I1.ok.hd hc) hr.depth ⟨haW, by simp⟩ ⟨hcs, by simp⟩ S5 (fun ys x v s6 rv hit hy6 q6 kap => ?_) (fun ys s6 hy6 hq q6 => ?_) fun e s6 hx => ?_
    · -- an item
      obtain ⟨rfl, hlt⟩ := hit
      have hym : ys.length = m := by omega
      rw [hym] at rv hlt kap
      have I6 := step q6
      obtain ⟨og, nmg, qng, hog, hgc, hgd, _⟩ := id q6.gen
      refine go_of hog hgc hgd (by decide) ?_
      refine wpAny_assign_Name (store_loc I6 hN hy hlB rv fun h7 tk m7 I7 hn7 hm7 sb7 => ?_)
      refine wpAny_tests_nil ?_
      simp only [if_true]
      refine wpAny_Name (wpAny_loadName_local (by exact I6.ok.kind) hlB hn7 hm7 ?_) hyd
      have hDC : D ≠ s3.heap.objs.size := by rw [z3]; exact Nat.ne_of_lt (Nat.lt_succ_self _)
      have hD6 : s6.heap.get? D = some (lstObj acc cnt) := q6.kw D ((mW D).mpr (.inl rfl)) _ hD5
      have hD7 : h7.get? D = some (lstObj acc cnt) := (sb7.2 D (by show D ≠ ce.locals; rw [cL]; exact hDC)).trans hD6
      have hl5 := r5.length
      have hl5' : acc.size = m := by
        rw [List.length_map, List.length_range] at hl5
        rw [← Array.length_toList, ← hl5]
      refine append_at (hsz := by rw [hl5']; omega) hD7 fun h8 sb8 hD8 => ?_
      have dfp : D ∈ fp := (mfp D).mpr ⟨zc, by rw [z3]; exact Nat.lt_succ_self _⟩
      have hDn : H1 D = none := I1.hok.fresh zc
      have dok : FpOk (X.blk s3 H1 scope ce fp) [] H1 D := ⟨hDn, (I7.ok.exf D dfp).1, I7.ok.exfs D dfp, .inl dfp, (I7.ok.exf D dfp).2, fun p hp => absurd (show p ∈ ([] : List (Addr × Obj)) ++ [] from hp) (by simp)⟩
      obtain ⟨d0, d1, d2, d3, d4, d5⟩ := dok
      have I8 : Inv (X.blk s3 H1 scope ce fp) [] ((wipe σ (own.map (·.2))).set i (some (f m))) H1 { s6 with heap := h8, toks := tk } :=
        Inv.turned (s := { s6 with heap := h7, toks := tk }) (h' := h8) (t' := tk) (it := D) I7 (fun b o hb e => (sb8.2 b hb).trans e) d0 d1 d3 d4 d5
      have I9 : Inv (X.blk s3 H1 scope ce fp) [] (wipe σ (own.map (·.2))) H1 { s6 with heap := h8, toks := tk } := I8.weak (by rw [List.length_set]) fun j v' e => by
        have hj : j ≠ i := fun z => (wipe_some e).2 (z ▸ hyo)
        rw [List.getElem?_set_ne (Ne.symm hj)]
        exact e
      have sb7' : ∀ b, b ≠ s3.heap.objs.size → h7.get? b = s6.heap.get? b := fun b hb => sb7.2 b (by show b ≠ ce.locals; rw [cL]; exact hb)
      refine ⟨n, Nat.lt_succ_self _, m + 1, _, _, I9, kap hlt _ ⟨rfl, q6.bare, fun b o hb _ e => ?_, fun b hb o e => ?_, fun b hb => absurd hb (by simp), fun _ _ _ e => e, Nat.le_refl _, ?_⟩, hD8, ?_, by omega, by omega⟩
      · have n1 : b ≠ D := fun z => hb ((mW b).mpr (.inl z))
        have n2 : b ≠ s3.heap.objs.size := fun z => hb ((mW b).mpr (.inr z))
        exact (sb8.2 b n1).trans ((sb7' b n2).trans e)
      · rcases (mW b).mp hb with rfl | rfl
        · exact ⟨_, hD8, fun v z => by cases z⟩
        · obtain ⟨oc, es, ep, hoc, hdc, _⟩ := hn7
          have hoc : h7.get? ce.locals = some oc := hoc
          rw [cL] at hoc
          exact ⟨oc, (sb8.2 _ (Ne.symm hDC)).trans hoc, fun v z => by rw [hdc] at z; cases z⟩
      · show s6.heap.objs.size ≤ h8.objs.size
        rw [sb8.1, sb7.1]
        exact Nat.le_refl _
      · rw [List.range_succ, List.map_append]
        have e : ∀ (x : Value), (acc.push x).toList = acc.toList ++ [x] := fun x => by simp
        rw [e]
        exact r5.append (.cons rv .nil)
    · -- the end
      have hym : ys.length = m := by omega
      rw [hym] at hq
      have I6 := step q6
      have hD6 : s6.heap.get? D = some (lstObj acc cnt) := q6.kw D ((mW D).mpr (.inl rfl)) _ hD5
      have hDn : H1 D = none := I1.hok.fresh zc
      have un6 : Un (frs X.stack) fp H1 H1 s1.heap s6.heap := (Un.kept k3).trans I6.base
      have I7 : Inv X pins σ (upd H1 D (.lst ((List.range m).map f))) s6 := I2.drained (Nat.le_of_eq hD) (by rw [List.length_map, List.length_range]; omega) hD6 r5 (fun b hb => ⟨(f3 b hb).1.2.2.2.1, (f3 b hb).1.2.1, (f3 b hb).1.2.2.2.2.1, (f3 b hb).1.2.2.2.2.2⟩) (I6.os.trans (by rw [← hs3])) I6.bare un6 I6.hok hDn
      obtain ⟨mL, hnL, _⟩ := I6.loc
      have hnL : s6.heap.Ns ce.locals mL := hnL
      rw [cL] at hnL
      have nC : (upd H1 D (.lst ((List.range m).map f))) s3.heap.objs.size = none := by
        rw [upd_ne (by rw [z3]; exact Nat.ne_of_gt (Nat.lt_succ_self _))]
        exact I1.hok.fresh (Nat.le_trans zc (by rw [z3]; exact Nat.le_succ _))
      refine ⟨mL, hnL, fun h'' sb => ?_⟩
      obtain ⟨f0, f1, f2, f3', f4, f5⟩ := I3.fpOk (Nat.le_refl _) nC
      exact ⟨.ref D, _, I7.turned (t' := s6.toks) (fun b o hb e => (sb.2 b hb).trans e) f0 f1 f3' f4 f5, rfl, hP m D hq hDn⟩
    · obtain ⟨_, _, _, _, _, _, _, _, _, _, _, _, z⟩ := hx
      exact False.elim z
  exact codeAny_compStart_list loop (wpAny_pyIter_gen (hg.keeps fun b o e => k4 b o (k3 b o e)) loop)
end
end GW

/-! zip of a generator and a range: what one turn does, whatever the generator does. -/
namespace GW
open PySem PySem.Spec PyProof.Rows
section
variable {prog : Program} {w : World} {A : Around} {E : Value → Shared → Prop} {s : Shared}
theorem nextOf_range_item {it : Addr} {x left step : Int} {Q : Value → Shared → Prop} (hit : IsRangeIter s.heap it x left step) (hleft : 0 < left)
    (hQ : ∀ h', IsRangeIter h' it (x + step) (left - 1) step → Heap.SameBut it s.heap h' → Q (.int x s.toks) { s with heap := h', toks := s.toks + 1 }) :
    wpAny (model prog w) A (Builtin.SmallTypes.nextOf (.ref it)) Q E s := by
  have hT : s.TypeIs (.ref it) "range_iterator" := ⟨_, hit, rfl⟩
  unfold Builtin.SmallTypes.nextOf
  refine wpAny_bind (wpAny_callSpecial?_slot (name := Str.ofString "__next__") hT F.slot_range_iterator_next
    (call_meets F.slot_range_iterator_next hT F.entry_range_iterator_next (F.args_range_iterator_next_1 _) (AutoRange.range_iterator___next___range_iterator_1 it x left step (by omega)) ⟨hit, ?_⟩))
  exact wpAny_pure (hQ _ (Heap.get?_update_self _ (Heap.get?_update_self _ hit rfl) rfl) ((Heap.SameBut.update ..).trans (Heap.SameBut.update ..)))
theorem nextOf_range_end {it : Addr} {x left step : Int} {Q : Value → Shared → Prop} (hh : A.handled = none) (hit : IsRangeIter s.heap it x left step) (hleft : left ≤ 0)
    (hE : ∀ h' e, Heap.ExtBut it s.heap h' → (∃ o, h'.get? e = some o ∧ o.cls = .type "StopIteration") → E (.ref e) { s with heap := h' }) :
    wpAny (model prog w) A (Builtin.SmallTypes.nextOf (.ref it)) Q E s := by
  have hT : s.TypeIs (.ref it) "range_iterator" := ⟨_, hit, rfl⟩
  unfold Builtin.SmallTypes.nextOf
  refine wpAny_bind (wpAny_callSpecial?_slot (name := Str.ofString "__next__") hT F.slot_range_iterator_next
    (wpAny_call_entry F.slot_range_iterator_next hT F.entry_range_iterator_next ?_ (F.args_range_iterator_next_1 _)))
  show wpAny _ _ (field (.ref it) 0 >>= _) _ _ s
  refine wpAny_bind (wpAny_field hit rfl (x := rawInt x) rfl ?_)
  show wpAny _ _ (field (.ref it) 1 >>= _) _ _ s
  refine wpAny_bind (wpAny_field hit rfl (x := rawInt left) rfl ?_)
  show wpAny _ _ (field (.ref it) 2 >>= _) _ _ s
  refine wpAny_bind (wpAny_field hit rfl (x := rawInt step) rfl ?_)
  show wpAny _ _ (if left ≤ 0 then _ else _) _ _ s
  rw [if_pos hleft]
  refine wpAny_bind (wpAny_rule ?_)
  refine wpAny_bind ?_
  show wpAny _ _ (newExc (.type "StopIteration") [] >>= _) _ _ _
  refine wpAny_bind ?_
  simp only [newExc, newTuple]
  refine wpAny_bind (wpAny_newObj_type ?_ (by size_fits))
  refine wpAny_bind (m := firstArgMember _ _) (wpAny_of_eq (a := Value.none) (by first | rfl | (simp only [firstArgMember]; rfl)) ?_)
  refine wpAny_newObj_type ?_ (by size_fits)
  simp only [raiseNew]
  refine wpAny_bind (wpAny_handled ?_)
  first | rw [show A.in1.handled = none from hh] | rw [hh]
  refine wpAny_bind (wpAny_pure (wpAny_throw ?_))
  exact hE _ _ (((Heap.ExtBut.refl it s.heap).push _).push _) ⟨_, Heap.get?_push_size _ rfl, rfl⟩
structure ZG (z TI TO i2 : Addr) : Prop where
  TIz : TI ≠ z
  TOz : TO ≠ z
  i2z : i2 ≠ z
  TITO : TI ≠ TO
  TIi2 : TI ≠ i2
  TOi2 : TO ≠ i2
variable {z TI TO a i2 : Addr} {a1 a2 : Value} {k left : Int} {G : Value → Shared → Prop}
theorem zipG_item {Q : Value → Shared → Prop} (D : ZG z TI TO i2) (hz : IsZip s.heap z TI TO .none) (hTI : IsPair s.heap TI (.ref a) (.ref i2))
    (hgen : ∀ g0, IsZip g0 z TI TO .ellipsis → Heap.SameBut z s.heap g0 → wpAny (model prog w) A (Builtin.SmallTypes.nextOf (.ref a)) G (fun _ _ => False) { s with heap := g0 }) (hleft : 0 < left)
    (hG : ∀ x s1, G x s1 → IsZip s1.heap z TI TO .ellipsis ∧ IsPair s1.heap TO a1 a2 ∧ IsRangeIter s1.heap i2 k left 1)
    (hQ : ∀ x s1 h' tk, G x s1 → IsZip h' z TI TO (rawInt s1.heap.objs.size) → IsPair h' TO x (.int k s1.toks) → IsRangeIter h' i2 (k + 1) (left - 1) 1 → IsPair h' s1.heap.objs.size x (.int k s1.toks) → h'.objs.size = s1.heap.objs.size + 1 →
      (∀ c o, c ≠ z → c ≠ TO → c ≠ i2 → s1.heap.get? c = some o → h'.get? c = some o) → Q (.ref s1.heap.objs.size) { s1 with heap := h', toks := tk }) :
    wpAny (model prog w) A (Builtin.«zip.__next__» ⟨[.ref z], []⟩) (fun fin s' => ∃ v, fin = .done (.ret v) ∧ Q v s') E s := by
  show wpAny _ _ (field (.ref z) 2 >>= _) _ _ _
  refine wpAny_bind (wpAny_field hz rfl (x := .bool false) rfl ?_)
  show wpAny _ _ (field (.ref z) 3 >>= _) _ _ _
  refine wpAny_bind (wpAny_field hz rfl (x := .ref TI) rfl ?_)
  refine wpAny_bind (wpAny_seqItems hTI rfl ?_)
  show wpAny _ _ (Builtin.SmallTypes.ownedTupleIsFree (.ref z) >>= _) _ _ _
  refine wpAny_bind ?_
  unfold Builtin.SmallTypes.ownedTupleIsFree
  refine wpAny_bind (wpAny_field hz rfl (x := .none) rfl (wpAny_pure ?_))
  simp only [if_true]
  refine wpAny_bind (wpAny_rule ?_)
  refine wpAny_bind (wpAny_field hz rfl (x := .ref TO) rfl ?_)
  refine wpAny_bind (wpAny_setField_rec hz (by simp) fun g0 hz0 hs0 => ?_)
  replace hz0 : IsZip g0 z TI TO .ellipsis := hz0
  refine wpAny_bind ?_
  simp only [List.zipIdx_cons, List.zipIdx_nil, List.forIn_cons, List.forIn_nil]
  refine wpAny_bind (wpAny_bind (wpAny_onRaise ?_))
  show wpAny _ _ (Builtin.SmallTypes.nextOf (.ref a) >>= _) _ _ { s with heap := g0 }
  refine wpAny_bind (wpAny_mono (hgen g0 hz0 hs0) (fun x s1 hg => wpAny_pure ?_) fun e s1 he => ?_)
  · obtain ⟨hz1, hTO1, hi1⟩ := hG x s1 hg
    refine wpAny_bind (wpAny_seqItems hTO1 rfl ?_)
    refine wpAny_bind (wpAny_updateSeq_pair hTO1 fun g1 hT1 hs1 => ?_)
    replace hT1 : IsPair g1 TO x a2 := hT1
    refine wpAny_bind (wpAny_letGo (wpAny_pure ?_))
    refine wpAny_bind (wpAny_bind (wpAny_onRaise ?_))
    show wpAny _ _ (Builtin.SmallTypes.nextOf (.ref i2) >>= _) _ _ _
    have hi2 : IsRangeIter g1 i2 k left 1 := hs1.extBut _ _ D.TOi2.symm hi1
    refine wpAny_bind (nextOf_range_item hi2 hleft fun g2 hi3 hs2 => wpAny_pure ?_)
    have hTO2 : IsPair g2 TO x a2 := hs2.extBut _ _ D.TOi2 hT1
    refine wpAny_bind (wpAny_seqItems hTO2 rfl ?_)
    refine wpAny_bind (wpAny_updateSeq_pair hTO2 fun g3 hT3 hs3 => ?_)
    replace hT3 : IsPair g3 TO x (.int k s1.toks) := hT3
    refine wpAny_bind (wpAny_letGo (wpAny_pure (wpAny_pure ?_)))
    refine wpAny_bind (wpAny_seqItems hT3 rfl ?_)
    refine wpAny_bind (wpAny_newTuple ?_)
    have hsz : g3.objs.size = s1.heap.objs.size := by rw [hs3.1, hs2.1, hs1.1]
    have hz3 : IsZip g3 z TI TO .ellipsis := hs3.extBut _ _ D.TOz.symm (hs2.extBut _ _ D.i2z.symm (hs1.extBut _ _ D.TOz.symm hz1))
    have hk3 : ∀ c o, c ≠ TO → c ≠ i2 → s1.heap.get? c = some o → g3.get? c = some o := fun c o c2 c3 e => hs3.extBut _ _ c2 (hs2.extBut _ _ c3 (hs1.extBut _ _ c2 e))
    have hi4 : IsRangeIter g3 i2 (k + 1) (left - 1) 1 := hs3.extBut _ _ D.TOi2.symm hi3
    have hzlt : z < g3.objs.size := Heap.lt_size hz3
    have hTOlt : TO < g3.objs.size := Heap.lt_size hT3
    have hi2lt : i2 < g3.objs.size := Heap.lt_size hi4
    show wpAny _ _ (Builtin.SmallTypes.ownedTupleHandOut (.ref z) (.ref g3.objs.size) >>= _) _ _ _
    refine wpAny_bind ?_
    unfold Builtin.SmallTypes.ownedTupleHandOut
    have hz4 : IsZip (g3.push { cls := .type "tuple", data := .seq #[x, .int k s1.toks] }) z TI TO .ellipsis := Heap.get?_push_of_some _ hz3
    refine wpAny_bind (wpAny_setField_rec hz4 (by simp) fun h7 hz7 hs7 => ?_)
    replace hz7 : IsZip h7 z TI TO (rawInt g3.objs.size) := hz7
    refine wpAny_setField_rec hz7 (by simp) fun h8 hz8 hs8 => ?_
    replace hz8 : IsZip h8 z TI TO (rawInt g3.objs.size) := hz8
    have up : ∀ c o, c ≠ z → g3.get? c = some o → h8.get? c = some o := fun c o c1 e => hs8.extBut _ _ c1 (hs7.extBut _ _ c1 (Heap.get?_push_of_some _ e))
    have hT8 : IsPair h8 g3.objs.size x (.int k s1.toks) := hs8.extBut _ _ (Nat.ne_of_gt hzlt) (hs7.extBut _ _ (Nat.ne_of_gt hzlt) (Heap.get?_push_size _ rfl))
    have hs8' : h8.objs.size = g3.objs.size + 1 := by rw [hs8.1, hs7.1, Heap.size_push]
    rw [hsz] at hz8 hT8 hs8'
    refine wpAny_pure ⟨_, rfl, ?_⟩
    show Q (.ref g3.objs.size) _
    rw [hsz]
    exact hQ x s1 h8 _ hg hz8 (up _ _ D.TOz hT3) (up _ _ D.i2z hi4) hT8 hs8' fun c o c1 c2 c3 e => up c o c1 (hk3 c o c2 c3 e)
  · exact he.elim
theorem zipG_end {Q : Fin → Shared → Prop} (hh : A.handled = none) (D : ZG z TI TO i2) (hz : IsZip s.heap z TI TO .none) (hTI : IsPair s.heap TI (.ref a) (.ref i2))
    (hgen : ∀ g0, IsZip g0 z TI TO .ellipsis → Heap.SameBut z s.heap g0 → wpAny (model prog w) A (Builtin.SmallTypes.nextOf (.ref a)) G (fun _ _ => False) { s with heap := g0 }) (hleft : left ≤ 0)
    (hG : ∀ x s1, G x s1 → IsZip s1.heap z TI TO .ellipsis ∧ IsPair s1.heap TO a1 a2 ∧ IsRangeIter s1.heap i2 k left 1)
    (hE : ∀ x s1 h' e, G x s1 → (∀ c o, c ≠ z → c ≠ TO → c ≠ i2 → s1.heap.get? c = some o → h'.get? c = some o) → (∃ o, h'.get? e = some o ∧ o.cls = .type "StopIteration") → E (.ref e) { s1 with heap := h' }) :
    wpAny (model prog w) A (Builtin.«zip.__next__» ⟨[.ref z], []⟩) Q E s := by
  show wpAny _ _ (field (.ref z) 2 >>= _) _ _ _
  refine wpAny_bind (wpAny_field hz rfl (x := .bool false) rfl ?_)
  show wpAny _ _ (field (.ref z) 3 >>= _) _ _ _
  refine wpAny_bind (wpAny_field hz rfl (x := .ref TI) rfl ?_)
  refine wpAny_bind (wpAny_seqItems hTI rfl ?_)
  show wpAny _ _ (Builtin.SmallTypes.ownedTupleIsFree (.ref z) >>= _) _ _ _
  refine wpAny_bind ?_
  unfold Builtin.SmallTypes.ownedTupleIsFree
  refine wpAny_bind (wpAny_field hz rfl (x := .none) rfl (wpAny_pure ?_))
  simp only [if_true]
  refine wpAny_bind (wpAny_rule ?_)
  refine wpAny_bind (wpAny_field hz rfl (x := .ref TO) rfl ?_)
  refine wpAny_bind (wpAny_setField_rec hz (by simp) fun g0 hz0 hs0 => ?_)
  replace hz0 : IsZip g0 z TI TO .ellipsis := hz0
  refine wpAny_bind ?_
  simp only [List.zipIdx_cons, List.zipIdx_nil, List.forIn_cons, List.forIn_nil]
  refine wpAny_bind (wpAny_bind (wpAny_onRaise ?_))
  show wpAny _ _ (Builtin.SmallTypes.nextOf (.ref a) >>= _) _ _ { s with heap := g0 }
  refine wpAny_bind (wpAny_mono (hgen g0 hz0 hs0) (fun x s1 hg => wpAny_pure ?_) fun e s1 he => ?_)
  · obtain ⟨hz1, hTO1, hi1⟩ := hG x s1 hg
    refine wpAny_bind (wpAny_seqItems hTO1 rfl ?_)
    refine wpAny_bind (wpAny_updateSeq_pair hTO1 fun g1 hT1 hs1 => ?_)
    refine wpAny_bind (wpAny_letGo (wpAny_pure ?_))
    refine wpAny_bind (wpAny_bind (wpAny_onRaise ?_))
    show wpAny _ _ (Builtin.SmallTypes.nextOf (.ref i2) >>= _) _ _ _
    have hi2 : IsRangeIter g1 i2 k left 1 := hs1.extBut _ _ D.TOi2.symm hi1
    refine wpAny_bind (nextOf_range_end hh hi2 hleft fun g2 e hs2 he => ?_)
    obtain ⟨oe, hoe, hce⟩ := he
    have hz2 : IsZip g2 z TI TO .ellipsis := hs2 _ _ D.i2z.symm (hs1.extBut _ _ D.TOz.symm hz1)
    have hez : e ≠ z := fun x => by subst x; rw [hz2] at hoe; cases hoe; simp at hce
    refine wpAny_setField_rec hz2 (by simp) fun g3 _ hs3 => hE x s1 g3 e hg (fun c o c1 c2 c3 q => hs3.extBut _ _ c1 (hs2 _ _ c3 (hs1.extBut _ _ c2 q))) ⟨oe, hs3.extBut _ _ hez hoe, hce⟩
  · exact he.elim
theorem pyNext_zipG_item {Q : Option Value → Shared → Prop} (D : ZG z TI TO i2) (hz : IsZip s.heap z TI TO .none) (hTI : IsPair s.heap TI (.ref a) (.ref i2))
    (hgen : ∀ g0, IsZip g0 z TI TO .ellipsis → Heap.SameBut z s.heap g0 → wpAny (model prog w) A.in1 (Builtin.SmallTypes.nextOf (.ref a)) G (fun _ _ => False) { s with heap := g0 }) (hleft : 0 < left)
    (hG : ∀ x s1, G x s1 → IsZip s1.heap z TI TO .ellipsis ∧ IsPair s1.heap TO a1 a2 ∧ IsRangeIter s1.heap i2 k left 1)
    (hQ : ∀ x s1 h' tk, G x s1 → IsZip h' z TI TO (rawInt s1.heap.objs.size) → IsPair h' TO x (.int k s1.toks) → IsRangeIter h' i2 (k + 1) (left - 1) 1 → IsPair h' s1.heap.objs.size x (.int k s1.toks) → h'.objs.size = s1.heap.objs.size + 1 →
      (∀ c o, c ≠ z → c ≠ TO → c ≠ i2 → s1.heap.get? c = some o → h'.get? c = some o) → Q (some (.ref s1.heap.objs.size)) { s1 with heap := h', toks := tk }) :
    wpAny (model prog w) A (pyNext (.ref z)) Q E s := by
  have hT : s.TypeIs (.ref z) "zip" := ⟨_, hz, rfl⟩
  unfold pyNext
  exact wpAny_bind (wpAny_attempt (wpAny_callSpecial?_slot (name := Str.ofString "__next__") hT F.slot_zip_next
    (wpAny_call_entry F.slot_zip_next hT F.entry_zip_next
      (zipG_item D hz hTI hgen hleft hG fun x s1 h' tk a0 a1 a2 a3 a4 a5 a6 => wpAny_pure (hQ x s1 h' tk a0 a1 a2 a3 a4 a5 a6)) (F.args_zip_next_1 _))))
theorem pyNext_zipG_end {Q : Option Value → Shared → Prop} (hh : A.handled = none) (D : ZG z TI TO i2) (hz : IsZip s.heap z TI TO .none) (hTI : IsPair s.heap TI (.ref a) (.ref i2))
    (hgen : ∀ g0, IsZip g0 z TI TO .ellipsis → Heap.SameBut z s.heap g0 → wpAny (model prog w) A.in1 (Builtin.SmallTypes.nextOf (.ref a)) G (fun _ _ => False) { s with heap := g0 }) (hleft : left ≤ 0)
    (hG : ∀ x s1, G x s1 → IsZip s1.heap z TI TO .ellipsis ∧ IsPair s1.heap TO a1 a2 ∧ IsRangeIter s1.heap i2 k left 1)
    (hQ : ∀ x s1 h', G x s1 → (∀ c o, c ≠ z → c ≠ TO → c ≠ i2 → s1.heap.get? c = some o → h'.get? c = some o) → Q none { s1 with heap := h' }) :
    wpAny (model prog w) A (pyNext (.ref z)) Q E s := by
  have hT : s.TypeIs (.ref z) "zip" := ⟨_, hz, rfl⟩
  unfold pyNext
  refine wpAny_bind (wpAny_attempt (wpAny_callSpecial?_slot (name := Str.ofString "__next__") hT F.slot_zip_next
    (wpAny_call_entry F.slot_zip_next hT F.entry_zip_next (zipG_end hh D hz hTI hgen hleft hG fun x s1 h' e hg hk he => ?_) (F.args_zip_next_1 _))))
  obtain ⟨o, ho, hc⟩ := he
  refine wpAny_bind (wpAny_isInstance (T := "StopIteration") (b := true) ⟨o, ho, hc⟩ isSubtype_stop ?_)
  exact wpAny_pure (hQ x s1 h' hg hk)
/-! the zip object -/
abbrev gzI (h : Heap) (o2 : Obj) : Heap := h.push o2
abbrev gzTI (h : Heap) (a : Addr) (o2 : Obj) : Heap := (gzI h o2).push { cls := .type "tuple", data := .seq #[.ref a, .ref h.objs.size] }
abbrev gzTO (h : Heap) (a : Addr) (o2 : Obj) : Heap := (gzTI h a o2).push { cls := .type "tuple", data := .seq #[.none, .none] }
abbrev gzZ (h : Heap) (a : Addr) (o2 : Obj) : Heap := (gzTO h a o2).push { cls := .type "zip", data := .fields #[.none, .bool false, .bool false, .ref (gzI h o2).objs.size, .ref (gzTI h a o2).objs.size] }
abbrev rgO (n : Int) : Obj := { cls := .type "range_iterator", data := .fields #[rawInt 0, rawInt n, rawInt 1] }
theorem meets_zipG {r : Addr} {n : Int} {t u v : Tok} {g : Nat} (hsm : Builtin.Range.small 0 n 1 = true) (hrs : Builtin.Range.rangeSize 0 n 1 = n) :
    Meets (Builtin.«zip.__new__» ⟨[.type "zip", .ref a, .ref r], []⟩) (fun _ R s => (s.heap.IsGen a g ∧ IsRange s.heap r 0 n 1 t u v) ∧
      R (.ok (.ret (.ref (gzTO s.heap a (rgO n)).objs.size))) { s with heap := gzZ s.heap a (rgO n) }) :=
  .of_wp fun prog w A R s h => by
    obtain ⟨hp, gg, d, tk, os⟩ := s; obtain ⟨⟨h1, h2⟩, h⟩ := h
    have hsub := sub_zip
    have q1 : ∀ {A' : Around} {E : Value → Shared → Prop} {Q : Value → Shared → Prop}, Q (.ref a) ⟨hp, gg, d, tk, os⟩ → wpAny (model prog w) A' (pyIter (.ref a)) Q E ⟨hp, gg, d, tk, os⟩ :=
      fun q => wpAny_pyIter_gen h1 q
    have q2 : ∀ {A' : Around} {E : Value → Shared → Prop} {Q : Value → Shared → Prop}, Q (.ref hp.objs.size) ⟨hp.push (rgO n), gg, d, tk, os⟩ → wpAny (model prog w) A' (pyIter (.ref r)) Q E ⟨hp, gg, d, tk, os⟩ :=
      fun q => wpAny_pyIter_range h2 hsm (by rw [hrs]; exact q)
    wp_walk using q1, q2
    exact ⟨_, rfl, h⟩
theorem call_zipG {r : Addr} {n : Int} {t u v : Tok} {g : Nat} {Q : Value → Shared → Prop} (hsm : Builtin.Range.small 0 n 1 = true) (hrs : Builtin.Range.rangeSize 0 n 1 = n) (h1 : s.heap.IsGen a g) (h2 : IsRange s.heap r 0 n 1 t u v)
    (h : ∀ h', IsZip h' (s.heap.objs.size + 3) (s.heap.objs.size + 1) (s.heap.objs.size + 2) .none → IsPair h' (s.heap.objs.size + 1) (.ref a) (.ref s.heap.objs.size) →
      IsPair h' (s.heap.objs.size + 2) .none .none → IsRangeIter h' s.heap.objs.size 0 n 1 → h'.objs.size = s.heap.objs.size + 4 →
      (∀ c o, s.heap.get? c = some o → h'.get? c = some o) → Q (.ref (s.heap.objs.size + 3)) { s with heap := h' }) :
    wpAny (model prog w) A (call (.type "zip") [.ref a, .ref r]) Q E s := by
  refine callType_new F.called_zip (by decide) (F.typeCall_zip_2 _ _) (F.newCall_zip_2 _ _) (fun obj => F.args_object_init_3 obj _ _) F.entry_zip_new
    (meets_zipG (t := t) (u := u) (v := v) (g := g) hsm hrs) ⟨⟨h1, h2⟩, ?_⟩
  have z1 : (gzI s.heap (rgO n)).objs.size = s.heap.objs.size + 1 := Heap.size_push ..
  have z2 : (gzTI s.heap a (rgO n)).objs.size = s.heap.objs.size + 2 := by rw [Heap.size_push, z1]
  have z3 : (gzTO s.heap a (rgO n)).objs.size = s.heap.objs.size + 3 := by rw [Heap.size_push, z2]
  have z4 : (gzZ s.heap a (rgO n)).objs.size = s.heap.objs.size + 4 := by rw [Heap.size_push, z3]
  have g4 : (gzZ s.heap a (rgO n)).get? (gzTO s.heap a (rgO n)).objs.size = some _ := Heap.get?_push_size _ rfl
  have g3 : (gzZ s.heap a (rgO n)).get? (gzTI s.heap a (rgO n)).objs.size = some _ := Heap.get?_push_of_some _ (Heap.get?_push_size _ rfl)
  have g2 : (gzZ s.heap a (rgO n)).get? (gzI s.heap (rgO n)).objs.size = some _ := Heap.get?_push_of_some _ (Heap.get?_push_of_some _ (Heap.get?_push_size _ rfl))
  have g1 : (gzZ s.heap a (rgO n)).get? s.heap.objs.size = some (rgO n) := Heap.get?_push_of_some _ (Heap.get?_push_of_some _ (Heap.get?_push_of_some _ (Heap.get?_push_size _ rfl)))
  rw [z3, z1, z2] at g4
  rw [z2] at g3
  rw [z1] at g2
  show _ ∧ _
  rw [z3]
  exact ⟨⟨_, g4, rfl⟩, h _ g4 g2 g3 g1 z4 fun c o x => Heap.get?_push_of_some _ (Heap.get?_push_of_some _ (Heap.get?_push_of_some _ (Heap.get?_push_of_some _ x)))⟩
end
end GW

/-! [x for x, k in zip(g, range(2))]: a generator asked by zip. -/
namespace GW
open PySem PySem.Spec PyProof.Rows L2 GenW
theorem Slw.trans {W Ls : List Addr} {Gk : Nat → Prop} {s s' s'' : Shared} (x : Slw W Ls Gk s s') (y : Slw W Ls Gk s' s'') : Slw W Ls Gk s s'' :=
  ⟨y.os.trans x.os, y.bare, fun b o h1 h2 e => y.keep b o h1 h2 (x.keep b o h1 h2 e), fun b hb o e => by
    obtain ⟨o', e', _⟩ := x.wide b hb o e
    exact y.wide b hb o' e', fun b hb o e => by
    obtain ⟨o', e', _⟩ := x.fr b hb o e
    exact y.fr b hb o' e', fun g z h e => y.slot g z h (x.slot g z h e), Nat.le_trans x.gsz y.gsz, Nat.le_trans x.hsz y.hsz⟩
theorem nextOf_own {P : Program} {w : World} {A : Around} {E : Value → Shared → Prop} {s : Shared} {a : Addr} {g n : Nat} {gs : GenState} {R : GenEnd} {Y : Protocol} {Q : Value → Shared → Prop}
    (hl : s.heap.NoLimit) (hroom : A.depth < recursionLimit) (hg : s.heap.IsGen a g) (hgs : s.gens[g]? = some gs) (hgo : gs.Goes (model P w) A.in1 R Y n (.send .none) (s.setGen g .running))
    (hY : ∀ v s₁ gs', gs'.bare = true → Y (n - 1) (s.setGen g .running) v s₁ (fun r' s'' => match n with
        | 0 => False
        | m + 1 => gs'.Goes (model P w) A.in1 R Y m r' s'') → Q v (s₁.setGen g gs'))
    (hR : ∀ r s₁, R n (s.setGen g .running) r s₁ → False) :
    wpAny (model P w) A (Builtin.SmallTypes.nextOf (.ref a)) Q E s := by
  unfold Builtin.SmallTypes.nextOf
  refine wpAny_bind (wpAny_callSpecial?_slot (name := Str.ofString "__next__") hg.typeIs slot_gen_next
    (wpAny_call_entry slot_gen_next hg.typeIs entry_gen_next ?_ (args_gen_next _)))
  show wpAny _ A.in1 (Builtin.Generator.genWake (.ref a) (.send .none)) _ _ s
  unfold Builtin.Generator.genWake
  refine wpAny_bind (wpAny_holding (wpAny_genNumber hg (wpAny_bind (wpAny_genState hgs ?_))))
  cases gs with
  | running => exact hgo.elim
  | finished => exact hgo.elim
  | _ =>
    refine wpAny_bind (wpAny_roomToWake hl hroom ?_)
    show wpAny _ A.in1 (.resume g (.send .none) [] _) _ _ s
    refine wpAny_resumeQ hgs hgo (fun x s₁ hx => (hR x s₁ hx).elim) (fun v s₁ gs' hb hv => ?_)
    exact wpAny_pure ⟨v, rfl, wpAny_pure (hY v s₁ gs' hb hv)⟩
theorem nextOf_gw {P : Program} {w : World} {A : Around} {outer : List Env} {H : Hp} {sc s : Shared} {W Ls : List Addr} {a : Addr} {g N n : Nat} {It : List V → V → Prop} {Qn : Value → Shared → Prop} {Er : Value → Shared → Prop} (hroom : A.depth < recursionLimit) (ha : a ∉ W ∧ a ∉ Ls) (hc : cStatics ∉ W ∧ cStatics ∉ Ls)
    (h : Slp P w A outer H sc W Ls a g N It (fun _ => False) (fun _ _ _ => False) (n + 1) s)
    (hY : ∀ ys y v s1, RelV y v → It ys y → n + 1 + ys.length = N → Stp P w outer H sc.heap.objs.size W a g s s1 →
      (ys.length + 1 < N → ∀ s', Slw W Ls (g ≤ ·) s1 s' → Slp P w A outer H sc W Ls a g N It (fun _ => False) (fun _ _ _ => False) n s') → Qn v s1) :
    wpAny (model P w) A (Builtin.SmallTypes.nextOf (.ref a)) Qn Er s := by
  obtain ⟨hos, hl, hg, gs, hgs, hgo⟩ := h
  have hgl : g < s.gens.size := (Array.getElem?_eq_some_iff.mp hgs).1
  refine wpAny_mono (wpAny_gsz (n := g + 1) hgl (nextOf_own (Q := fun r s1 => g + 1 ≤ s1.gens.size → Qn r s1) (E := fun e s1 => g + 1 ≤ s1.gens.size → Er e s1) hl hroom hg hgs hgo (fun v s1 gs' hbare hv => ?_) fun r s1 hr => ?_)) (fun _ _ q => q) fun _ _ q => q
  · intro hsz
    obtain ⟨ys, y, rv, it, hn, os1, b1, un, hok, kw, lim, ig, kap⟩ := hv
    have hsz1 : g < s1.gens.size := by
      have q : (s1.setGen g gs').gens.size = s1.gens.size := setGen_size _ _ _
      have hsz' : g + 1 ≤ (s1.setGen g gs').gens.size := hsz
      omega
    refine hY ys y v (s1.setGen g gs') rv it hn ⟨os1.trans hos.symm, allBare_setGen b1 hbare, un, hok, kw, lim, ig⟩ fun hm s' z => ?_
    have hgs' : s'.gens[g]? = some gs' := z.slot g gs' (Nat.le_refl _) (setGen_at hsz1)
    have keepG : s'.heap.IsGen a g := by
      obtain ⟨o, nm, qn, ho, r⟩ := ig
      exact ⟨o, nm, qn, z.keep a o ha.1 ha.2 ho, r⟩
    refine ⟨z.os.trans os1, ?_, keepG, gs', hgs', ?_⟩
    · obtain ⟨mc, hns, hnn⟩ := lim
      exact ⟨mc, hns.at' fun o e => z.keep _ o hc.1 hc.2 e, hnn⟩
    · refine kap hm (s'.setGen g .running) ⟨z.os, allBare_setGen z.bare rfl, z.keep, z.wide, z.fr, fun i x hi e => ?_, ?_, z.hsz⟩
      · rw [set_other (Nat.ne_of_gt hi)]
        refine z.slot i x (Nat.le_of_lt hi) ?_
        rw [set_other (Nat.ne_of_gt hi)]
        exact e
      · have q1 : (s1.setGen g gs').gens.size = s1.gens.size := setGen_size _ _ _
        have q2 : (s'.setGen g .running).gens.size = s'.gens.size := setGen_size _ _ _
        rw [q2, ← q1]
        exact z.gsz
  · rcases hr with ⟨_, ys, _, _, _, _, _, _, _, _, hq⟩ | ⟨e, _, cx, _⟩
    · exact hq
    · obtain ⟨_, _, _, _, _, _, _, _, _, _, _, _, z⟩ := cx
      exact z
section
variable {X : Cx}
/-- [y for y, k in zip(g, range(2))] -/
def tLcZ (tg : TGn) : TE := fun σ H Q => ∃ (f : Nat → V), tg σ H (fun ys x => x = f ys.length) 3 (fun _ => False) fun H1 =>
  ∀ D, H1 D = none → Q (.ref D) (upd H1 D (.lst [f 0, f 1]))
theorem pe_lcZ {y y2 : Str} {p1 p2 p3 pt pz pr pn pos cp cp2 : Pos} {tk : Nat} {jn : Nat} {e1 : Expr} {scope : Scope} {own : List (Str × Nat)} {k i j : Nat} {tg : TGn} (hc : X.calm = true) (hN : X.N.Nodup) (hi : PGw X k e1 tg fun _ _ _ => False) (hr : Room (k + 2) X.A) (hgd : X.A.guards = some []) (ok : BlkOk X.N X.env.scope scope own)
    (hgz : Gl X "zip") (hmz : X.mg "zip" = none) (hgr : Gl X "range") (hmr : X.mg "range" = none)
    (hy : X.N[i]? = some y) (hyo : i ∈ own.map (·.2)) (hyl : (relS scope X.env.scope).names.lookup y = some .local) (hy2 : X.N[j]? = some y2) (hyo2 : j ∈ own.map (·.2)) (hyl2 : (relS scope X.env.scope).names.lookup y2 = some .local) (hij : i ≠ j)
    (hcl : ∀ z ∈ scope.names, z.2 ≠ .cell) (hyd : (y == ("__debug__" : Str)) = false := by decide)
    (hs : ∀ x, foldedSetIterable (.Call (.Name "zip" pz) [e1, .Call (.Name "range" pr) [.Constant (.int 2) jn pn] [] cp] [] cp2) X.env x = pure x := by intro _; rfl)
    (hst : starEach [e1, .Call (.Name "range" pr) [.Constant (.int 2) jn pn] [] cp] X.env = (false, eval e1 X.env) :: starEach [.Call (.Name "range" pr) [.Constant (.int 2) jn pn] [] cp] X.env := by rfl) (hpl : (backTo cp2 (starEach [.Call (.Name "range" pr) [.Constant (.int 2) jn pn] [] cp] X.env)).any (·.1) = false := by rfl) :
    PE X (.ListComp (.Name y p1) [⟨.Tuple [.Name y p2, .Name y2 p3] tk pt, .Call (.Name "zip" pz) [e1, .Call (.Name "range" pr) [.Constant (.int 2) jn pn] [] cp] [] cp2, [], 0⟩] scope pos) (tLcZ tg) := by
  refine ⟨fun pins s σ H Q I h => ?_⟩
  rw [eval_ListComp]
  obtain ⟨f, h⟩ := h
  have hfree : ∀ y ∈ scope.names, y.2 = .free → ∃ c, X.env.cells.lookup y.1 = some c := fun y hy e => by
    rcases ok.free y hy e with k | k
    · exact I.ok.has _ (.inl k)
    · exact I.ok.has _ (.inr k)
  refine wpAny_comprehension_free (use := none) rfl hs (closure_ok hfree) ok.kind (fun y hy e => by rw [ok.uniq y hy, e]) ?_
  refine Call_ (ld_blt I hgz hmz PyProof.Rows.boot_zip (PyProof.Rows.callWith_type1 ?_ hst hpl))
  rw [hst]
  show wpAny _ _ (spliced ((false, eval e1 X.env) :: backTo cp2 (starEach [.Call (.Name "range" pr) [.Constant (.int 2) jn pn] [] cp] X.env))) _ _ s
  refine Calls.spliced_cons (thn (hi.run pins s σ H _ _ _ _ 0 (Nat.zero_le _) I h) fun xv s1 hx => ?_)
  obtain ⟨H1, sc, I1, nT, hG, hP, _⟩ := hx
  obtain ⟨a, g, c, rfl, ha1, ha2, hg, hgs, _, _, hos, hb, hl, hkp, wake⟩ := hG
  have hgl : g < s1.gens.size := (Array.getElem?_eq_some_iff.mp hgs).1
  have I2 : Inv X pins σ H1 s1 := I1.call' (ch := []) hos (Un.kept hkp) (I1.hok.kept hkp) hb fun b z => by simp at z
  show wpAny _ _ (spliced [(false, eval (.Call (.Name "range" pr) [.Constant (.int 2) jn pn] [] cp) X.env)]) _ _ s1
  refine Calls.spliced_cons (Call_ (ld_blt I2 hgr hmr PyProof.Rows.boot_range (PyProof.Rows.callWith_type1 ?_ rfl rfl)))
  show wpAny _ _ (spliced [(false, eval (.Constant (.int 2) jn pn) X.env)]) _ _ s1
  refine Calls.spliced_cons (wpAny_Constant_int (Calls.spliced_nil (call_range_1 (Calls.spliced_nil ?_))))
  generalize hs2 : ({ s1 with heap := s1.heap.push { cls := .type "range", data := .fields #[.int 0 (s1.toks + 1), .int 2 s1.toks, .int 1 (s1.toks + 1 + 1)] }, toks := s1.toks + 1 + 1 + 1 } : Shared) = s2
  have h2 : s2.heap = s1.heap.push { cls := .type "range", data := .fields #[.int 0 (s1.toks + 1), .int 2 s1.toks, .int 1 (s1.toks + 1 + 1)] } := by rw [← hs2]
  have k2 : ∀ b o, s1.heap.get? b = some o → s2.heap.get? b = some o := fun b o e => by rw [h2]; exact Heap.get?_push_of_some _ e
  have z2 : s2.heap.objs.size = s1.heap.objs.size + 1 := by rw [h2, Heap.size_push]
  have r2 : IsRange s2.heap s1.heap.objs.size 0 2 1 (s1.toks + 1) s1.toks (s1.toks + 1 + 1) := by rw [h2]; exact Heap.get?_push_size _ rfl
  refine call_zipG (g := g) (small_one (by decide) (by decide) (by decide) (by decide)) (by decide) (hg.keeps k2) r2 fun hz0 hz hTI hTO hi2 hszz kz => ?_
  refine wpAny_pyIter_zip hz ?_
  generalize hi2e : s2.heap.objs.size = i2 at hz hTI hTO hi2 hszz ⊢
  have n0 : s1.heap.objs.size < i2 := by rw [← hi2e, z2]; exact Nat.lt_succ_self _
  generalize hsz : ({ s2 with heap := hz0 } : Shared) = sz
  have hszh : sz.heap = hz0 := by rw [← hsz]
  rw [← hszh] at hz hTI hTO hi2 hszz kz
  have ez1 : sz.os = s1.os := by rw [← hsz, ← hs2]
  have ez2 : sz.gens = s1.gens := by rw [← hsz, ← hs2]
  have kz1 : ∀ b o, s1.heap.get? b = some o → sz.heap.get? b = some o := fun b o e => kz b o (k2 b o e)
  have Iz : Inv X pins σ H1 sz := I2.call' (ch := []) ez1 (Un.kept kz1) (I2.hok.kept kz1) (by rw [ez2]; exact hb) fun b z => by simp at z
  clear hsz hszh hs2 h2 z2 r2 k2 kz hi2e
  refine wpAny_newObj_type (newEnv_comp ?_) (by show 0 ≤ sizeLine; decide)
  generalize hD : sz.heap.objs.size = D
  rw [hD] at hszz
  generalize hs3 : ({ sz with heap := sz.heap.push { cls := .type "list", data := .seq ([] : List Value).toArray } } : Shared) = s3
  have h3 : s3.heap = sz.heap.push { cls := .type "list", data := .seq ([] : List Value).toArray } := by rw [← hs3]
  have k3 : ∀ b o, sz.heap.get? b = some o → s3.heap.get? b = some o := fun b o e => by rw [h3]; exact Heap.get?_push_of_some _ e
  have I3 : Inv X pins σ H1 s3 := Iz.call' (ch := []) (by rw [← hs3]) (Un.kept k3) (Iz.hok.kept k3) (by rw [← hs3, ez2]; exact hb) fun b z => by simp at z
  have z3 : s3.heap.objs.size = D + 1 := by rw [h3, Heap.size_push, hD]
  have zc1 : sc.heap.objs.size ≤ s1.heap.objs.size := Nat.le_trans ha1 (Nat.le_of_lt ha2)
  have zc : sc.heap.objs.size ≤ D := by omega
  have hD3 : s3.heap.get? D = some { cls := .type "list", data := .seq ([] : List Value).toArray } := by rw [h3, ← hD]; exact Heap.get?_push_size _ rfl
  obtain ⟨fp, hfp⟩ : ∃ fp, fp = (List.range s3.heap.objs.size).filter fun b => decide (sc.heap.objs.size ≤ b) := ⟨_, rfl⟩
  have mfp : ∀ b, b ∈ fp ↔ sc.heap.objs.size ≤ b ∧ b < s3.heap.objs.size := fun b => by
    rw [hfp, List.mem_filter, List.mem_range]
    exact ⟨fun q => ⟨of_decide_eq_true q.2, q.1⟩, fun q => ⟨q.2, decide_eq_true q.1⟩⟩
  have f3 : ∀ b ∈ fp, FpOk X pins H1 b ∧ b < s3.heap.objs.size := fun b hb => by
    obtain ⟨q1, q2⟩ := (mfp b).mp hb
    exact ⟨I1.fpOk q1 (I1.hok.fresh q1), q2⟩
  have I4 := block_start I3 ok hN f3
  show codeAny _ _ (.compStart (.ListComp (.Name y p1) [⟨.Tuple [.Name y p2, .Name y2 p3] tk pt, .Call (.Name "zip" pz) [e1, .Call (.Name "range" pr) [.Constant (.int 2) jn pn] [] cp] [] cp2, [], 0⟩] scope pos) 0 (.ref (i2 + 3)) (.ref D) (compEnvC scope (cellsFrom (s3.heap.objs.size + 1) scope.names (cloFrom X.env.cells scope.names [])) s3.heap.objs.size X.env)) (compPost (model X.prog X.w) X.A X.xe none (EP X pins σ Q) (.ref D) s3.heap.objs.size) { s3 with heap := pushCells (s3.heap.push { cls := .type "dict", data := .dict #[] }) scope.names }
  have ccell : ∀ y' c', (cellsFrom (s3.heap.objs.size + 1) scope.names (cloFrom X.env.cells scope.names [])).lookup y' = some c' → c' < sc.heap.objs.size := fun y' c' e => by
    rw [← Heap.size_push s3.heap { cls := .type "dict", data := .dict #[] }] at e
    rcases cells_mem (PySem.mem_of_lookup e) with hm | ⟨hm, _⟩
    · rcases cloFrom_mem hm with hm | ⟨q1, rfl⟩
      · cases hm
      · obtain ⟨c, hc⟩ := hfree _ q1 rfl
        rw [hc]
        obtain ⟨v, o, ho, _⟩ := I1.cell _ _ hc
        exact Heap.lt_size ho
    · exact absurd rfl (hcl _ hm)
  generalize hce : compEnvC scope (cellsFrom (s3.heap.objs.size + 1) scope.names (cloFrom X.env.cells scope.names [])) s3.heap.objs.size X.env = ce at I4 ⊢
  have cL : ce.locals = s3.heap.objs.size := by subst hce; rfl
  have cC : ce.cells = cellsFrom (s3.heap.objs.size + 1) scope.names (cloFrom X.env.cells scope.names []) := by subst hce; rfl
  have cS : ce.scope = relS scope X.env.scope := by subst hce; rfl
  generalize hs4 : ({ s3 with heap := pushCells (s3.heap.push { cls := .type "dict", data := .dict #[] }) scope.names } : Shared) = s4 at I4 ⊢
  have k4 : ∀ b o, s3.heap.get? b = some o → s4.heap.get? b = some o := fun b o e => by rw [← hs4]; exact pushCells_keeps _ _ _ _ (Heap.get?_push_of_some _ e)
  have g4 : s4.gens = s1.gens := by rw [← hs4, ← hs3]; exact ez2
  have hC4 : s4.heap.get? s3.heap.objs.size = some { cls := .type "dict", data := .dict #[] } := by
    rw [← hs4]
    exact pushCells_keeps _ _ _ _ (Heap.get?_push_size _ rfl)
  obtain ⟨z, hze⟩ : ∃ z, z = i2 + 3 := ⟨_, rfl⟩
  obtain ⟨TI, hTIe⟩ : ∃ TI, TI = i2 + 1 := ⟨_, rfl⟩
  obtain ⟨TO, hTOe⟩ : ∃ TO, TO = i2 + 2 := ⟨_, rfl⟩
  rw [← hze, ← hTIe, ← hTOe] at hz
  rw [← hTIe] at hTI
  rw [← hTOe] at hTO
  rw [← hze]
  have DZ : ZG z TI TO i2 := ⟨Nat.ne_of_lt (by omega), Nat.ne_of_lt (by omega), Nat.ne_of_lt (by omega), Nat.ne_of_lt (by omega), Nat.ne_of_gt (by omega), Nat.ne_of_gt (by omega)⟩
  obtain ⟨W, hW⟩ : ∃ W, W = [D, s3.heap.objs.size, z, TI, TO, i2] := ⟨_, rfl⟩
  have mW : ∀ b, b ∈ W ↔ b = D ∨ b = s3.heap.objs.size ∨ b = z ∨ b = TI ∨ b = TO ∨ b = i2 := fun b => by rw [hW]; simp
  have zb : X.base.objs.size ≤ sc.heap.objs.size := Nat.le_trans I1.ok.bsz I1.sz
  have wy : ∀ b ∈ W, s1.heap.objs.size ≤ b := fun b hb => by
    rcases (mW b).mp hb with rfl | rfl | rfl | rfl | rfl | rfl <;> omega
  have haW : a ∉ W := fun hb => Nat.not_lt.mpr (wy a hb) ha2
  have hcs : cStatics ∉ W := fun hb => by
    obtain ⟨_, hn, _⟩ := hl
    exact Nat.not_lt.mpr (wy _ hb) hn.lt
  have kz4 : ∀ b o, sz.heap.get? b = some o → s4.heap.get? b = some o := fun b o e => k4 b o (k3 b o e)
  have wd4 : ∀ b ∈ W, ∃ o, s4.heap.get? b = some o ∧ ∀ v, o.data ≠ .cell v := fun b hb => by
    rcases (mW b).mp hb with rfl | rfl | rfl | rfl | rfl | rfl
    · exact ⟨_, k4 _ _ hD3, fun v z => by cases z⟩
    · exact ⟨_, hC4, fun v z => by cases z⟩
    · exact ⟨_, kz4 _ _ hz, fun v z => by cases z⟩
    · exact ⟨_, kz4 _ _ hTI, fun v z => by cases z⟩
    · exact ⟨_, kz4 _ _ hTO, fun v z => by cases z⟩
    · exact ⟨_, kz4 _ _ hi2, fun v z => by cases z⟩
  have s0 : ∀ s', Slw W [] (g ≤ ·) s4 s' → Slp X.prog X.w X.A.in1 X.stack H1 sc W [] a g 3 (fun ys x => x = f ys.length) (fun _ => False) (fun _ _ _ => False) 3 s' := fun s' zz => by
    have kk : ∀ b o, s1.heap.get? b = some o → s'.heap.get? b = some o := fun b o e => zz.keep b o (fun hb => Nat.not_lt.mpr (wy b hb) (Heap.lt_size e)) (by simp) (kz4 b o (kz1 b o e))
    have ww : Ww X.base H1 X.stack W [] sc s1 (s'.setGen g .running) := by
      refine ⟨fun b hb => .inr (wy b hb), fun b hb => Heap.get?_none_of_le (Nat.le_trans zb (Nat.le_trans zc1 (wy b hb))), fun b hb => I1.hok.fresh (Nat.le_trans zc1 (wy b hb)), fun b hb hm => ?_, fun b hb => ?_, fun b hb => by simp at hb⟩
      · rcases List.mem_cons.mp (I1.stkSub b hm) with z | z
        · exact Nat.not_lt.mpr (Nat.le_trans zc1 (wy b hb)) (by rw [z]; exact I1.lt)
        · exact I1.nofs (Nat.le_trans zc1 (wy b hb)) z
      · obtain ⟨o, e, _⟩ := wd4 b hb
        exact zz.wide b hb o e
    refine ⟨zz.os.trans (by rw [← hs4, ← hs3]; exact ez1.trans hos), hl.keeps kk, hg.keeps kk, .fresh c, zz.slot g _ (Nat.le_refl _) (by rw [g4]; exact hgs), rfl, ?_⟩
    refine wake X.A.in1.in1 W [] (s'.setGen g .running) hr.in1.in1 (by exact hgd) I1.ok.frames ww (fun b o e => kk b o e) ?_ (allBare_setGen zz.bare rfl) ?_
    · show s'.os = _
      exact zz.os.trans (by rw [← hs4, ← hs3]; exact ez1.trans hos)
    have q : (s'.setGen g .running).gens.size = s'.gens.size := setGen_size _ _ _
    rw [q]
    refine Nat.lt_of_lt_of_le ?_ zz.gsz
    rw [g4]
    exact hgl
  have hlB : ce.scope.names.lookup y = some .local := by rw [cS]; exact hyl
  have hlB2 : ce.scope.names.lookup y2 = some .local := by rw [cS]; exact hyl2
  have cD : D ≠ s3.heap.objs.size := by rw [z3]; exact Nat.ne_of_lt (Nat.lt_succ_self _)
  have wC : ∀ b, b = z ∨ b = TI ∨ b = TO ∨ b = i2 → b < D := fun b hb => by
    rcases hb with rfl | rfl | rfl | rfl <;> omega
  have mz : z ∈ W := (mW z).mpr (by simp)
  have mTI : TI ∈ W := (mW TI).mpr (by simp)
  have mTO : TO ∈ W := (mW TO).mpr (by simp)
  have mi2 : i2 ∈ W := (mW i2).mpr (by simp)
  have fpW : ∀ b, b < D → sc.heap.objs.size ≤ b → b ∈ fp := fun b hb hb2 => (mfp b).mpr ⟨hb2, by omega⟩
  have slot3 : ∀ b, b = z ∨ b = TI ∨ b = TO ∨ b = i2 → b ≠ D ∧ b ≠ s3.heap.objs.size := fun b hb => by
    have q := wC b hb
    exact ⟨Nat.ne_of_lt q, Nat.ne_of_lt (by omega)⟩
  have hi4 : IsRangeIter s4.heap i2 ((0 : Nat) : Int) (2 - ((0 : Nat) : Int)) 1 := by
    rw [show ((0 : Nat) : Int) = 0 from rfl, Int.sub_zero]
    exact kz4 _ _ hi2
  have bnd : ∀ b, b = z ∨ b = TI ∨ b = TO ∨ b = i2 ∨ b = D → sc.heap.objs.size ≤ b ∧ b < s3.heap.objs.size := fun b hb => by
    rcases hb with rfl | rfl | rfl | rfl | rfl <;> constructor <;> omega
  have loop : codeAny (model X.prog X.w) X.A (.compLoop (.ListComp (.Name y p1) [⟨.Tuple [.Name y p2, .Name y2 p3] tk pt, .Call (.Name "zip" pz) [e1, .Call (.Name "range" pr) [.Constant (.int 2) jn pn] [] cp] [] cp2, [], 0⟩] scope pos) 0 (.ref z) (.ref D) ce) (compPost (model X.prog X.w) X.A X.xe none (EP X pins σ Q) (.ref D) s3.heap.objs.size) s4 := by
    refine compLoop_any (fun n s' => ∃ (m : Nat) (acc : Array Value) (cnt : Nat), Inv (X.blk s3 H1 scope ce fp) [] (wipe σ (own.map (·.2))) H1 s' ∧ (∀ s'', Slw W [] (g ≤ ·) s' s'' → Slp X.prog X.w X.A.in1 X.stack H1 sc W [] a g 3 (fun ys x => x = f ys.length) (fun _ => False) (fun _ _ _ => False) n s'') ∧
      s'.heap.get? D = some (lstObj acc cnt) ∧ Vals ((List.range m).map f) acc.toList ∧ IsZip s'.heap z TI TO .none ∧ IsPair s'.heap TI (.ref a) (.ref i2) ∧ (∃ a1 a2, IsPair s'.heap TO a1 a2) ∧ IsRangeIter s'.heap i2 (m : Int) (2 - (m : Int)) 1 ∧ n + m = 3 ∧ 1 ≤ n) ?_ 3 ⟨0, #[], 0, I4, s0, k4 _ _ hD3, .nil, kz4 _ _ hz, kz4 _ _ hTI, ⟨_, _, kz4 _ _ hTO⟩, hi4, rfl, by decide⟩
    rintro n s5 ⟨m, acc, cnt, I5, S5, hD5, r5, hz5, hTI5, ⟨a1, a2, hTO5⟩, hi5, hnm, hn1⟩
    obtain ⟨n, rfl⟩ : ∃ n', n = n' + 1 := ⟨n - 1, by omega⟩
    have step : ∀ {s5 s6 : Shared}, Inv (X.blk s3 H1 scope ce fp) [] (wipe σ (own.map (·.2))) H1 s5 → Stp X.prog X.w X.stack H1 sc.heap.objs.size W a g s5 s6 → Inv (X.blk s3 H1 scope ce fp) [] (wipe σ (own.map (·.2))) H1 s6 := fun {s5 s6} I5 q => by
      refine item_inv (W := W) (n0 := sc.heap.objs.size) I5 q.os q.bare q.un q.hok q.kw fun b hb hw => ?_
      have hbD : b ≠ s3.heap.objs.size := fun z => hw ((mW b).mpr (.inr (.inl z)))
      refine ⟨?_, ?_, fun y' c' e z => ?_, fun p hp => absurd (show p ∈ ([] : List (Addr × Obj)) ++ [] from hp) (by simp)⟩
      · rcases Nat.lt_or_ge b s3.heap.objs.size with q | q
        · exact .inl ((mfp b).mpr ⟨hb, q⟩)
        · exact .inr q
      · show b ≠ ce.locals
        rw [cL]; exact hbD
      · have e : ce.cells.lookup y' = some c' := e
        rw [cC] at e
        have := ccell y' c' e
        rw [z] at this
        exact Nat.not_lt.mpr hb this
    have dok : ∀ {s' : Shared} {σ' : L2.St} (b : Addr), b = z ∨ b = TI ∨ b = TO ∨ b = i2 ∨ b = D → Inv (X.blk s3 H1 scope ce fp) [] σ' H1 s' → FpOk (X.blk s3 H1 scope ce fp) [] H1 b := fun {s' σ'} b hb J => by
      have hbl : sc.heap.objs.size ≤ b ∧ b < s3.heap.objs.size := bnd b hb
      have bfp : b ∈ fp := (mfp b).mpr hbl
      exact ⟨I1.hok.fresh hbl.1, (J.ok.exf b bfp).1, J.ok.exfs b bfp, .inl bfp, (J.ok.exf b bfp).2, fun p hp => absurd (show p ∈ ([] : List (Addr × Obj)) ++ [] from hp) (by simp)⟩
    have mvW : ∀ {s' : Shared} {h' : Heap} {t' : Nat}, AllBare s'.gens → s'.heap.objs.size ≤ h'.objs.size → (∀ b o, b ∉ W → s'.heap.get? b = some o → h'.get? b = some o) → (∀ b ∈ W, ∃ o, h'.get? b = some o ∧ ∀ v, o.data ≠ .cell v) → Slw W [] (g ≤ ·) s' { s' with heap := h', toks := t' } := fun {s' h' t'} hba hsz k wd =>
      ⟨rfl, hba, fun b o hb _ e => k b o hb e, fun b hb o _ => wd b hb, fun b hb => absurd hb (by simp), fun _ _ _ e => e, Nat.le_refl _, hsz⟩
    obtain ⟨oC5, hC5, dC5⟩ : ∃ o, s5.heap.get? s3.heap.objs.size = some o ∧ ∀ v, o.data ≠ .cell v := by
      obtain ⟨mm, hn, _⟩ := I5.loc
      obtain ⟨oc, es, ep, hoc, hdc, _⟩ := hn
      have hoc : s5.heap.get? ce.locals = some oc := hoc
      rw [cL] at hoc
      exact ⟨oc, hoc, fun v z => by rw [hdc] at z; cases z⟩
    -- the generator's item
    have hgen : ∀ g0, IsZip g0 z TI TO .ellipsis → Heap.SameBut z s5.heap g0 → wpAny (model X.prog X.w) X.A.in1 (Builtin.SmallTypes.nextOf (.ref a)) (fun x s6 => Inv (X.blk s3 H1 scope ce fp) [] (wipe σ (own.map (·.2))) H1 s6 ∧ RelV (f m) x ∧ s6.heap.get? D = some (lstObj acc cnt) ∧ IsZip s6.heap z TI TO .ellipsis ∧ IsPair s6.heap TI (.ref a) (.ref i2) ∧ IsPair s6.heap TO a1 a2 ∧ IsRangeIter s6.heap i2 (m : Int) (2 - (m : Int)) 1 ∧ AllBare s6.gens ∧
        (m + 1 < 3 → ∀ s', Slw W [] (g ≤ ·) s6 s' → Slp X.prog X.w X.A.in1 X.stack H1 sc W [] a g 3 (fun ys x => x = f ys.length) (fun _ => False) (fun _ _ _ => False) n s')) (fun _ _ => False) { s5 with heap := g0 } := fun g0 hz0 sb0 => by
      have i0 : Inv (X.blk s3 H1 scope ce fp) [] (wipe σ (own.map (·.2))) H1 { s5 with heap := g0 } := by
        obtain ⟨d0, d1, d2, d3, d4, d5⟩ := dok z (.inl rfl) I5
        exact Inv.turned (s := s5) (h' := g0) (t' := s5.toks) (it := z) I5 (fun b o hb e => (sb0.2 b hb).trans e) d0 d1 d3 d4 d5
      have sl : Slw W [] (g ≤ ·) s5 { s5 with heap := g0 } := mvW (t' := s5.toks) I5.bare (by rw [sb0.1]; exact Nat.le_refl _) (fun b o hb e => (sb0.2 b (fun q => hb (q ▸ mz))).trans e) fun b hb => by
        rcases (mW b).mp hb with rfl | rfl | rfl | rfl | rfl | rfl
        · exact ⟨_, (sb0.2 _ (slot3 z (.inl rfl)).1.symm).trans hD5, fun v z => by cases z⟩
        · exact ⟨_, (sb0.2 _ (slot3 z (.inl rfl)).2.symm).trans hC5, dC5⟩
        · exact ⟨_, hz0, fun v z => by cases z⟩
        · exact ⟨_, (sb0.2 _ DZ.TIz).trans hTI5, fun v z => by cases z⟩
        · exact ⟨_, (sb0.2 _ DZ.TOz).trans hTO5, fun v z => by cases z⟩
        · exact ⟨_, (sb0.2 _ DZ.i2z).trans hi5, fun v z => by cases z⟩
      refine nextOf_gw hr.in1.depth ⟨haW, by simp⟩ ⟨hcs, by simp⟩ (S5 _ sl) fun ys x v s6 rv hit hy6 q6 kap => ?_
      have hym : ys.length = m := by omega
      rw [hit, hym] at rv
      rw [hym] at kap
      exact ⟨step i0 q6, rv, q6.kw D ((mW D).mpr (.inl rfl)) _ ((sb0.2 _ (slot3 z (.inl rfl)).1.symm).trans hD5), q6.kw z mz _ hz0, q6.kw TI mTI _ ((sb0.2 _ DZ.TIz).trans hTI5), q6.kw TO mTO _ ((sb0.2 _ DZ.TOz).trans hTO5), q6.kw i2 mi2 _ ((sb0.2 _ DZ.i2z).trans hi5), q6.bare, kap⟩
    have gst : ∀ {x : Value} {s6 : Shared}, (Inv (X.blk s3 H1 scope ce fp) [] (wipe σ (own.map (·.2))) H1 s6 ∧ RelV (f m) x ∧ s6.heap.get? D = some (lstObj acc cnt) ∧ IsZip s6.heap z TI TO .ellipsis ∧ IsPair s6.heap TI (.ref a) (.ref i2) ∧ IsPair s6.heap TO a1 a2 ∧ IsRangeIter s6.heap i2 (m : Int) (2 - (m : Int)) 1 ∧ AllBare s6.gens ∧
        (m + 1 < 3 → ∀ s', Slw W [] (g ≤ ·) s6 s' → Slp X.prog X.w X.A.in1 X.stack H1 sc W [] a g 3 (fun ys x => x = f ys.length) (fun _ => False) (fun _ _ _ => False) n s')) → IsZip s6.heap z TI TO .ellipsis ∧ IsPair s6.heap TO a1 a2 ∧ IsRangeIter s6.heap i2 (m : Int) (2 - (m : Int)) 1 := fun q => ⟨q.2.2.2.1, q.2.2.2.2.2.1, q.2.2.2.2.2.2.1⟩
    by_cases hm2 : m < 2
    · refine pyNext_zipG_item DZ hz5 hTI5 hgen (by omega) (fun x s6 q => gst q) fun x s6 h7 tk7 q hz7 hTO7 hi7 hT7 hs7 hk7 => ?_
      obtain ⟨I6, rv, hD6, hz6, hTI6, hTO6, hi6, hb6, kap⟩ := q
      have hzlt : z < s6.heap.objs.size := Heap.lt_size hz6
      refine wpAny_letOwnedTupleGo_zip (s := { s6 with heap := h7, toks := tk7 }) hz7 fun h8 hz8 sb8 => ?_
      have hT8 : h8.get? s6.heap.objs.size = some { cls := .type "tuple", data := .seq #[x, .int (m : Int) s6.toks] } := (sb8.2 _ (Nat.ne_of_gt hzlt)).trans hT7
      have k8 : ∀ b o, b ≠ z → b ≠ TO → b ≠ i2 → s6.heap.get? b = some o → h8.get? b = some o := fun b o n1 n2 n3 e => (sb8.2 b n1).trans (hk7 b o n1 n2 n3 e)
      have I8 : Inv (X.blk s3 H1 scope ce fp) [] (wipe σ (own.map (·.2))) H1 { s6 with heap := h8, toks := tk7 } := I6.turnedL (ch := [z, TO, i2]) (t' := tk7) (fun b o hb e => k8 b o (fun q => hb (by simp [q])) (fun q => hb (by simp [q])) (fun q => hb (by simp [q])) e) fun b hb => by
        have hb : b = z ∨ b = TO ∨ b = i2 := by simpa using hb
        rcases hb with q | q | q
        · exact dok b (.inl q) I6
        · exact dok b (.inr (.inr (.inl q))) I6
        · exact dok b (.inr (.inr (.inr (.inl q)))) I6
      refine assign_Tuple_tuple (s := { s6 with heap := h8, toks := tk7 }) (by exact I1.ok.hd hc) ⟨_, hT8, rfl, _, rfl⟩ rfl rfl fun h9 hx9 => ?_
      have k9 : ∀ b o, h8.get? b = some o → h9.get? b = some o := fun b o e => hx9 b o (Nat.ne_of_lt (Heap.lt_size e)) e
      have I9 : Inv (X.blk s3 H1 scope ce fp) [] (wipe σ (own.map (·.2))) H1 { s6 with heap := h9, toks := tk7 } := I8.kept (t' := tk7) k9
      show wpAny _ _ (assignInOrder [assign (.Name y p2) ce, assign (.Name y2 p3) ce] [x, .int (m : Int) s6.toks]) _ _ _
      refine assignInOrder_cons (wpAny_assign_Name (store_loc I9 hN hy hlB rv fun h10 tk10 m10 I10 hn10 hm10 sb10 => ?_))
      refine assignInOrder_cons (wpAny_assign_Name (store_loc (v := .int (m : Int)) I10 hN hy2 hlB2 ⟨_, rfl⟩ fun h11 tk11 m11 I11 hn11 hm11 sb11 => ?_))
      refine assignInOrder_nil ?_
      refine wpAny_tests_nil ?_
      simp only [if_true]
      have hiσ : i < (wipe σ (own.map (·.2))).length := by
        have q : (wipe σ (own.map (·.2))).length = X.N.length := I6.len
        rw [q]
        exact (List.getElem?_eq_some_iff.mp hy).1
      obtain ⟨mm, hnm, hlm⟩ := id I11.loc
      obtain ⟨u, ru, lk⟩ := hlm i y (f m) hy (by rw [List.getElem?_set_ne (Ne.symm hij), List.getElem?_set_self hiσ]) (.inl hlB)
      have hmu : mm y = some u := by
        rcases lk with ⟨_, e⟩ | ⟨q, _⟩
        · exact e
        · have q' : ce.scope.names.lookup y = some .cell ∨ ce.scope.names.lookup y = some .free := q
          rw [hlB] at q'
          rcases q' with q | q <;> cases q
      refine wpAny_Name (wpAny_loadName_local (by exact I11.ok.kind) hlB hnm hmu ?_) hyd
      have nC : ∀ b, b ≠ s3.heap.objs.size → b ≠ ce.locals := fun b hb => by rw [cL]; exact hb
      have kB : ∀ b o, b ≠ s3.heap.objs.size → h8.get? b = some o → h11.get? b = some o := fun b o n0 e => (sb11.2 b (nC b n0)).trans ((sb10.2 b (nC b n0)).trans (k9 b o e))
      have hD11 : h11.get? D = some (lstObj acc cnt) := kB D _ cD (k8 D _ (slot3 z (.inl rfl)).1.symm (slot3 TO (.inr (.inr (.inl rfl)))).1.symm (slot3 i2 (.inr (.inr (.inr rfl)))).1.symm hD6)
      have hl5 := r5.length
      have hl5' : acc.size = m := by
        rw [List.length_map, List.length_range] at hl5
        rw [← Array.length_toList, ← hl5]
      refine append_at (hsz := by rw [hl5']; show m ≤ sizeLine; exact Nat.le_of_lt (Nat.lt_trans hm2 (by decide))) hD11 fun h12 sb12 hD12 => ?_
      have I12 : Inv (X.blk s3 H1 scope ce fp) [] (((wipe σ (own.map (·.2))).set i (some (f m))).set j (some (.int (m : Int)))) H1 { s6 with heap := h12, toks := tk11 } := by
        obtain ⟨d0, d1, d2, d3, d4, d5⟩ := dok D (.inr (.inr (.inr (.inr rfl)))) I6
        exact Inv.turned (s := { s6 with heap := h11, toks := tk11 }) (h' := h12) (t' := tk11) (it := D) I11 (fun b o hb e => (sb12.2 b hb).trans e) d0 d1 d3 d4 d5
      have I13 : Inv (X.blk s3 H1 scope ce fp) [] (wipe σ (own.map (·.2))) H1 { s6 with heap := h12, toks := tk11 } := I12.weak (by rw [List.length_set, List.length_set]) fun j' v' e => by
        have n1 : j' ≠ i := fun z => (wipe_some e).2 (z ▸ hyo)
        have n2 : j' ≠ j := fun z => (wipe_some e).2 (z ▸ hyo2)
        rw [List.getElem?_set_ne (Ne.symm n2), List.getElem?_set_ne (Ne.symm n1)]
        exact e
      have kU : ∀ b o, b ≠ D → b ≠ s3.heap.objs.size → h8.get? b = some o → h12.get? b = some o := fun b o n1 n0 e => (sb12.2 b n1).trans (kB b o n0 e)
      have hz12 : IsZip h12 z TI TO .none := kU z _ (slot3 z (.inl rfl)).1 (slot3 z (.inl rfl)).2 hz8
      have hTI12 : IsPair h12 TI (.ref a) (.ref i2) := kU TI _ (slot3 TI (.inr (.inl rfl))).1 (slot3 TI (.inr (.inl rfl))).2 (k8 TI _ DZ.TIz DZ.TITO DZ.TIi2 hTI6)
      have hTO12 : IsPair h12 TO x (.int (m : Int) s6.toks) := kU TO _ (slot3 TO (.inr (.inr (.inl rfl)))).1 (slot3 TO (.inr (.inr (.inl rfl)))).2 ((sb8.2 TO DZ.TOz).trans hTO7)
      have hi12 : IsRangeIter h12 i2 (((m + 1 : Nat)) : Int) (2 - ((m + 1 : Nat) : Int)) 1 := by
        rw [show ((m + 1 : Nat) : Int) = (m : Int) + 1 from by push_cast; rfl, show (2 : Int) - ((m : Int) + 1) = 2 - (m : Int) - 1 by omega]
        exact kU i2 _ (slot3 i2 (.inr (.inr (.inr rfl)))).1 (slot3 i2 (.inr (.inr (.inr rfl)))).2 ((sb8.2 i2 DZ.i2z).trans hi7)
      have hT12 : s6.heap.objs.size < h9.objs.size := Heap.lt_size (k9 _ _ hT8)
      have zs12 : s6.heap.objs.size ≤ h12.objs.size := by
        rw [sb12.1, sb11.1, sb10.1]
        exact Nat.le_of_lt hT12
      have sl : Slw W [] (g ≤ ·) s6 { s6 with heap := h12, toks := tk11 } := mvW hb6 zs12 (fun b o hb e => kU b o (fun q => hb ((mW b).mpr (.inl q))) (fun q => hb ((mW b).mpr (.inr (.inl q)))) (k8 b o (fun q => hb (q ▸ mz)) (fun q => hb (q ▸ mTO)) (fun q => hb (q ▸ mi2)) e)) fun b hb => by
        rcases (mW b).mp hb with rfl | rfl | rfl | rfl | rfl | rfl
        · exact ⟨_, hD12, fun v z => by cases z⟩
        · obtain ⟨m2, hn, _⟩ := I12.loc
          obtain ⟨oc, es, ep, hoc, hdc, _⟩ := hn
          have hoc : h12.get? ce.locals = some oc := hoc
          rw [cL] at hoc
          exact ⟨oc, hoc, fun v z => by rw [hdc] at z; cases z⟩
        · exact ⟨_, hz12, fun v z => by cases z⟩
        · exact ⟨_, hTI12, fun v z => by cases z⟩
        · exact ⟨_, hTO12, fun v z => by cases z⟩
        · exact ⟨_, hi12, fun v z => by cases z⟩
      refine ⟨n, Nat.lt_succ_self _, m + 1, _, _, I13, fun s'' zz => kap (by omega) s'' (sl.trans zz), hD12, ?_, hz12, hTI12, ⟨_, _, hTO12⟩, hi12, by omega, by omega⟩
      rw [List.range_succ, List.map_append]
      have e : ∀ (x : Value), (acc.push x).toList = acc.toList ++ [x] := fun x => by simp
      rw [e]
      exact r5.append (.cons ru .nil)
    · obtain rfl : m = 2 := by omega
      refine pyNext_zipG_end (by exact I1.ok.hd hc) DZ hz5 hTI5 hgen (by decide) (fun x s6 q => gst q) fun x s6 h7 q hk7 => ?_
      obtain ⟨I6, rv, hD6, hz6, hTI6, hTO6, hi6, hb6, kap⟩ := q
      have I7 : Inv (X.blk s3 H1 scope ce fp) [] (wipe σ (own.map (·.2))) H1 { s6 with heap := h7 } := I6.turnedL (ch := [z, TO, i2]) (t' := s6.toks) (fun b o hb e => hk7 b o (fun q => hb (by simp [q])) (fun q => hb (by simp [q])) (fun q => hb (by simp [q])) e) fun b hb => by
        have hb : b = z ∨ b = TO ∨ b = i2 := by simpa using hb
        rcases hb with q | q | q
        · exact dok b (.inl q) I6
        · exact dok b (.inr (.inr (.inl q))) I6
        · exact dok b (.inr (.inr (.inr (.inl q)))) I6
      have hD7 : h7.get? D = some (lstObj acc cnt) := hk7 D _ (slot3 z (.inl rfl)).1.symm (slot3 TO (.inr (.inr (.inl rfl)))).1.symm (slot3 i2 (.inr (.inr (.inr rfl)))).1.symm hD6
      generalize hs8 : ({ s6 with heap := h7 } : Shared) = s8 at I7 ⊢
      have hD8 : s8.heap.get? D = some (lstObj acc cnt) := by rw [← hs8]; exact hD7
      have hDn : H1 D = none := I1.hok.fresh zc
      have r5' : Vals [f 0, f 1] acc.toList := r5
      have un8 : Un (frs X.stack) fp H1 H1 sz.heap s8.heap := (Un.kept k3).trans I7.base
      have I9 : Inv X pins σ (upd H1 D (.lst [f 0, f 1])) s8 := Iz.drained (Nat.le_of_eq hD) (by show 2 ≤ sizeLine; decide) hD8 r5' (fun b hb => ⟨(f3 b hb).1.2.2.2.1, (f3 b hb).1.2.1, (f3 b hb).1.2.2.2.2.1, (f3 b hb).1.2.2.2.2.2⟩) (I7.os.trans (by rw [← hs3])) I7.bare un8 I7.hok hDn
      obtain ⟨mL, hnL, _⟩ := I7.loc
      have hnL : s8.heap.Ns ce.locals mL := hnL
      rw [cL] at hnL
      have nC : (upd H1 D (.lst [f 0, f 1])) s3.heap.objs.size = none := by
        rw [upd_ne (by rw [z3]; exact Nat.ne_of_gt (Nat.lt_succ_self _))]
        exact I1.hok.fresh (Nat.le_trans zc (by rw [z3]; exact Nat.le_succ _))
      refine ⟨mL, hnL, fun h'' sb => ?_⟩
      obtain ⟨f0, f1, f2, f3', f4, f5⟩ := I3.fpOk (Nat.le_refl _) nC
      exact ⟨.ref D, _, I9.turned (t' := s8.toks) (fun b o hb e => (sb.2 b hb).trans e) f0 f1 f3' f4 f5, rfl, hP D hDn⟩
  exact codeAny_compStart_list loop (wpAny_pyIter_zip (kz4 _ _ hz) loop)
end
end GW

/-! [x for x, k in zip(g, range(c))]; a generator method without arguments. -/
namespace GW
open PySem PySem.Spec PyProof.Rows L2 GenW
section
variable {X : Cx}
/-- [y for y, k in zip(g, range(c))] -/
def tLcR (c : Nat) (tg : TGn) : TE := fun σ H Q => ∃ (f : Nat → V), tg σ H (fun ys x => x = f ys.length) (c + 1) (fun _ => False) fun H1 =>
  ∀ D, H1 D = none → Q (.ref D) (upd H1 D (.lst ((List.range c).map f)))
theorem pe_lcR {c : Nat} {cn : Int} (hcn : cn = (c : Int)) (hc9 : c ≤ 1000) {y y2 : Str} {p1 p2 p3 pt pz pr pn pos cp cp2 : Pos} {tk : Nat} {jn : Nat} {e1 : Expr} {scope : Scope} {own : List (Str × Nat)} {k i j : Nat} {tg : TGn} (hc : X.calm = true) (hN : X.N.Nodup) (hi : PGw X k e1 tg fun _ _ _ => False) (hr : Room (k + 2) X.A) (hgd : X.A.guards = some []) (ok : BlkOk X.N X.env.scope scope own)
    (hgz : Gl X "zip") (hmz : X.mg "zip" = none) (hgr : Gl X "range") (hmr : X.mg "range" = none)
    (hy : X.N[i]? = some y) (hyo : i ∈ own.map (·.2)) (hyl : (relS scope X.env.scope).names.lookup y = some .local) (hy2 : X.N[j]? = some y2) (hyo2 : j ∈ own.map (·.2)) (hyl2 : (relS scope X.env.scope).names.lookup y2 = some .local) (hij : i ≠ j)
    (hcl : ∀ z ∈ scope.names, z.2 ≠ .cell) (hyd : (y == ("__debug__" : Str)) = false := by decide)
    (hs : ∀ x, foldedSetIterable (.Call (.Name "zip" pz) [e1, .Call (.Name "range" pr) [.Constant (.int cn) jn pn] [] cp] [] cp2) X.env x = pure x := by intro _; rfl)
    (hst : starEach [e1, .Call (.Name "range" pr) [.Constant (.int cn) jn pn] [] cp] X.env = (false, eval e1 X.env) :: starEach [.Call (.Name "range" pr) [.Constant (.int cn) jn pn] [] cp] X.env := by rfl) (hpl : (backTo cp2 (starEach [.Call (.Name "range" pr) [.Constant (.int cn) jn pn] [] cp] X.env)).any (·.1) = false := by rfl) :
    PE X (.ListComp (.Name y p1) [⟨.Tuple [.Name y p2, .Name y2 p3] tk pt, .Call (.Name "zip" pz) [e1, .Call (.Name "range" pr) [.Constant (.int cn) jn pn] [] cp] [] cp2, [], 0⟩] scope pos) (tLcR c tg) := by
  refine ⟨fun pins s σ H Q I h => ?_⟩
  subst hcn
  rw [eval_ListComp]
  obtain ⟨f, h⟩ := h
  have hfree : ∀ y ∈ scope.names, y.2 = .free → ∃ c, X.env.cells.lookup y.1 = some c := fun y hy e => by
    rcases ok.free y hy e with k | k
    · exact I.ok.has _ (.inl k)
    · exact I.ok.has _ (.inr k)
  refine wpAny_comprehension_free (use := none) rfl hs (closure_ok hfree) ok.kind (fun y hy e => by rw [ok.uniq y hy, e]) ?_
  refine Call_ (ld_blt I hgz hmz PyProof.Rows.boot_zip (PyProof.Rows.callWith_type1 ?_ hst hpl))
  rw [hst]
  show wpAny _ _ (spliced ((false, eval e1 X.env) :: backTo cp2 (starEach [.Call (.Name "range" pr) [.Constant (.int (c : Int)) jn pn] [] cp] X.env))) _ _ s
  refine Calls.spliced_cons (thn (hi.run pins s σ H _ _ _ _ 0 (Nat.zero_le _) I h) fun xv s1 hx => ?_)
  obtain ⟨H1, sc, I1, nT, hG, hP, _⟩ := hx
  obtain ⟨a, g, cg, rfl, ha1, ha2, hg, hgs, _, _, hos, hb, hl, hkp, wake⟩ := hG
  have hgl : g < s1.gens.size := (Array.getElem?_eq_some_iff.mp hgs).1
  have I2 : Inv X pins σ H1 s1 := I1.call' (ch := []) hos (Un.kept hkp) (I1.hok.kept hkp) hb fun b z => by simp at z
  show wpAny _ _ (spliced [(false, eval (.Call (.Name "range" pr) [.Constant (.int (c : Int)) jn pn] [] cp) X.env)]) _ _ s1
  refine Calls.spliced_cons (Call_ (ld_blt I2 hgr hmr PyProof.Rows.boot_range (PyProof.Rows.callWith_type1 ?_ rfl rfl)))
  show wpAny _ _ (spliced [(false, eval (.Constant (.int (c : Int)) jn pn) X.env)]) _ _ s1
  refine Calls.spliced_cons (wpAny_Constant_int (Calls.spliced_nil (call_range_1 (Calls.spliced_nil ?_))))
  generalize hs2 : ({ s1 with heap := s1.heap.push { cls := .type "range", data := .fields #[.int 0 (s1.toks + 1), .int (c : Int) s1.toks, .int 1 (s1.toks + 1 + 1)] }, toks := s1.toks + 1 + 1 + 1 } : Shared) = s2
  have h2 : s2.heap = s1.heap.push { cls := .type "range", data := .fields #[.int 0 (s1.toks + 1), .int (c : Int) s1.toks, .int 1 (s1.toks + 1 + 1)] } := by rw [← hs2]
  have k2 : ∀ b o, s1.heap.get? b = some o → s2.heap.get? b = some o := fun b o e => by rw [h2]; exact Heap.get?_push_of_some _ e
  have z2 : s2.heap.objs.size = s1.heap.objs.size + 1 := by rw [h2, Heap.size_push]
  have r2 : IsRange s2.heap s1.heap.objs.size 0 (c : Int) 1 (s1.toks + 1) s1.toks (s1.toks + 1 + 1) := by rw [h2]; exact Heap.get?_push_size _ rfl
  refine call_zipG (g := g) (small_one (by decide) (by decide) (by omega) (by omega)) (by rw [rangeSize_one]; split <;> omega) (hg.keeps k2) r2 fun hz0 hz hTI hTO hi2 hszz kz => ?_
  refine wpAny_pyIter_zip hz ?_
  generalize hi2e : s2.heap.objs.size = i2 at hz hTI hTO hi2 hszz ⊢
  have n0 : s1.heap.objs.size < i2 := by rw [← hi2e, z2]; exact Nat.lt_succ_self _
  generalize hsz : ({ s2 with heap := hz0 } : Shared) = sz
  have hszh : sz.heap = hz0 := by rw [← hsz]
  rw [← hszh] at hz hTI hTO hi2 hszz kz
  have ez1 : sz.os = s1.os := by rw [← hsz, ← hs2]
  have ez2 : sz.gens = s1.gens := by rw [← hsz, ← hs2]
  have kz1 : ∀ b o, s1.heap.get? b = some o → sz.heap.get? b = some o := fun b o e => kz b o (k2 b o e)
  have Iz : Inv X pins σ H1 sz := I2.call' (ch := []) ez1 (Un.kept kz1) (I2.hok.kept kz1) (by rw [ez2]; exact hb) fun b z => by simp at z
  clear hsz hszh hs2 h2 z2 r2 k2 kz hi2e
  refine wpAny_newObj_type (newEnv_comp ?_) (by show 0 ≤ sizeLine; decide)
  generalize hD : sz.heap.objs.size = D
  rw [hD] at hszz
  generalize hs3 : ({ sz with heap := sz.heap.push { cls := .type "list", data := .seq ([] : List Value).toArray } } : Shared) = s3
  have h3 : s3.heap = sz.heap.push { cls := .type "list", data := .seq ([] : List Value).toArray } := by rw [← hs3]
  have k3 : ∀ b o, sz.heap.get? b = some o → s3.heap.get? b = some o := fun b o e => by rw [h3]; exact Heap.get?_push_of_some _ e
  have I3 : Inv X pins σ H1 s3 := Iz.call' (ch := []) (by rw [← hs3]) (Un.kept k3) (Iz.hok.kept k3) (by rw [← hs3, ez2]; exact hb) fun b z => by simp at z
  have z3 : s3.heap.objs.size = D + 1 := by rw [h3, Heap.size_push, hD]
  have zc1 : sc.heap.objs.size ≤ s1.heap.objs.size := Nat.le_trans ha1 (Nat.le_of_lt ha2)
  have zc : sc.heap.objs.size ≤ D := by omega
  have hD3 : s3.heap.get? D = some { cls := .type "list", data := .seq ([] : List Value).toArray } := by rw [h3, ← hD]; exact Heap.get?_push_size _ rfl
  obtain ⟨fp, hfp⟩ : ∃ fp, fp = (List.range s3.heap.objs.size).filter fun b => decide (sc.heap.objs.size ≤ b) := ⟨_, rfl⟩
  have mfp : ∀ b, b ∈ fp ↔ sc.heap.objs.size ≤ b ∧ b < s3.heap.objs.size := fun b => by
    rw [hfp, List.mem_filter, List.mem_range]
    exact ⟨fun q => ⟨of_decide_eq_true q.2, q.1⟩, fun q => ⟨q.2, decide_eq_true q.1⟩⟩
  have f3 : ∀ b ∈ fp, FpOk X pins H1 b ∧ b < s3.heap.objs.size := fun b hb => by
    obtain ⟨q1, q2⟩ := (mfp b).mp hb
    exact ⟨I1.fpOk q1 (I1.hok.fresh q1), q2⟩
  have I4 := block_start I3 ok hN f3
  show codeAny _ _ (.compStart (.ListComp (.Name y p1) [⟨.Tuple [.Name y p2, .Name y2 p3] tk pt, .Call (.Name "zip" pz) [e1, .Call (.Name "range" pr) [.Constant (.int (c : Int)) jn pn] [] cp] [] cp2, [], 0⟩] scope pos) 0 (.ref (i2 + 3)) (.ref D) (compEnvC scope (cellsFrom (s3.heap.objs.size + 1) scope.names (cloFrom X.env.cells scope.names [])) s3.heap.objs.size X.env)) (compPost (model X.prog X.w) X.A X.xe none (EP X pins σ Q) (.ref D) s3.heap.objs.size) { s3 with heap := pushCells (s3.heap.push { cls := .type "dict", data := .dict #[] }) scope.names }
  have ccell : ∀ y' c', (cellsFrom (s3.heap.objs.size + 1) scope.names (cloFrom X.env.cells scope.names [])).lookup y' = some c' → c' < sc.heap.objs.size := fun y' c' e => by
    rw [← Heap.size_push s3.heap { cls := .type "dict", data := .dict #[] }] at e
    rcases cells_mem (PySem.mem_of_lookup e) with hm | ⟨hm, _⟩
    · rcases cloFrom_mem hm with hm | ⟨q1, rfl⟩
      · cases hm
      · obtain ⟨c, hc⟩ := hfree _ q1 rfl
        rw [hc]
        obtain ⟨v, o, ho, _⟩ := I1.cell _ _ hc
        exact Heap.lt_size ho
    · exact absurd rfl (hcl _ hm)
  generalize hce : compEnvC scope (cellsFrom (s3.heap.objs.size + 1) scope.names (cloFrom X.env.cells scope.names [])) s3.heap.objs.size X.env = ce at I4 ⊢
  have cL : ce.locals = s3.heap.objs.size := by subst hce; rfl
  have cC : ce.cells = cellsFrom (s3.heap.objs.size + 1) scope.names (cloFrom X.env.cells scope.names []) := by subst hce; rfl
  have cS : ce.scope = relS scope X.env.scope := by subst hce; rfl
  generalize hs4 : ({ s3 with heap := pushCells (s3.heap.push { cls := .type "dict", data := .dict #[] }) scope.names } : Shared) = s4 at I4 ⊢
  have k4 : ∀ b o, s3.heap.get? b = some o → s4.heap.get? b = some o := fun b o e => by rw [← hs4]; exact pushCells_keeps _ _ _ _ (Heap.get?_push_of_some _ e)
  have g4 : s4.gens = s1.gens := by rw [← hs4, ← hs3]; exact ez2
  have hC4 : s4.heap.get? s3.heap.objs.size = some { cls := .type "dict", data := .dict #[] } := by
    rw [← hs4]
    exact pushCells_keeps _ _ _ _ (Heap.get?_push_size _ rfl)
  obtain ⟨z, hze⟩ : ∃ z, z = i2 + 3 := ⟨_, rfl⟩
  obtain ⟨TI, hTIe⟩ : ∃ TI, TI = i2 + 1 := ⟨_, rfl⟩
  obtain ⟨TO, hTOe⟩ : ∃ TO, TO = i2 + 2 := ⟨_, rfl⟩
  rw [← hze, ← hTIe, ← hTOe] at hz
  rw [← hTIe] at hTI
  rw [← hTOe] at hTO
  rw [← hze]
  have DZ : ZG z TI TO i2 := ⟨Nat.ne_of_lt (by omega), Nat.ne_of_lt (by omega), Nat.ne_of_lt (by omega), Nat.ne_of_lt (by omega), Nat.ne_of_gt (by omega), Nat.ne_of_gt (by omega)⟩
  obtain ⟨W, hW⟩ : ∃ W, W = [D, s3.heap.objs.size, z, TI, TO, i2] := ⟨_, rfl⟩
  have mW : ∀ b, b ∈ W ↔ b = D ∨ b = s3.heap.objs.size ∨ b = z ∨ b = TI ∨ b = TO ∨ b = i2 := fun b => by rw [hW]; simp
  have zb : X.base.objs.size ≤ sc.heap.objs.size := Nat.le_trans I1.ok.bsz I1.sz
  have wy : ∀ b ∈ W, s1.heap.objs.size ≤ b := fun b hb => by
    rcases (mW b).mp hb with rfl | rfl | rfl | rfl | rfl | rfl <;> omega
  have haW : a ∉ W := fun hb => Nat.not_lt.mpr (wy a hb) ha2
  have hcs : cStatics ∉ W := fun hb => by
    obtain ⟨_, hn, _⟩ := hl
    exact Nat.not_lt.mpr (wy _ hb) hn.lt
  have kz4 : ∀ b o, sz.heap.get? b = some o → s4.heap.get? b = some o := fun b o e => k4 b o (k3 b o e)
  have wd4 : ∀ b ∈ W, ∃ o, s4.heap.get? b = some o ∧ ∀ v, o.data ≠ .cell v := fun b hb => by
    rcases (mW b).mp hb with rfl | rfl | rfl | rfl | rfl | rfl
    · exact ⟨_, k4 _ _ hD3, fun v z => by cases z⟩
    · exact ⟨_, hC4, fun v z => by cases z⟩
    · exact ⟨_, kz4 _ _ hz, fun v z => by cases z⟩
    · exact ⟨_, kz4 _ _ hTI, fun v z => by cases z⟩
    · exact ⟨_, kz4 _ _ hTO, fun v z => by cases z⟩
    · exact ⟨_, kz4 _ _ hi2, fun v z => by cases z⟩
  have s0 : ∀ s', Slw W [] (g ≤ ·) s4 s' → Slp X.prog X.w X.A.in1 X.stack H1 sc W [] a g (c + 1) (fun ys x => x = f ys.length) (fun _ => False) (fun _ _ _ => False) (c + 1) s' := fun s' zz => by
    have kk : ∀ b o, s1.heap.get? b = some o → s'.heap.get? b = some o := fun b o e => zz.keep b o (fun hb => Nat.not_lt.mpr (wy b hb) (Heap.lt_size e)) (by simp) (kz4 b o (kz1 b o e))
    have ww : Ww X.base H1 X.stack W [] sc s1 (s'.setGen g .running) := by
      refine ⟨fun b hb => .inr (wy b hb), fun b hb => Heap.get?_none_of_le (Nat.le_trans zb (Nat.le_trans zc1 (wy b hb))), fun b hb => I1.hok.fresh (Nat.le_trans zc1 (wy b hb)), fun b hb hm => ?_, fun b hb => ?_, fun b hb => by simp at hb⟩
      · rcases List.mem_cons.mp (I1.stkSub b hm) with z | z
        · exact Nat.not_lt.mpr (Nat.le_trans zc1 (wy b hb)) (by rw [z]; exact I1.lt)
        · exact I1.nofs (Nat.le_trans zc1 (wy b hb)) z
      · obtain ⟨o, e, _⟩ := wd4 b hb
        exact zz.wide b hb o e
    refine ⟨zz.os.trans (by rw [← hs4, ← hs3]; exact ez1.trans hos), hl.keeps kk, hg.keeps kk, .fresh cg, zz.slot g _ (Nat.le_refl _) (by rw [g4]; exact hgs), rfl, ?_⟩
    refine wake X.A.in1.in1 W [] (s'.setGen g .running) hr.in1.in1 (by exact hgd) I1.ok.frames ww (fun b o e => kk b o e) ?_ (allBare_setGen zz.bare rfl) ?_
    · show s'.os = _
      exact zz.os.trans (by rw [← hs4, ← hs3]; exact ez1.trans hos)
    have q : (s'.setGen g .running).gens.size = s'.gens.size := setGen_size _ _ _
    rw [q]
    refine Nat.lt_of_lt_of_le ?_ zz.gsz
    rw [g4]
    exact hgl
  have hlB : ce.scope.names.lookup y = some .local := by rw [cS]; exact hyl
  have hlB2 : ce.scope.names.lookup y2 = some .local := by rw [cS]; exact hyl2
  have cD : D ≠ s3.heap.objs.size := by rw [z3]; exact Nat.ne_of_lt (Nat.lt_succ_self _)
  have wC : ∀ b, b = z ∨ b = TI ∨ b = TO ∨ b = i2 → b < D := fun b hb => by
    rcases hb with rfl | rfl | rfl | rfl <;> omega
  have mz : z ∈ W := (mW z).mpr (by simp)
  have mTI : TI ∈ W := (mW TI).mpr (by simp)
  have mTO : TO ∈ W := (mW TO).mpr (by simp)
  have mi2 : i2 ∈ W := (mW i2).mpr (by simp)
  have fpW : ∀ b, b < D → sc.heap.objs.size ≤ b → b ∈ fp := fun b hb hb2 => (mfp b).mpr ⟨hb2, by omega⟩
  have slot3 : ∀ b, b = z ∨ b = TI ∨ b = TO ∨ b = i2 → b ≠ D ∧ b ≠ s3.heap.objs.size := fun b hb => by
    have q := wC b hb
    exact ⟨Nat.ne_of_lt q, Nat.ne_of_lt (by omega)⟩
  have hi4 : IsRangeIter s4.heap i2 ((0 : Nat) : Int) ((c : Int) - ((0 : Nat) : Int)) 1 := by
    rw [show ((0 : Nat) : Int) = 0 from rfl, Int.sub_zero]
    exact kz4 _ _ hi2
  have bnd : ∀ b, b = z ∨ b = TI ∨ b = TO ∨ b = i2 ∨ b = D → sc.heap.objs.size ≤ b ∧ b < s3.heap.objs.size := fun b hb => by
    rcases hb with rfl | rfl | rfl | rfl | rfl <;> constructor <;> omega
  have loop : codeAny (model X.prog X.w) X.A (.compLoop (.ListComp (.Name y p1) [⟨.Tuple [.Name y p2, .Name y2 p3] tk pt, .Call (.Name "zip" pz) [e1, .Call (.Name "range" pr) [.Constant (.int (c : Int)) jn pn] [] cp] [] cp2, [], 0⟩] scope pos) 0 (.ref z) (.ref D) ce) (compPost (model X.prog X.w) X.A X.xe none (EP X pins σ Q) (.ref D) s3.heap.objs.size) s4 := by
    refine compLoop_any (fun n s' => ∃ (m : Nat) (acc : Array Value) (cnt : Nat), Inv (X.blk s3 H1 scope ce fp) [] (wipe σ (own.map (·.2))) H1 s' ∧ (∀ s'', Slw W [] (g ≤ ·) s' s'' → Slp X.prog X.w X.A.in1 X.stack H1 sc W [] a g (c + 1) (fun ys x => x = f ys.length) (fun _ => False) (fun _ _ _ => False) n s'') ∧
      s'.heap.get? D = some (lstObj acc cnt) ∧ Vals ((List.range m).map f) acc.toList ∧ IsZip s'.heap z TI TO .none ∧ IsPair s'.heap TI (.ref a) (.ref i2) ∧ (∃ a1 a2, IsPair s'.heap TO a1 a2) ∧ IsRangeIter s'.heap i2 (m : Int) ((c : Int) - (m : Int)) 1 ∧ n + m = c + 1 ∧ 1 ≤ n) ?_ (c + 1) ⟨0, #[], 0, I4, s0, k4 _ _ hD3, .nil, kz4 _ _ hz, kz4 _ _ hTI, ⟨_, _, kz4 _ _ hTO⟩, hi4, rfl, by omega⟩
    rintro n s5 ⟨m, acc, cnt, I5, S5, hD5, r5, hz5, hTI5, ⟨a1, a2, hTO5⟩, hi5, hnm, hn1⟩
    obtain ⟨n, rfl⟩ : ∃ n', n = n' + 1 := ⟨n - 1, by omega⟩
    have step : ∀ {s5 s6 : Shared}, Inv (X.blk s3 H1 scope ce fp) [] (wipe σ (own.map (·.2))) H1 s5 → Stp X.prog X.w X.stack H1 sc.heap.objs.size W a g s5 s6 → Inv (X.blk s3 H1 scope ce fp) [] (wipe σ (own.map (·.2))) H1 s6 := fun {s5 s6} I5 q => by
      refine item_inv (W := W) (n0 := sc.heap.objs.size) I5 q.os q.bare q.un q.hok q.kw fun b hb hw => ?_
      have hbD : b ≠ s3.heap.objs.size := fun z => hw ((mW b).mpr (.inr (.inl z)))
      refine ⟨?_, ?_, fun y' c' e z => ?_, fun p hp => absurd (show p ∈ ([] : List (Addr × Obj)) ++ [] from hp) (by simp)⟩
      · rcases Nat.lt_or_ge b s3.heap.objs.size with q | q
        · exact .inl ((mfp b).mpr ⟨hb, q⟩)
        · exact .inr q
      · show b ≠ ce.locals
        rw [cL]; exact hbD
      · have e : ce.cells.lookup y' = some c' := e
        rw [cC] at e
        have := ccell y' c' e
        rw [z] at this
        exact Nat.not_lt.mpr hb this
    have dok : ∀ {s' : Shared} {σ' : L2.St} (b : Addr), b = z ∨ b = TI ∨ b = TO ∨ b = i2 ∨ b = D → Inv (X.blk s3 H1 scope ce fp) [] σ' H1 s' → FpOk (X.blk s3 H1 scope ce fp) [] H1 b := fun {s' σ'} b hb J => by
      have hbl : sc.heap.objs.size ≤ b ∧ b < s3.heap.objs.size := bnd b hb
      have bfp : b ∈ fp := (mfp b).mpr hbl
      exact ⟨I1.hok.fresh hbl.1, (J.ok.exf b bfp).1, J.ok.exfs b bfp, .inl bfp, (J.ok.exf b bfp).2, fun p hp => absurd (show p ∈ ([] : List (Addr × Obj)) ++ [] from hp) (by simp)⟩
    have mvW : ∀ {s' : Shared} {h' : Heap} {t' : Nat}, AllBare s'.gens → s'.heap.objs.size ≤ h'.objs.size → (∀ b o, b ∉ W → s'.heap.get? b = some o → h'.get? b = some o) → (∀ b ∈ W, ∃ o, h'.get? b = some o ∧ ∀ v, o.data ≠ .cell v) → Slw W [] (g ≤ ·) s' { s' with heap := h', toks := t' } := fun {s' h' t'} hba hsz k wd =>
      ⟨rfl, hba, fun b o hb _ e => k b o hb e, fun b hb o _ => wd b hb, fun b hb => absurd hb (by simp), fun _ _ _ e => e, Nat.le_refl _, hsz⟩
    obtain ⟨oC5, hC5, dC5⟩ : ∃ o, s5.heap.get? s3.heap.objs.size = some o ∧ ∀ v, o.data ≠ .cell v := by
      obtain ⟨mm, hn, _⟩ := I5.loc
      obtain ⟨oc, es, ep, hoc, hdc, _⟩ := hn
      have hoc : s5.heap.get? ce.locals = some oc := hoc
      rw [cL] at hoc
      exact ⟨oc, hoc, fun v z => by rw [hdc] at z; cases z⟩
    -- the generator's item
    have hgen : ∀ g0, IsZip g0 z TI TO .ellipsis → Heap.SameBut z s5.heap g0 → wpAny (model X.prog X.w) X.A.in1 (Builtin.SmallTypes.nextOf (.ref a)) (fun x s6 => Inv (X.blk s3 H1 scope ce fp) [] (wipe σ (own.map (·.2))) H1 s6 ∧ RelV (f m) x ∧ s6.heap.get? D = some (lstObj acc cnt) ∧ IsZip s6.heap z TI TO .ellipsis ∧ IsPair s6.heap TI (.ref a) (.ref i2) ∧ IsPair s6.heap TO a1 a2 ∧ IsRangeIter s6.heap i2 (m : Int) ((c : Int) - (m : Int)) 1 ∧ AllBare s6.gens ∧
        (m + 1 < c + 1 → ∀ s', Slw W [] (g ≤ ·) s6 s' → Slp X.prog X.w X.A.in1 X.stack H1 sc W [] a g (c + 1) (fun ys x => x = f ys.length) (fun _ => False) (fun _ _ _ => False) n s')) (fun _ _ => False) { s5 with heap := g0 } := fun g0 hz0 sb0 => by
      have i0 : Inv (X.blk s3 H1 scope ce fp) [] (wipe σ (own.map (·.2))) H1 { s5 with heap := g0 } := by
        obtain ⟨d0, d1, d2, d3, d4, d5⟩ := dok z (.inl rfl) I5
        exact Inv.turned (s := s5) (h' := g0) (t' := s5.toks) (it := z) I5 (fun b o hb e => (sb0.2 b hb).trans e) d0 d1 d3 d4 d5
      have sl : Slw W [] (g ≤ ·) s5 { s5 with heap := g0 } := mvW (t' := s5.toks) I5.bare (by rw [sb0.1]; exact Nat.le_refl _) (fun b o hb e => (sb0.2 b (fun q => hb (q ▸ mz))).trans e) fun b hb => by
        rcases (mW b).mp hb with rfl | rfl | rfl | rfl | rfl | rfl
        · exact ⟨_, (sb0.2 _ (slot3 z (.inl rfl)).1.symm).trans hD5, fun v z => by cases z⟩
        · exact ⟨_, (sb0.2 _ (slot3 z (.inl rfl)).2.symm).trans hC5, dC5⟩
        · exact ⟨_, hz0, fun v z => by cases z⟩
        · exact ⟨_, (sb0.2 _ DZ.TIz).trans hTI5, fun v z => by cases z⟩
        · exact ⟨_, (sb0.2 _ DZ.TOz).trans hTO5, fun v z => by cases z⟩
        · exact ⟨_, (sb0.2 _ DZ.i2z).trans hi5, fun v z => by cases z⟩
      refine nextOf_gw hr.in1.depth ⟨haW, by simp⟩ ⟨hcs, by simp⟩ (S5 _ sl) fun ys x v s6 rv hit hy6 q6 kap => ?_
      have hym : ys.length = m := by omega
      rw [hit, hym] at rv
      rw [hym] at kap
      exact ⟨step i0 q6, rv, q6.kw D ((mW D).mpr (.inl rfl)) _ ((sb0.2 _ (slot3 z (.inl rfl)).1.symm).trans hD5), q6.kw z mz _ hz0, q6.kw TI mTI _ ((sb0.2 _ DZ.TIz).trans hTI5), q6.kw TO mTO _ ((sb0.2 _ DZ.TOz).trans hTO5), q6.kw i2 mi2 _ ((sb0.2 _ DZ.i2z).trans hi5), q6.bare, kap⟩
    have gst : ∀ {x : Value} {s6 : Shared}, (Inv (X.blk s3 H1 scope ce fp) [] (wipe σ (own.map (·.2))) H1 s6 ∧ RelV (f m) x ∧ s6.heap.get? D = some (lstObj acc cnt) ∧ IsZip s6.heap z TI TO .ellipsis ∧ IsPair s6.heap TI (.ref a) (.ref i2) ∧ IsPair s6.heap TO a1 a2 ∧ IsRangeIter s6.heap i2 (m : Int) ((c : Int) - (m : Int)) 1 ∧ AllBare s6.gens ∧
        (m + 1 < c + 1 → ∀ s', Slw W [] (g ≤ ·) s6 s' → Slp X.prog X.w X.A.in1 X.stack H1 sc W [] a g (c + 1) (fun ys x => x = f ys.length) (fun _ => False) (fun _ _ _ => False) n s')) → IsZip s6.heap z TI TO .ellipsis ∧ IsPair s6.heap TO a1 a2 ∧ IsRangeIter s6.heap i2 (m : Int) ((c : Int) - (m : Int)) 1 := fun q => ⟨q.2.2.2.1, q.2.2.2.2.2.1, q.2.2.2.2.2.2.1⟩
    by_cases hm2 : m < c
    · refine pyNext_zipG_item DZ hz5 hTI5 hgen (by omega) (fun x s6 q => gst q) fun x s6 h7 tk7 q hz7 hTO7 hi7 hT7 hs7 hk7 => ?_
      obtain ⟨I6, rv, hD6, hz6, hTI6, hTO6, hi6, hb6, kap⟩ := q
      have hzlt : z < s6.heap.objs.size := Heap.lt_size hz6
      refine wpAny_letOwnedTupleGo_zip (s := { s6 with heap := h7, toks := tk7 }) hz7 fun h8 hz8 sb8 => ?_
      have hT8 : h8.get? s6.heap.objs.size = some { cls := .type "tuple", data := .seq #[x, .int (m : Int) s6.toks] } := (sb8.2 _ (Nat.ne_of_gt hzlt)).trans hT7
      have k8 : ∀ b o, b ≠ z → b ≠ TO → b ≠ i2 → s6.heap.get? b = some o → h8.get? b = some o := fun b o n1 n2 n3 e => (sb8.2 b n1).trans (hk7 b o n1 n2 n3 e)
      have I8 : Inv (X.blk s3 H1 scope ce fp) [] (wipe σ (own.map (·.2))) H1 { s6 with heap := h8, toks := tk7 } := I6.turnedL (ch := [z, TO, i2]) (t' := tk7) (fun b o hb e => k8 b o (fun q => hb (by simp [q])) (fun q => hb (by simp [q])) (fun q => hb (by simp [q])) e) fun b hb => by
        have hb : b = z ∨ b = TO ∨ b = i2 := by simpa using hb
        rcases hb with q | q | q
        · exact dok b (.inl q) I6
        · exact dok b (.inr (.inr (.inl q))) I6
        · exact dok b (.inr (.inr (.inr (.inl q)))) I6
      refine assign_Tuple_tuple (s := { s6 with heap := h8, toks := tk7 }) (by exact I1.ok.hd hc) ⟨_, hT8, rfl, _, rfl⟩ rfl rfl fun h9 hx9 => ?_
      have k9 : ∀ b o, h8.get? b = some o → h9.get? b = some o := fun b o e => hx9 b o (Nat.ne_of_lt (Heap.lt_size e)) e
      have I9 : Inv (X.blk s3 H1 scope ce fp) [] (wipe σ (own.map (·.2))) H1 { s6 with heap := h9, toks := tk7 } := I8.kept (t' := tk7) k9
      show wpAny _ _ (assignInOrder [assign (.Name y p2) ce, assign (.Name y2 p3) ce] [x, .int (m : Int) s6.toks]) _ _ _
      refine assignInOrder_cons (wpAny_assign_Name (store_loc I9 hN hy hlB rv fun h10 tk10 m10 I10 hn10 hm10 sb10 => ?_))
      refine assignInOrder_cons (wpAny_assign_Name (store_loc (v := .int (m : Int)) I10 hN hy2 hlB2 ⟨_, rfl⟩ fun h11 tk11 m11 I11 hn11 hm11 sb11 => ?_))
      refine assignInOrder_nil ?_
      refine wpAny_tests_nil ?_
      simp only [if_true]
      have hiσ : i < (wipe σ (own.map (·.2))).length := by
        have q : (wipe σ (own.map (·.2))).length = X.N.length := I6.len
        rw [q]
        exact (List.getElem?_eq_some_iff.mp hy).1
      obtain ⟨mm, hnm, hlm⟩ := id I11.loc
      obtain ⟨u, ru, lk⟩ := hlm i y (f m) hy (by rw [List.getElem?_set_ne (Ne.symm hij), List.getElem?_set_self hiσ]) (.inl hlB)
      have hmu : mm y = some u := by
        rcases lk with ⟨_, e⟩ | ⟨q, _⟩
        · exact e
        · have q' : ce.scope.names.lookup y = some .cell ∨ ce.scope.names.lookup y = some .free := q
          rw [hlB] at q'
          rcases q' with q | q <;> cases q
      refine wpAny_Name (wpAny_loadName_local (by exact I11.ok.kind) hlB hnm hmu ?_) hyd
      have nC : ∀ b, b ≠ s3.heap.objs.size → b ≠ ce.locals := fun b hb => by rw [cL]; exact hb
      have kB : ∀ b o, b ≠ s3.heap.objs.size → h8.get? b = some o → h11.get? b = some o := fun b o n0 e => (sb11.2 b (nC b n0)).trans ((sb10.2 b (nC b n0)).trans (k9 b o e))
      have hD11 : h11.get? D = some (lstObj acc cnt) := kB D _ cD (k8 D _ (slot3 z (.inl rfl)).1.symm (slot3 TO (.inr (.inr (.inl rfl)))).1.symm (slot3 i2 (.inr (.inr (.inr rfl)))).1.symm hD6)
      have hl5 := r5.length
      have hl5' : acc.size = m := by
        rw [List.length_map, List.length_range] at hl5
        rw [← Array.length_toList, ← hl5]
      refine append_at (hsz := by rw [hl5']; show m ≤ sizeLine; exact Nat.le_trans (Nat.le_of_lt hm2) (Nat.le_trans hc9 (by decide))) hD11 fun h12 sb12 hD12 => ?_
      have I12 : Inv (X.blk s3 H1 scope ce fp) [] (((wipe σ (own.map (·.2))).set i (some (f m))).set j (some (.int (m : Int)))) H1 { s6 with heap := h12, toks := tk11 } := by
        obtain ⟨d0, d1, d2, d3, d4, d5⟩ := dok D (.inr (.inr (.inr (.inr rfl)))) I6
        exact Inv.turned (s := { s6 with heap := h11, toks := tk11 }) (h' := h12) (t' := tk11) (it := D) I11 (fun b o hb e => (sb12.2 b hb).trans e) d0 d1 d3 d4 d5
      have I13 : Inv (X.blk s3 H1 scope ce fp) [] (wipe σ (own.map (·.2))) H1 { s6 with heap := h12, toks := tk11 } := I12.weak (by rw [List.length_set, List.length_set]) fun j' v' e => by
        have n1 : j' ≠ i := fun z => (wipe_some e).2 (z ▸ hyo)
        have n2 : j' ≠ j := fun z => (wipe_some e).2 (z ▸ hyo2)
        rw [List.getElem?_set_ne (Ne.symm n2), List.getElem?_set_ne (Ne.symm n1)]
        exact e
      have kU : ∀ b o, b ≠ D → b ≠ s3.heap.objs.size → h8.get? b = some o → h12.get? b = some o := fun b o n1 n0 e => (sb12.2 b n1).trans (kB b o n0 e)
      have hz12 : IsZip h12 z TI TO .none := kU z _ (slot3 z (.inl rfl)).1 (slot3 z (.inl rfl)).2 hz8
      have hTI12 : IsPair h12 TI (.ref a) (.ref i2) := kU TI _ (slot3 TI (.inr (.inl rfl))).1 (slot3 TI (.inr (.inl rfl))).2 (k8 TI _ DZ.TIz DZ.TITO DZ.TIi2 hTI6)
      have hTO12 : IsPair h12 TO x (.int (m : Int) s6.toks) := kU TO _ (slot3 TO (.inr (.inr (.inl rfl)))).1 (slot3 TO (.inr (.inr (.inl rfl)))).2 ((sb8.2 TO DZ.TOz).trans hTO7)
      have hi12 : IsRangeIter h12 i2 (((m + 1 : Nat)) : Int) ((c : Int) - ((m + 1 : Nat) : Int)) 1 := by
        rw [show ((m + 1 : Nat) : Int) = (m : Int) + 1 from by push_cast; rfl, show (c : Int) - ((m : Int) + 1) = (c : Int) - (m : Int) - 1 by omega]
        exact kU i2 _ (slot3 i2 (.inr (.inr (.inr rfl)))).1 (slot3 i2 (.inr (.inr (.inr rfl)))).2 ((sb8.2 i2 DZ.i2z).trans hi7)
      have hT12 : s6.heap.objs.size < h9.objs.size := Heap.lt_size (k9 _ _ hT8)
      have zs12 : s6.heap.objs.size ≤ h12.objs.size := by
        rw [sb12.1, sb11.1, sb10.1]
        exact Nat.le_of_lt hT12
      have sl : Slw W [] (g ≤ ·) s6 { s6 with heap := h12, toks := tk11 } := mvW hb6 zs12 (fun b o hb e => kU b o (fun q => hb ((mW b).mpr (.inl q))) (fun q => hb ((mW b).mpr (.inr (.inl q)))) (k8 b o (fun q => hb (q ▸ mz)) (fun q => hb (q ▸ mTO)) (fun q => hb (q ▸ mi2)) e)) fun b hb => by
        rcases (mW b).mp hb with rfl | rfl | rfl | rfl | rfl | rfl
        · exact ⟨_, hD12, fun v z => by cases z⟩
        · obtain ⟨m2, hn, _⟩ := I12.loc
          obtain ⟨oc, es, ep, hoc, hdc, _⟩ := hn
          have hoc : h12.get? ce.locals = some oc := hoc
          rw [cL] at hoc
          exact ⟨oc, hoc, fun v z => by rw [hdc] at z; cases z⟩
        · exact ⟨_, hz12, fun v z => by cases z⟩
        · exact ⟨_, hTI12, fun v z => by cases z⟩
        · exact ⟨_, hTO12, fun v z => by cases z⟩
        · exact ⟨_, hi12, fun v z => by cases z⟩
      refine ⟨n, Nat.lt_succ_self _, m + 1, _, _, I13, fun s'' zz => kap (by omega) s'' (sl.trans zz), hD12, ?_, hz12, hTI12, ⟨_, _, hTO12⟩, hi12, by omega, by omega⟩
      rw [List.range_succ, List.map_append]
      have e : ∀ (x : Value), (acc.push x).toList = acc.toList ++ [x] := fun x => by simp
      rw [e]
      exact r5.append (.cons ru .nil)
    · obtain rfl : m = c := by omega
      refine pyNext_zipG_end (by exact I1.ok.hd hc) DZ hz5 hTI5 hgen (by omega) (fun x s6 q => gst q) fun x s6 h7 q hk7 => ?_
      obtain ⟨I6, rv, hD6, hz6, hTI6, hTO6, hi6, hb6, kap⟩ := q
      have I7 : Inv (X.blk s3 H1 scope ce fp) [] (wipe σ (own.map (·.2))) H1 { s6 with heap := h7 } := I6.turnedL (ch := [z, TO, i2]) (t' := s6.toks) (fun b o hb e => hk7 b o (fun q => hb (by simp [q])) (fun q => hb (by simp [q])) (fun q => hb (by simp [q])) e) fun b hb => by
        have hb : b = z ∨ b = TO ∨ b = i2 := by simpa using hb
        rcases hb with q | q | q
        · exact dok b (.inl q) I6
        · exact dok b (.inr (.inr (.inl q))) I6
        · exact dok b (.inr (.inr (.inr (.inl q)))) I6
      have hD7 : h7.get? D = some (lstObj acc cnt) := hk7 D _ (slot3 z (.inl rfl)).1.symm (slot3 TO (.inr (.inr (.inl rfl)))).1.symm (slot3 i2 (.inr (.inr (.inr rfl)))).1.symm hD6
      generalize hs8 : ({ s6 with heap := h7 } : Shared) = s8 at I7 ⊢
      have hD8 : s8.heap.get? D = some (lstObj acc cnt) := by rw [← hs8]; exact hD7
      have hDn : H1 D = none := I1.hok.fresh zc
      have r5' : Vals ((List.range m).map f) acc.toList := r5
      have un8 : Un (frs X.stack) fp H1 H1 sz.heap s8.heap := (Un.kept k3).trans I7.base
      have I9 : Inv X pins σ (upd H1 D (.lst ((List.range m).map f))) s8 := Iz.drained (Nat.le_of_eq hD) (by rw [List.length_map, List.length_range]; exact Nat.le_trans hc9 (by decide)) hD8 r5' (fun b hb => ⟨(f3 b hb).1.2.2.2.1, (f3 b hb).1.2.1, (f3 b hb).1.2.2.2.2.1, (f3 b hb).1.2.2.2.2.2⟩) (I7.os.trans (by rw [← hs3])) I7.bare un8 I7.hok hDn
      obtain ⟨mL, hnL, _⟩ := I7.loc
      have hnL : s8.heap.Ns ce.locals mL := hnL
      rw [cL] at hnL
      have nC : (upd H1 D (.lst ((List.range m).map f))) s3.heap.objs.size = none := by
        rw [upd_ne (by rw [z3]; exact Nat.ne_of_gt (Nat.lt_succ_self _))]
        exact I1.hok.fresh (Nat.le_trans zc (by rw [z3]; exact Nat.le_succ _))
      refine ⟨mL, hnL, fun h'' sb => ?_⟩
      obtain ⟨f0, f1, f2, f3', f4, f5⟩ := I3.fpOk (Nat.le_refl _) nC
      exact ⟨.ref D, _, I9.turned (t' := s8.toks) (fun b o hb e => (sb.2 b hb).trans e) f0 f1 f3' f4 f5, rfl, hP D hDn⟩
  exact codeAny_compStart_list loop (wpAny_pyIter_zip (kz4 _ _ hz) loop)
end
/-! a generator's method with a default -/
section
variable {X : Cx} {k : Nat} {f C : Addr} {fd : FuncData} {ps : List Str} {sp : SpW} {m : Str} {p pos pos' apos : Pos} {o : Expr} {ta : TE} {Fg : Hp → Hp → Prop} {ds : List Value} {dvs : List V}
def tMethG0 (C : Addr) (m : Str) (sp : SpW) (Fg : Hp → Hp → Prop) (E : XK) (dvs : List V) (ta : TE) : TGn := fun σ H It N Q P => ta σ H fun x H1 => ∃ a dx fs, x = .ref a ∧ H1 a = some (.ins C dx fs) ∧ fs.lookup m = none ∧
  ∃ Hn, Fg H1 Hn ∧ sp (x :: dvs) Hn It N Q E ∧ P Hn
theorem pgw_meth0 {E : XK} {pl : Sem Bool} (he : PE X o ta) (c : Cls X.K C) (hm : Meth X.K C m f) (F : GFw X.prog X.w X.K X.mg X.base k f fd ps sp) (hr : Room k X.A) (hb : Binds X.K fd ps ds) (hd : Vals dvs ds) (fg : Forg X Fg)
    (ht : eval (.Call (.Attribute o m apos) [] [] pos') X.env = (do
      let ov ← eval o X.env
      standAt apos.atName
      let (f, first) ← holding [ov] (getMethod ov m pl)
      callWith pos' f first (backTo pos' (starEach [] X.env)) (backToKw pos' (keywordEach [] X.env))) := by rfl) :
    PGw X k (.Call (.Attribute o m apos) [] [] pos') (tMethG0 C m sp Fg E dvs ta) E := by
  refine ⟨fun pins s σ H It N Q P gm hgm I h => ?_⟩
  refine PySem.W.methodCall_KW (pl := pl) (wpAny_gsz hgm (wpAny_mono (he.run pins s σ H _ I h) (fun u s1 ⟨x, H1, I1, rx, a, dx, fs, ex, ea, l, q⟩ hg1 => ?_) fun _ _ q _ => q)) ht
  subst ex
  obtain rfl : u = Value.ref a := rx
  refine getmeth_ok I1 ea c hm l (PySem.W.callWith_K0 (first := [.ref a]) I1.kIn hm.kp ?_)
  obtain ⟨Hn, hf, h, hP⟩ := q
  obtain ⟨I2, nT⟩ := fg pins σ H1 Hn s1 I1 hf
  have ra : Vals (.ref a :: dvs) ([.ref a] ++ ds) := .cons rfl hd
  have hl2 : ([Value.ref a] ++ ds).length = ps.length := by rw [← ra.length]; exact F.len _ _ _ _ _ _ h
  refine wpAny_call (codeAny_mono (F.run X.A X.stack s1 Hn ⟨[.ref a], []⟩ ([.ref a] ++ ds) (.ref a :: dvs) It N Q E hr nT I2.env0 (hb s1 [.ref a] I2.kIn hl2) ra h) fun r s' hq => ?_)
  cases r with
  | error e => exact False.elim hq
  | ok fl =>
    cases fl with
    | ret u => exact ⟨Hn, s1, I2, nT, hq, hP, hg1⟩
    | next => exact False.elim hq
    | brk => exact False.elim hq
    | cont => exact False.elim hq
end
end GW

/-! for over a generator inside a generator. -/
namespace GW
open PySem PySem.Spec PyProof.Rows L2 GenW
section
variable {prog : Program} {w : World} {A : Around} {R : GenEnd} {Y : Protocol} {n : Nat} {s₀ s : Shared} {c : Code} {fs : List Frame} {K : Flow → Sem Fin} {J : Value → Sem Fin} {gd : Bool → Bool} {lv : List Value → List Value} {env : Env}
theorem segw_For {target iter : Expr} {body orelse : List Stmt} {pos : Pos}
    (h : wpAny (model prog w) (A.over c fs) (eval iter env) (fun x s1 => wpAny (model prog w) (A.over c fs) (pyIter x) (fun it s2 => ∀ p, Seg (model prog w) A R Y n s₀ (.forLoop target it body orelse env) ((model prog w).den (.forLoop target it body orelse env))
      (.ret (fun r => ((match r with | .ok f => (.pure f : Sem Flow) | .error e => .raise e).onRaise (cameBack env)).wrap K J gd lv) none (gd false) (lv []) c p [] :: fs) s2) (fun x s' => Seg (model prog w) A R Y n s₀ c (J x) fs s') s1) (fun x s' => Seg (model prog w) A R Y n s₀ c (J x) fs s') s)
    (hs : ∀ x, foldedSetIterable iter env x = pure x := by intro _; rfl) :
    Seg (model prog w) A R Y n s₀ c ((exec (.For target iter body orelse pos) env).wrap K J gd lv) fs s := by
  rw [exec_For]
  refine seg_bind_wrap (wpAny_standAt (seg_bind_wrap (wpAny_mono h (fun x s1 h1 => seg_bind_wrap (wpAny_of_eq (hs x) (seg_bind_wrap (wpAny_standAt (seg_bind_wrap (wpAny_holding (wpAny_mono h1 (fun it s2 h2 => seg_call h2) fun _ _ q => q))))))) fun _ _ q => q)))
theorem segw_forLoop {target : Expr} {it : Value} {body : List Stmt} {orelse : List Stmt}
    (h : wpAny (model prog w) (A.over (.forLoop target it body orelse env) fs) (pyNext it) (fun r s1 => match r with
      | none => Seg (model prog w) A R Y n s₀ (.forLoop target it body orelse env) (.pure (.again (.block orelse env))) fs s1
      | some v => wpAny (model prog w) (A.over (.forLoop target it body orelse env) fs) (letOwnedTupleGo target it v) (fun _ s2 => wpAny (model prog w) (A.over (.forLoop target it body orelse env) fs) (assign target env v) (fun _ s3 =>
          Seg (model prog w) A R Y n s₀ (.forLoop target it body orelse env) ((execs body env).wrap (fun f => match f with
            | .next | .cont => .pure (.again (.forLoop target it body orelse env))
            | .brk => .pure (.done .next)
            | .ret v => .pure (.done (.ret v))) (fun e => (do noteFrame e env; theTreesLotGoes e : Sem Unit).wrap (fun _ => .raise e) .raise id id) id id) fs s3) (fun _ _ => False) s2) (fun _ _ => False) s1) (fun _ _ => False) s) :
    Seg (model prog w) A R Y n s₀ (.forLoop target it body orelse env) ((model prog w).den (.forLoop target it body orelse env)) fs s := by
  show Seg _ A R Y n s₀ _ ((forTurn target it body orelse env).onRaise (fun x => do noteFrame x env; theTreesLotGoes x)) fs s
  unfold forTurn
  rw [Sem.onRaise_eq_wrap]
  refine seg_bind_wrap (wpAny_standAt (seg_bind_wrap (wpAny_onRaise (wpAny_mono h (fun r s1 h1 => ?_) fun _ _ q => q.elim))))
  cases r with
  | none => exact h1
  | some v =>
    refine seg_bind_wrap (wpAny_mono h1 (fun _ s2 h2 => seg_bind_wrap (wpAny_mono h2 (fun _ s3 h3 => ?_) fun _ _ q => q.elim)) fun _ _ q => q.elim)
    rw [Sem.bind_eq_wrap', Sem.wrap_wrap]
    rw [Sem.wrap_congr (execs body env) _ _ (K' := fun f => match f with
            | .next | .cont => .pure (.again (.forLoop target it body orelse env))
            | .brk => .pure (.done .next)
            | .ret v => .pure (.done (.ret v))) (H' := (fun e => (do noteFrame e env; theTreesLotGoes e : Sem Unit).wrap (fun _ => .raise e) .raise id id))
        (fun f => by cases f <;> rfl)
        (fun e => by first | exact Sem.bind_eq_wrap _ _ | (show (do noteFrame e env; theTreesLotGoes e : Sem Unit).bind (fun _ => .raise e) = _; rw [Sem.bind_eq_wrap]))]
    exact h3
end
section
variable {X : Cx} {pins : List (Addr × Obj)} {σ : L2.St} {H : Hp} {s : Shared}
theorem load_loc {E : Value → Shared → Prop} {Q : Value → Shared → Prop} {i : Nat} {x : Str} {p : Pos} {z : V} (I : Inv X pins σ H s) (hi : X.N[i]? = some x) (hk : X.env.scope.names.lookup x = some .local) (e : σ[i]? = some (some z)) (h : ∀ u, RelV z u → Q u s) (hd : (x == ("__debug__" : Str)) = false := by decide) :
    wpAny (model X.prog X.w) X.A (eval (.Name x p) X.env) Q E s := by
  obtain ⟨m, hn, hl⟩ := I.loc
  obtain ⟨u, r, l⟩ := hl i x z hi e (.inl hk)
  rcases l with ⟨k, hm⟩ | ⟨k, _⟩
  · exact wpAny_Name (wpAny_loadName_local I.ok.kind k hn hm (h u r)) hd
  · have k' : X.env.scope.names.lookup x = some .cell ∨ X.env.scope.names.lookup x = some .free := k
    rcases k' with k' | k' <;> (rw [hk] at k'; cases k')
/-- if a == b: return, of two texts: the state stays -/
theorem run_eqif {E : Value → Shared → Prop} {i j : Nat} {a b : Str} {p1 p2 p3 p4 p5 : Pos} {y z : Str} (I : Inv X pins σ H s) (hi : X.N[i]? = some a) (hj : X.N[j]? = some b) (ha : X.env.scope.names.lookup a = some .local) (hb : X.env.scope.names.lookup b = some .local) (ea : σ[i]? = some (some (.str y))) (eb : σ[j]? = some (some (.str z)))
    (da : (a == ("__debug__" : Str)) = false := by decide) (db : (b == ("__debug__" : Str)) = false := by decide) {Q : Flow → Shared → Prop} (hQ : Q (if y = z then .ret .none else .next) s) :
    wpAny (model X.prog X.w) X.A (execs [.If (.Compare (.Name a p1) [.Eq] [.Name b p2] p3) [.Return none p4] [] p5] X.env) Q E s := by
  refine wpAny_execs_cons (wpAny_If (wpAny_isTrue_Compare1 (load_loc I hi ha ea (fun u r => load_loc I hj hb eb (fun u' r' => ?_) db) da) rfl))
  obtain ⟨t, rfl⟩ := r
  obtain ⟨t', rfl⟩ := r'
  refine eq_str (wpAny_truthy_bool ?_)
  by_cases q : y = z
  · subst q
    rw [if_pos rfl] at hQ
    simp only [beq_self_eq_true, if_true]
    exact wpAny_execs_cons (wpAny_Return_none hQ)
  · rw [if_neg q] at hQ
    simp only [beq_eq_false_iff_ne.mpr q, Bool.false_eq_true, if_false]
    exact wpAny_execs_nil (wpAny_execs_nil hQ)
end
end GW

/-! for x in g: yield x; if x == last: return. -/
namespace GW
open PySem PySem.Spec PyProof.Rows L2 GenW
section
variable {X : Cx} {x : Heap → Value → Shared → Prop} {Gk : Nat → Prop} {n0 : Nat} {It : List V → V → Prop} {N gm : Nat}
/-- f: the items of the generator within, V: what holds ahead of its item j -/
def tForY (X : Cx) (It : List V → V → Prop) (N : Nat) (j : Nat) (tg : Heap → TGn) : TGw := fun D ys σ H => ∃ (f : Nat → Str) (N' : Nat) (z : Str) (P : Nat → List L2.V → Prop), 1 ≤ N' ∧ (∀ h0, tg h0 σ H (fun zs y => y = .str (f zs.length)) N' (fun _ => False) (fun H1 => H1 = X.H_0)) ∧
  σ[j]? = some (some (.str z)) ∧ P 0 ys ∧ ∀ m ys, P m ys → ys.length < N ∧ It ys (.str (f m)) ∧ (ys.length + 1 < N → if f m = z then D.rt (ys ++ [.str (f m)]) .non X.H_0 else m + 1 < N' ∧ P (m + 1) (ys ++ [.str (f m)]))
theorem gw_forY {iter : Expr} {a b : Str} {i j k : Nat} {p0 p1 p2 p3 p4 p5 p6 p7 p8 p9 : Pos} {tg : Heap → TGn} (hi : ∀ h0, PGw (Fx X x h0) k iter (tg h0) fun _ _ _ => False) (hr : Room (k + 1) X.A) (hgd : X.A.guards = some []) (hN : X.N.Nodup) (ha : X.N[i]? = some a) (hb : X.N[j]? = some b) (hij : i ≠ j)
    (la : X.env.scope.names.lookup a = some .local) (lb : X.env.scope.names.lookup b = some .local) (hst : X.stack = X.env :: X.outer) (hfr : X.env.frame = some X.env.locals) (hgk : ∀ g, gm ≤ g → Gk g)
    (da : (a == ("__debug__" : Str)) = false := by decide) (db : (b == ("__debug__" : Str)) = false := by decide) (hs : ∀ y, foldedSetIterable iter X.env y = pure y := by intro _; rfl) (hco : X.env.scope.isCoroutine = false := by rfl) (hin : interactive X.env = false := by rfl) :
    GSw X x Gk n0 It N gm (.For (.Name a p0) iter [.Expr (.Yield (some (.Name a p1)) p2) p3, .If (.Compare (.Name a p4) [.Eq] [.Name b p5] p6) [.Return none p7] [] p8] [] p9) (tForY X It N j tg) := by
  refine ⟨fun A W Ls wp ip R n ys s₀ c fs K J gd lv s σ H D g q k' I ht => ?_⟩
  obtain ⟨f, N', z, P, hN1, htg, hz, hP0, turn⟩ := ht
  refine segw_For ?_ hs
  rw [g.over]
  refine wpAny_gsz q.z (wpAny_mono ((hi _).run _ s σ H _ _ _ _ gm q.z I (htg _)) (fun u s1 hx hz1 => ?_) fun y s' r _ => k'.exc n ys wp s₀ y s' ⟨q.w, q.p, q.n, Nat.zero_le _⟩ r)
  obtain ⟨H1, sc, I1, nT, hG, hH1, hgsc⟩ := hx
  subst hH1
  obtain ⟨ga, gi, cg, rfl, ha1, ha2, hg, hgs, hgi, hgk0, hos, hbr, hl, hkp, wake⟩ := hG
  refine wpAny_pyIter_gen hg ?_
  intro pp
  have gl := fun (kk : Result → Sem PySem.Fin) => gcw_loop (k := kk) (c' := .forLoop (.Name a p0) (.ref ga) [.Expr (.Yield (some (.Name a p1)) p2) p3, .If (.Compare (.Name a p4) [.Eq] [.Name b p5] p6) [.Return none p7] [] p8] [] X.env) (l := lv []) (kp := []) (p := pp) g rfl rfl
  have hgl : gi < s1.gens.size := (Array.getElem?_eq_some_iff.mp hgs).1
  have I2 : Inv (Fx X x (cut n0 s₀.heap)) (wp ++ ip) σ X.H_0 s1 := I1.call' (ch := []) hos (Un.kept hkp) (I1.hok.kept hkp) hbr fun b z => by simp at z
  have cs : ∀ {h : Heap}, (cut n0 h).objs.size ≤ n0 := fun {h} => by rw [cut_size]; exact Nat.min_le_left _ _
  have fsLt : ∀ b ∈ X.fs, b < n0 := fun b hb => by
    obtain ⟨_, o, ho, _⟩ := I1.ok.funs.mem hb
    exact Nat.lt_of_lt_of_le (Heap.lt_size ho) cs
  have Llt : X.env.locals < sc.heap.objs.size := I1.lt
  have nLs : ∀ b, n0 ≤ b → b ∉ Ls := fun b hb z => Nat.not_lt.mpr hb (fsLt b (g.fm.ls b z))
  have WltS : ∀ b ∈ W, ∃ o, sc.heap.get? b = some o ∧ (∀ v, o.data ≠ .cell v) ∧ X.H_0 b = none ∧ b ≠ X.env.locals ∧ b ∉ X.fs := fun b hb => by
    rw [← q.w] at hb
    obtain ⟨p, hp, rfl⟩ := List.mem_map.mp hb
    obtain ⟨h1, h2, h3, h4, h5⟩ := I1.pin p (List.mem_append_right _ (List.mem_append_left _ hp))
    exact ⟨_, h1, h5, h2, h3, h4⟩
  have ipLt : ∀ p ∈ X.pn ++ ip, p.1 < sc.heap.objs.size := fun p hp => by
    rcases List.mem_append.mp hp with hp | hp
    · exact Heap.lt_size (I1.pin p (List.mem_append_left _ hp)).1
    · exact Heap.lt_size (I1.pin p (List.mem_append_right _ (List.mem_append_right _ hp))).1
  have clt : ∀ y c, X.env.cells.lookup y = some c → c < sc.heap.objs.size := fun y c e => by
    obtain ⟨v, o, ho, _⟩ := I1.cell y c e
    exact Heap.lt_size ho
  have gaW : ga ∉ W ∧ ga ∉ X.env.locals :: Ls := by
    refine ⟨fun hb => ?_, fun hb => ?_⟩
    · obtain ⟨o, ho, _⟩ := WltS _ hb
      exact Nat.not_lt.mpr ha1 (Heap.lt_size ho)
    · rcases List.mem_cons.mp hb with z | z
      · exact Nat.not_lt.mpr ha1 (by rw [z]; exact Llt)
      · exact nLs ga (Nat.le_trans g.fm.nL (Nat.le_trans (Nat.le_of_lt Llt) ha1)) z
  have csW : cStatics ∉ W ∧ cStatics ∉ X.env.locals :: Ls := by
    obtain ⟨mc, ⟨oc, _, _, hoc, _⟩, _⟩ := I1.ok.mod.nolimit
    have hoc : X.base.get? cStatics = some oc := hoc
    refine ⟨fun hb => ?_, fun hb => ?_⟩
    · rw [g.fm.nb _ hb] at hoc
      cases hoc
    rcases List.mem_cons.mp hb with z | z
    · have h1 := Heap.lt_size hoc
      have h2 : X.base.objs.size ≤ X.env.locals := Nat.le_trans I1.ok.bsz I1.ok.above
      rw [z] at h1
      exact Nat.not_lt.mpr h2 h1
    · exact I1.ok.nofr hoc (g.fm.ls _ z)
  have mstk : ∀ b, b ∈ frs X.stack ↔ b = X.env.locals ∨ b ∈ X.fs := fun b => by
    rw [hst]
    unfold frs
    rw [List.filterMap_cons, hfr]
    exact List.mem_cons
  have ww : Ww X.base X.H_0 X.stack W (X.env.locals :: Ls) sc s1 (s1.setGen gi .running) := by
    refine ⟨fun b hb => ?_, g.fm.nb, fun b hb => ?_, fun b hb hm => ?_, fun b hb => ?_, fun b hb => (mstk b).mpr ?_⟩
    · obtain ⟨o, ho, _⟩ := WltS b hb
      exact .inl (Heap.lt_size ho)
    · obtain ⟨_, _, _, h, _⟩ := WltS b hb
      exact h
    · obtain ⟨_, _, _, _, h1, h2⟩ := WltS b hb
      exact ((mstk b).mp hm).elim h1 h2
    · obtain ⟨o, ho, hc, _⟩ := WltS b hb
      exact ⟨o, hkp b o ho, hc⟩
    · rcases List.mem_cons.mp hb with z | z
      · exact .inl z
      · exact .inr (g.fm.ls b z)
  have S0 : Slp X.prog X.w X.A X.stack X.H_0 sc W (X.env.locals :: Ls) ga gi N' (fun zs y => y = .str (f zs.length)) (fun _ => False) (fun _ _ _ => False) N' s1 := by
    refine ⟨hos, hl, hg, .fresh cg, hgs, rfl, ?_⟩
    refine wake X.A.in1 W (X.env.locals :: Ls) (s1.setGen gi .running) hr.in1 (by exact hgd) I1.ok.frames ww (fun _ _ e => e) hos (allBare_setGen hbr rfl) ?_
    have q : (s1.setGen gi .running).gens.size = s1.gens.size := setGen_size _ _ _
    rw [q]
    exact hgl
  have loop : ∀ (n' m n : Nat) (ys : List L2.V) (wp : List (Addr × Obj)) (s₀ s : Shared) (σ : L2.St), GSt W N gm n ys wp s₀ s → Inv (Fx X x (cut n0 s₀.heap)) (wp ++ ip) σ X.H_0 s →
      Slp X.prog X.w X.A X.stack X.H_0 sc W (X.env.locals :: Ls) ga gi N' (fun zs y => y = .str (f zs.length)) (fun _ => False) (fun _ _ _ => False) n' s → n' + m = N' → 1 ≤ n' → P m ys → σ[j]? = some (some (.str z)) →
      Seg (model X.prog X.w) A R (GYw X x W Ls Gk n0 It N) n s₀ (.forLoop (.Name a p0) (.ref ga) [.Expr (.Yield (some (.Name a p1)) p2) p3, .If (.Compare (.Name a p4) [.Eq] [.Name b p5] p6) [.Return none p7] [] p8] [] X.env)
        ((model X.prog X.w).den (.forLoop (.Name a p0) (.ref ga) [.Expr (.Yield (some (.Name a p1)) p2) p3, .If (.Compare (.Name a p4) [.Eq] [.Name b p5] p6) [.Return none p7] [] p8] [] X.env))
        (.ret (fun r => ((match r with | .ok f => (.pure f : Sem Flow) | .error e => .raise e).onRaise (cameBack X.env)).wrap K J gd lv) none (gd false) (lv []) c pp [] :: fs) s := by
    intro n'
    induction n' with
    | zero => intro m n ys wp s₀ s σ _ _ _ _ h1; exact absurd h1 (by omega)
    | succ n' ih =>
      intro m n ys wp s₀ s5 σ q I5 S5 hnm _ hP hz
      obtain ⟨t1, t2, t3⟩ := turn m ys hP
      obtain ⟨n, rfl⟩ : ∃ m, n = m + 1 := ⟨n - 1, by have := q.n; omega⟩
      refine segw_forLoop ?_
      rw [(gl _).over]
      refine wpAny_gsz q.z (next_gw (hh := by exact hr.hd) (hroom := hr.depth) gaW csW S5 (fun zs y v s6 rv hit hzs q6 kap => ?_) (fun zs s6 _ hq _ => hq.elim) fun e s6 hx => ?_)
      · intro hz6
        obtain rfl : y = .str (f zs.length) := hit
        have hzm : zs.length = m := by omega
        rw [hzm] at rv kap
        have I6 : Inv (Fx X x (cut n0 s₀.heap)) (wp ++ ip) σ X.H_0 s6 := by
          refine item_inv (W := W) (n0 := sc.heap.objs.size) I5 q6.os q6.bare q6.un q6.hok q6.kw fun b hb hw => ⟨.inr ?_, ?_, fun y c e z => ?_, fun p hp z => ?_⟩
          · exact Nat.le_trans cs (Nat.le_trans g.fm.nL (Nat.le_trans (Nat.le_of_lt Llt) hb))
          · exact Nat.ne_of_gt (Nat.lt_of_lt_of_le Llt hb)
          · exact Nat.not_lt.mpr hb (by rw [← z]; exact clt y c e)
          · rcases List.mem_append.mp hp with hp | hp
            · exact Nat.not_lt.mpr hb (by rw [← z]; exact ipLt p (List.mem_append_left _ hp))
            rcases List.mem_append.mp hp with hp | hp
            · refine hw ?_
              rw [← z, ← q.w]
              exact List.mem_map.mpr ⟨p, hp, rfl⟩
            · exact Nat.not_lt.mpr hb (by rw [← z]; exact ipLt p (List.mem_append_right _ hp))
        obtain ⟨og, nmg, qng, hog, hgc, hgd, _⟩ := id q6.gen
        refine go_of hog hgc hgd (by decide) ?_
        refine wpAny_assign_Name (store_loc (X := Fx X x (cut n0 s₀.heap)) I6 hN ha la rv fun h7 tk m7 I7 hn7 hm7 sb7 => ?_)
        have iσ : i < σ.length := by
          rw [I6.len]
          exact (List.getElem?_eq_some_iff.mp ha).1
        refine seg_execs_cons ?_
        refine seg_Expr_Yield (gl _).split rfl (gl _).guard ?_ hco hin
        rw [(gl _).over]
        refine load_loc (X := Fx X x (cut n0 s₀.heap)) I7 ha la (List.getElem?_set_self iσ) (fun u ru => ?_) da
        intro kap2 hk
        refine ⟨ys, .str (f m), wp, ip, _, q.w, q.n, ru, t2, I7, q.p, fun hm s'' zz => hk .none s'' ?_⟩
        obtain ⟨wp', e1, I8, e2⟩ := wakeW g.fm g.ho q.w cs I7 zz
        have bL : ∀ b ∈ W, b ≠ X.env.locals := fun b hb => (g.fm.own b hb).1
        have LW : X.env.locals ∉ W := fun hb => bL _ hb rfl
        have LL : X.env.locals ∉ Ls := nLs _ g.fm.nL
        have q8 : GSt W N gm n (ys ++ [.str (f m)]) wp' s'' s'' := ⟨e1, e2, by have := q.n; rw [List.length_append, List.length_singleton]; omega, Nat.le_trans hz6 zz.gsz⟩
        have hz8 : (σ.set i (some (.str (f m))))[j]? = some (some (.str z)) := by
          rw [List.getElem?_set_ne hij]
          exact hz
        have sl : Slw W (X.env.locals :: Ls) (gi ≤ ·) s6 s'' := by
          refine ⟨zz.os, zz.bare, fun b o h1 h2 e => ?_, fun b hb o e => ?_, fun b hb o e => ?_, fun i' x' hi' e => zz.slot i' x' (hgk i' (Nat.le_trans (Nat.le_trans hgsc (by rw [hgi]; exact Nat.le_refl _)) hi')) e, zz.gsz, ?_⟩
          · exact zz.keep b o h1 (fun z => h2 (List.mem_cons_of_mem _ z)) ((sb7.2 b fun z => h2 (by rw [z]; exact List.mem_cons_self)).trans e)
          · exact zz.wide b hb o ((sb7.2 b (bL b hb)).trans e)
          · rcases List.mem_cons.mp hb with z | z
            · subst z
              obtain ⟨o7, es, ep, ho7, hd7, _⟩ := hn7
              exact ⟨o7, zz.keep _ o7 LW LL ho7, fun vs z => by rw [hd7] at z; cases z⟩
            · have hne : b ≠ X.env.locals := fun y => LL (by rw [← y]; exact z)
              exact zz.fr b z o ((sb7.2 b hne).trans e)
          · show s6.heap.objs.size ≤ _
            rw [← sb7.1]
            exact zz.hsz
        refine seg_wrap ?_
        rw [(gl _).over]
        refine run_eqif (X := Fx X x (cut n0 s''.heap)) I8 ha hb la lb (List.getElem?_set_self iσ) hz8 da db ?_
        by_cases hfz : f m = z
        · rw [if_pos hfz]
          have t3 := t3 hm
          rw [if_pos hfz] at t3
          exact seg_leaf (.ok (.ret .none)) (k'.ok n _ wp' s'' s'' (.ret .none) q8 ⟨.non, _, _, I8, rfl, t3⟩)
        · rw [if_neg hfz]
          have t3 := t3 hm
          rw [if_neg hfz] at t3
          obtain ⟨t4, t5⟩ := t3
          exact seg_again rfl (ih (m + 1) n _ wp' s'' s'' _ q8 I8 (kap (by omega) s'' sl) (by omega) (by omega) t5 hz8)
      · obtain ⟨_, _, _, _, _, _, _, _, _, _, _, _, z⟩ := hx
        exact False.elim z
  exact loop N' 0 n ys wp s₀ s1 σ (q.gsz hz1) I2 S0 (Nat.add_zero _) hN1 hP0 hz
end
end GW

/-! The family of a generator's contexts. -/
namespace GW
open PySem PySem.Spec PyProof.Rows L2 GenW
section
variable {P : Program} {w : World} {K : PySem.W.Frag} {mg : Str → Option Value} {base : Heap} {N : List Str} {qual : Str} {scope : Scope} {f : Addr} {cd : Value} {A : Around} {outer : List Env} {s : Shared} {H : Hp} {E : XK} {pn : List (Addr × Obj)}
abbrev gx (P : Program) (w : World) (K : PySem.W.Frag) (mg : Str → Option Value) (base : Heap) (N : List Str) (qual : Str) (scope : Scope) (f : Addr) (cd : Value) (A : Around) (outer : List Env) (s : Shared) (H : Hp) (E : XK) (pn : List (Addr × Obj)) (h0 : Heap) : Cx :=
  Fx (gcxOf P w K mg base N qual scope f cd A outer s H E pn) (gxe P w qual scope f cd A outer s H E pn) h0
theorem takes_gx (h0 : Heap) : Takes (gx P w K mg base N qual scope f cd A outer s H E pn h0) (fun cls d _ H' => E cls d H') := fun u s' x =>
  XE.leaveG (X := gx P w K mg base N qual scope f cd A outer s H E pn h0) (W := fun cls d _ H' => E cls d H') (E := E) rfl rfl rfl (fun _ _ _ _ h => h) x
theorem owns_gx (h0 : Heap) : PassesOwn (model P w) (gx P w K mg base N qual scope f cd A outer s H E pn h0).A (gx P w K mg base N qual scope f cd A outer s H E pn h0).env (gx P w K mg base N qual scope f cd A outer s H E pn h0).xe :=
  passes_of (X := gx P w K mg base N qual scope f cd A outer s H E pn h0) (K := fun e s'' => CX P w outer H { s with heap := h0 } E e s'' ∧ ∀ p ∈ pn, s''.heap.get? p.1 = some p.2) (E₁ := fun _ _ => False) rfl
end
end GW

namespace K10
open PySem PySem.Spec PyProof.Rows L2 Ver
def top (i : Nat) : Stmt := PySem.Challenge.pw_firstanswers_k10_whole_words_in_order.main.body.getD i (.Pass ⟨0, 0, 0, 0⟩)
abbrev s_is_integer : Stmt := top 5
abbrev n_is_integer : List Str := ["value"]
theorem sc_is_integer : FnScope n_is_integer ["value"] (defScope s_is_integer) := ⟨rfl, rfl, rfl, by decide +kernel, rfl, by decide +kernel, by decide +kernel⟩
def d_is_integer : He.DefD := ⟨("is_integer", none), "is_integer", "is_integer", defArgs s_is_integer, defBody s_is_integer, defScope s_is_integer, [], []⟩
abbrev s_is_between : Stmt := top 6
abbrev n_is_between : List Str := ["value", "low", "high"]
theorem sc_is_between : FnScope n_is_between ["value", "low", "high"] (defScope s_is_between) := ⟨rfl, rfl, rfl, by decide +kernel, rfl, by decide +kernel, by decide +kernel⟩
def d_is_between : He.DefD := ⟨("is_between", none), "is_between", "is_between", defArgs s_is_between, defBody s_is_between, defScope s_is_between, [], []⟩
abbrev s_is_letters : Stmt := top 7
abbrev n_is_letters : List Str := ["value", "letter"]
theorem sc_is_letters : FnScope n_is_letters ["value"] (defScope s_is_letters) := ⟨rfl, rfl, rfl, by decide +kernel, rfl, by decide +kernel, by decide +kernel⟩
def d_is_letters : He.DefD := ⟨("is_letters", none), "is_letters", "is_letters", defArgs s_is_letters, defBody s_is_letters, defScope s_is_letters, [], []⟩
abbrev s_Order___init__ : Stmt := inClass (top 18) 0
abbrev n_Order___init__ : List Str := ["self", "letters", "costs", "name", "letter"]
theorem sc_Order___init__ : FnScope n_Order___init__ ["self", "letters", "costs"] (defScope s_Order___init__) := ⟨rfl, rfl, rfl, by decide +kernel, rfl, by decide +kernel, by decide +kernel⟩
def d_Order___init__ : He.DefD := ⟨("Order", some "__init__"), "__init__", "Order.__init__", defArgs s_Order___init__, defBody s_Order___init__, defScope s_Order___init__, [], []⟩
abbrev s_Order_of_costs : Stmt := inClass (top 18) 1
abbrev n_Order_of_costs : List Str := ["cls", "costs", "name", "letters"]
theorem sc_Order_of_costs : FnScope n_Order_of_costs ["cls", "costs"] (defScope s_Order_of_costs) := ⟨rfl, rfl, rfl, by decide +kernel, rfl, by decide +kernel, by decide +kernel⟩
abbrev s_Order__next_count : Stmt := inClass (top 18) 21
abbrev n_Order__next_count : List Str := ["self", "counts", "letter"]
theorem sc_Order__next_count : FnScope n_Order__next_count ["self", "counts"] (defScope s_Order__next_count) := ⟨rfl, rfl, rfl, by decide +kernel, rfl, by decide +kernel, by decide +kernel⟩
def d_Order__next_count : He.DefD := ⟨("Order", some "_next_count"), "_next_count", "Order._next_count", defArgs s_Order__next_count, defBody s_Order__next_count, defScope s_Order__next_count, [], []⟩
abbrev s_Order__counts : Stmt := inClass (top 18) 22
abbrev n_Order__counts : List Str := ["self", "most", "counts", "_"]
theorem sc_Order__counts : FnScope n_Order__counts ["self", "most"] (defScope s_Order__counts) := ⟨rfl, rfl, rfl, by decide +kernel, rfl, by decide +kernel, by decide +kernel⟩
def d_Order__counts : He.DefD := ⟨("Order", some "_counts"), "_counts", "Order._counts", defArgs s_Order__counts, defBody s_Order__counts, defScope s_Order__counts, [], []⟩
abbrev s_Order__ways : Stmt := inClass (top 18) 23
abbrev n_Order__ways : List Str := ["self", "counts", "cost", "letter", "left"]
theorem sc_Order__ways : FnScope n_Order__ways ["self", "counts", "cost", "letter"] (defScope s_Order__ways) := ⟨rfl, rfl, rfl, by decide +kernel, rfl, by decide +kernel, by decide +kernel⟩
def d_Order__ways : He.DefD := ⟨("Order", some "_ways"), "_ways", "Order._ways", defArgs s_Order__ways, defBody s_Order__ways, defScope s_Order__ways, [], []⟩
abbrev s_divisor_of : Stmt := top 19
abbrev n_divisor_of : List Str := ["numbers", "divisor", "number"]
theorem sc_divisor_of : FnScope n_divisor_of ["numbers"] (defScope s_divisor_of) := ⟨rfl, rfl, rfl, by decide +kernel, rfl, by decide +kernel, by decide +kernel⟩
def d_divisor_of : He.DefD := ⟨("divisor_of", none), "divisor_of", "divisor_of", defArgs s_divisor_of, defBody s_divisor_of, defScope s_divisor_of, [], []⟩
abbrev s_few_costs : Stmt := top 20
abbrev n_few_costs : List Str := ["steps", "few", "cost", "step"]
theorem sc_few_costs : FnScope n_few_costs ["steps"] (defScope s_few_costs) := ⟨rfl, rfl, rfl, by decide +kernel, rfl, by decide +kernel, by decide +kernel⟩
def d_few_costs : He.DefD := ⟨("few_costs", none), "few_costs", "few_costs", defArgs s_few_costs, defBody s_few_costs, defScope s_few_costs, [], []⟩
abbrev s_Order_latest : Stmt := inClass (top 18) 4
abbrev n_Order_latest : List Str := ["self", "greatest", "letter"]
theorem sc_Order_latest : FnScope n_Order_latest ["self"] (defScope s_Order_latest) := ⟨rfl, rfl, rfl, by decide +kernel, rfl, by decide +kernel, by decide +kernel⟩
abbrev s__law_pen : Stmt := top 22
abbrev n__law_pen : List Str := ["_law_script"]
theorem sc__law_pen : FnScope n__law_pen ["_law_script"] (defScope s__law_pen) := ⟨rfl, rfl, rfl, by decide +kernel, rfl, by decide +kernel, by decide +kernel⟩
def d__law_pen : He.DefD := ⟨("_law_pen", none), "_law_pen", "_law_pen", defArgs s__law_pen, defBody s__law_pen, defScope s__law_pen, [], []⟩
abbrev s__law_draw : Stmt := top 23
abbrev n__law_draw : List Str := ["_law_pen_here", "_law_many", "_law_digit", "_law_place", "_law_cell", "_law_mixed", "_law_drawn"]
theorem sc__law_draw : FnScope n__law_draw ["_law_pen_here", "_law_many"] (defScope s__law_draw) := ⟨rfl, rfl, rfl, by decide +kernel, rfl, by decide +kernel, by decide +kernel⟩
def d__law_draw : He.DefD := ⟨("_law_draw", none), "_law_draw", "_law_draw", defArgs s__law_draw, defBody s__law_draw, defScope s__law_draw, [], []⟩
abbrev s__law_pick : Stmt := top 24
abbrev n__law_pick : List Str := ["_law_pen_here", "_law_options"]
theorem sc__law_pick : FnScope n__law_pick ["_law_pen_here", "_law_options"] (defScope s__law_pick) := ⟨rfl, rfl, rfl, by decide +kernel, rfl, by decide +kernel, by decide +kernel⟩
def d__law_pick : He.DefD := ⟨("_law_pick", none), "_law_pick", "_law_pick", defArgs s__law_pick, defBody s__law_pick, defScope s__law_pick, [], []⟩
abbrev s__law_shuffled : Stmt := top 25
abbrev n__law_shuffled : List Str := ["_law_pen_here", "_law_items", "_law_rest", "_law_found"]
theorem sc__law_shuffled : FnScope n__law_shuffled ["_law_pen_here", "_law_items"] (defScope s__law_shuffled) := ⟨rfl, rfl, rfl, by decide +kernel, rfl, by decide +kernel, by decide +kernel⟩
def d__law_shuffled : He.DefD := ⟨("_law_shuffled", none), "_law_shuffled", "_law_shuffled", defArgs s__law_shuffled, defBody s__law_shuffled, defScope s__law_shuffled, [], []⟩
abbrev s__law_letters : Stmt := top 26
abbrev n__law_letters : List Str := ["_law_pen_here", "_law_most", "_law_places", "_law_place"]
theorem sc__law_letters : FnScope n__law_letters ["_law_pen_here", "_law_most"] (defScope s__law_letters) := ⟨rfl, rfl, rfl, by decide +kernel, rfl, by decide +kernel, by decide +kernel⟩
def d__law_letters : He.DefD := ⟨("_law_letters", none), "_law_letters", "_law_letters", defArgs s__law_letters, defBody s__law_letters, defScope s__law_letters, [], []⟩
abbrev s__law_costs : Stmt := top 27
abbrev n__law_costs : List Str := ["_law_pen_here", "_law_letters_here", "_law_letter"]
theorem sc__law_costs : FnScope n__law_costs ["_law_pen_here", "_law_letters_here"] (defScope s__law_costs) := ⟨rfl, rfl, rfl, by decide +kernel, rfl, by decide +kernel, by decide +kernel⟩
def d__law_costs : He.DefD := ⟨("_law_costs", none), "_law_costs", "_law_costs", defArgs s__law_costs, defBody s__law_costs, defScope s__law_costs, [], []⟩
abbrev s__law_first_words : Stmt := top 28
abbrev n__law_first_words : List Str := ["_law_costs_here", "_law_many", "_law_by_cost", "_law_found", "_law_cost", "_law_here", "_law_letter", "_law_word"]
theorem sc__law_first_words : FnScope n__law_first_words ["_law_costs_here", "_law_many"] (defScope s__law_first_words) := ⟨rfl, rfl, rfl, by decide +kernel, rfl, by decide +kernel, by decide +kernel⟩
def d__law_first_words : He.DefD := ⟨("_law_first_words", none), "_law_first_words", "_law_first_words", defArgs s__law_first_words, defBody s__law_first_words, defScope s__law_first_words, [], []⟩
abbrev s__law_cost_of : Stmt := top 29
abbrev n__law_cost_of : List Str := ["_law_costs_here", "_law_word", "_law_letter"]
theorem sc__law_cost_of : FnScope n__law_cost_of ["_law_costs_here", "_law_word"] (defScope s__law_cost_of) := ⟨rfl, rfl, rfl, by decide +kernel, rfl, by decide +kernel, by decide +kernel⟩
def d__law_cost_of : He.DefD := ⟨("_law_cost_of", none), "_law_cost_of", "_law_cost_of", defArgs s__law_cost_of, defBody s__law_cost_of, defScope s__law_cost_of, [], []⟩
abbrev s__law_lettered : Stmt := top 30
abbrev n__law_lettered : List Str := ["_law_pen_here", "_law_most"]
theorem sc__law_lettered : FnScope n__law_lettered ["_law_pen_here", "_law_most"] (defScope s__law_lettered) := ⟨rfl, rfl, rfl, by decide +kernel, rfl, by decide +kernel, by decide +kernel⟩
def d__law_lettered : He.DefD := ⟨("_law_lettered", none), "_law_lettered", "_law_lettered", defArgs s__law_lettered, defBody s__law_lettered, defScope s__law_lettered, [], []⟩
abbrev s__law_made_order : Stmt := top 31
abbrev n__law_made_order : List Str := ["_law_pen_here", "_law_costs_here", "_law_letter"]
theorem sc__law_made_order : FnScope n__law_made_order ["_law_pen_here", "_law_costs_here"] (defScope s__law_made_order) := ⟨rfl, rfl, rfl, by decide +kernel, rfl, by decide +kernel, by decide +kernel⟩
def d__law_made_order : He.DefD := ⟨("_law_made_order", none), "_law_made_order", "_law_made_order", defArgs s__law_made_order, defBody s__law_made_order, defScope s__law_made_order, [], []⟩
abbrev s__law_far_right : Stmt := top 32
abbrev n__law_far_right : List Str := ["_law_order", "_law_due", "_law_last", "_law_word", "_law_k", "_law_both", "_law_other"]
theorem sc__law_far_right : FnScope n__law_far_right ["_law_order", "_law_due"] (defScope s__law_far_right) := ⟨rfl, rfl, rfl, by decide +kernel, rfl, by decide +kernel, by decide +kernel⟩
def d__law_far_right : He.DefD := ⟨("_law_far_right", none), "_law_far_right", "_law_far_right", defArgs s__law_far_right, defBody s__law_far_right, defScope s__law_far_right, [], []⟩
abbrev s_law : Stmt := top 33
abbrev n_law : List Str := ["_law_script", "_law_pen_here", "_law_turn", "_law_costs_here", "_law_order", "_law_due", "_law_word", "_law_k", "_law_at", "_law_end", "_law_sums", "_law_cost", "_law_place"]
theorem sc_law : FnScope n_law ["_law_script"] (defScope s_law) := ⟨rfl, rfl, rfl, by decide +kernel, rfl, by decide +kernel, by decide +kernel⟩
def d_law : He.DefD := ⟨("law", none), "law", "law", defArgs s_law, defBody s_law, defScope s_law, [], []⟩
abbrev s_is_word : Stmt := top 8
abbrev n_is_word : List Str := ["value", "letters"]
theorem sc_is_word : FnScope n_is_word ["value", "letters"] (defScope s_is_word) := ⟨rfl, rfl, rfl, by decide +kernel, rfl, by decide +kernel, by decide +kernel⟩
def d_is_word : He.DefD := ⟨("is_word", none), "is_word", "is_word", defArgs s_is_word, defBody s_is_word, defScope s_is_word, [], []⟩
abbrev s_Order__check : Stmt := inClass (top 18) 19
abbrev n_Order__check : List Str := ["self", "values", "value"]
theorem sc_Order__check : FnScope n_Order__check ["self", "values"] (defScope s_Order__check) := ⟨rfl, rfl, rfl, by decide +kernel, rfl, by decide +kernel, by decide +kernel⟩
def d_Order__check : He.DefD := ⟨("Order", some "_check"), "_check", "Order._check", defArgs s_Order__check, defBody s_Order__check, defScope s_Order__check, [], []⟩
abbrev s_Order__cost_of : Stmt := inClass (top 18) 20
abbrev n_Order__cost_of : List Str := ["self", "word", "letter"]
theorem sc_Order__cost_of : FnScope n_Order__cost_of ["self", "word"] (defScope s_Order__cost_of) := ⟨rfl, rfl, rfl, by decide +kernel, rfl, by decide +kernel, by decide +kernel⟩
def d_Order__cost_of : He.DefD := ⟨("Order", some "_cost_of"), "_cost_of", "Order._cost_of", defArgs s_Order__cost_of, defBody s_Order__cost_of, defScope s_Order__cost_of, [], []⟩
abbrev s_Order_place_of : Stmt := inClass (top 18) 10
abbrev n_Order_place_of : List Str := ["self", "word"]
theorem sc_Order_place_of : FnScope n_Order_place_of ["self", "word"] (defScope s_Order_place_of) := ⟨rfl, rfl, rfl, by decide +kernel, rfl, by decide +kernel, by decide +kernel⟩
def d_Order_place_of : He.DefD := ⟨("Order", some "place_of"), "place_of", "Order.place_of", defArgs s_Order_place_of, defBody s_Order_place_of, defScope s_Order_place_of, [], []⟩
abbrev s_Order_after : Stmt := inClass (top 18) 14
abbrev n_Order_after : List Str := ["self", "word"]
theorem sc_Order_after : FnScope n_Order_after ["self", "word"] (defScope s_Order_after) := ⟨rfl, rfl, rfl, by decide +kernel, rfl, by decide +kernel, by decide +kernel⟩
def d_Order_after : He.DefD := ⟨("Order", some "after"), "after", "Order.after", defArgs s_Order_after, defBody s_Order_after, defScope s_Order_after, [], []⟩
abbrev s_Order_before : Stmt := inClass (top 18) 15
abbrev n_Order_before : List Str := ["self", "word"]
theorem sc_Order_before : FnScope n_Order_before ["self", "word"] (defScope s_Order_before) := ⟨rfl, rfl, rfl, by decide +kernel, rfl, by decide +kernel, by decide +kernel⟩
def d_Order_before : He.DefD := ⟨("Order", some "before"), "before", "Order.before", defArgs s_Order_before, defBody s_Order_before, defScope s_Order_before, [], []⟩
abbrev s_Order_count_words : Stmt := inClass (top 18) 16
abbrev n_Order_count_words : List Str := ["self", "cost"]
theorem sc_Order_count_words : FnScope n_Order_count_words ["self", "cost"] (defScope s_Order_count_words) := ⟨rfl, rfl, rfl, by decide +kernel, rfl, by decide +kernel, by decide +kernel⟩
def d_Order_count_words : He.DefD := ⟨("Order", some "count_words"), "count_words", "Order.count_words", defArgs s_Order_count_words, defBody s_Order_count_words, defScope s_Order_count_words, [], []⟩
abbrev s_Order__has_words : Stmt := inClass (top 18) 25
abbrev n_Order__has_words : List Str := ["self", "cost"]
theorem sc_Order__has_words : FnScope n_Order__has_words ["self", "cost"] (defScope s_Order__has_words) := ⟨rfl, rfl, rfl, by decide +kernel, rfl, by decide +kernel, by decide +kernel⟩
def d_Order__has_words : He.DefD := ⟨("Order", some "_has_words"), "_has_words", "Order._has_words", defArgs s_Order__has_words, defBody s_Order__has_words, defScope s_Order__has_words, [], []⟩
abbrev s_Order__neighbour : Stmt := inClass (top 18) 26
abbrev n_Order__neighbour : List Str := ["self", "word", "letters", "step", "rest", "at", "letter", "left"]
theorem sc_Order__neighbour : FnScope n_Order__neighbour ["self", "word", "letters", "step"] (defScope s_Order__neighbour) := ⟨rfl, rfl, rfl, by decide +kernel, rfl, by decide +kernel, by decide +kernel⟩
def d_Order__neighbour : He.DefD := ⟨("Order", some "_neighbour"), "_neighbour", "Order._neighbour", defArgs s_Order__neighbour, defBody s_Order__neighbour, defScope s_Order__neighbour, [], []⟩
abbrev s_Order__outermost : Stmt := inClass (top 18) 27
abbrev n_Order__outermost : List Str := ["self", "cost", "letters", "found", "letter"]
theorem sc_Order__outermost : FnScope n_Order__outermost ["self", "cost", "letters"] (defScope s_Order__outermost) := ⟨rfl, rfl, rfl, by decide +kernel, rfl, by decide +kernel, by decide +kernel⟩
def d_Order__outermost : He.DefD := ⟨("Order", some "_outermost"), "_outermost", "Order._outermost", defArgs s_Order__outermost, defBody s_Order__outermost, defScope s_Order__outermost, [], []⟩
abbrev s_Order_words : Stmt := inClass (top 18) 17
abbrev n_Order_words : List Str := ["self", "word"]
theorem sc_Order_words : GScope n_Order_words ["self", "word"] (defScope s_Order_words) := ⟨rfl, rfl, rfl, by decide +kernel, rfl, by decide +kernel, by decide +kernel⟩
def d_Order_words : He.DefD := ⟨("Order", some "words"), "words", "Order.words", defArgs s_Order_words, defBody s_Order_words, defScope s_Order_words, [.str ""], []⟩
abbrev s_Order_spread : Stmt := inClass (top 18) 18
abbrev n_Order_spread : List Str := ["self", "first", "last", "word"]
theorem sc_Order_spread : GScope n_Order_spread ["self", "first", "last"] (defScope s_Order_spread) := ⟨rfl, rfl, rfl, by decide +kernel, rfl, by decide +kernel, by decide +kernel⟩
def d_Order_spread : He.DefD := ⟨("Order", some "spread"), "spread", "Order.spread", defArgs s_Order_spread, defBody s_Order_spread, defScope s_Order_spread, [], []⟩
def fn : List He.DefD := [d_is_integer, d_is_between, d_is_letters, d_Order___init__, d_Order__next_count, d_Order__counts, d_Order__ways, d_divisor_of, d_few_costs, d__law_pen, d__law_draw, d__law_pick, d__law_shuffled, d__law_letters, d__law_costs, d__law_first_words, d__law_cost_of, d__law_lettered, d__law_made_order, d__law_far_right, d_law, d_is_word, d_Order__check, d_Order__cost_of, d_Order_place_of, d_Order_after, d_Order_before, d_Order_count_words, d_Order__has_words, d_Order__neighbour, d_Order__outermost, d_Order_words, d_Order_spread]
section
variable {P : Program} {w : World} {K : PySem.W.Frag} {fa : List He.Fa} {mg : Str → Option Value} {base : Heap} {k : Nat} {sp : Sp}
theorem mk_is_integer (S : He.SaysD fa fn K) (len : ∀ vs H Q E, sp vs H Q E → vs.length = 1)
    (hb : ∀ (cdv : Value) (A : Around) (outer : List Env) (s : Shared) (H : Hp) (vs : List V) (Q : VK) (E : XK), A.guards = some [] → Room k (A.deeper (envOfC "is_integer" (defScope s_is_integer) s.heap.objs.size (He.ga K "is_integer") cdv)) → sp vs H Q E →
      ∃ t, PSs (cxOf CX0 P w K mg base n_is_integer "is_integer" (defScope s_is_integer) (He.ga K "is_integer") cdv A outer s H E).nox (defBody s_is_integer) t ∧ t { nx := fun _ H' => Q .non H', rt := Q } (start n_is_integer vs) H) : FnG P w K mg base CX0 (k + 1) (He.ga K "is_integer") sp := by
  obtain ⟨fd, F⟩ := S.def_ 0 (d := d_is_integer) rfl
  exact ok0 F sc_is_integer (F.bindsA fun _ _ _ _ _ _ us hl => match us, hl with | [_], _ => rfl) len hb
theorem kp_is_integer (S : He.SaysD fa fn K) : PySem.W.keepIn K (.ref (He.ga K "is_integer")) = true := by
  obtain ⟨fd, F⟩ := S.def_ 0 (d := d_is_integer) rfl
  exact F.kp
theorem mk_is_between (S : He.SaysD fa fn K) (len : ∀ vs H Q E, sp vs H Q E → vs.length = 3)
    (hb : ∀ (cdv : Value) (A : Around) (outer : List Env) (s : Shared) (H : Hp) (vs : List V) (Q : VK) (E : XK), A.guards = some [] → Room k (A.deeper (envOfC "is_between" (defScope s_is_between) s.heap.objs.size (He.ga K "is_between") cdv)) → sp vs H Q E →
      ∃ t, PSs (cxOf CX0 P w K mg base n_is_between "is_between" (defScope s_is_between) (He.ga K "is_between") cdv A outer s H E).nox (defBody s_is_between) t ∧ t { nx := fun _ H' => Q .non H', rt := Q } (start n_is_between vs) H) : FnG P w K mg base CX0 (k + 1) (He.ga K "is_between") sp := by
  obtain ⟨fd, F⟩ := S.def_ 1 (d := d_is_between) rfl
  exact ok0 F sc_is_between (F.bindsA fun _ _ _ _ _ _ us hl => match us, hl with | [_, _, _], _ => rfl) len hb
theorem kp_is_between (S : He.SaysD fa fn K) : PySem.W.keepIn K (.ref (He.ga K "is_between")) = true := by
  obtain ⟨fd, F⟩ := S.def_ 1 (d := d_is_between) rfl
  exact F.kp
theorem mk_is_letters (S : He.SaysD fa fn K) (len : ∀ vs H Q E, sp vs H Q E → vs.length = 1)
    (hb : ∀ (cdv : Value) (A : Around) (outer : List Env) (s : Shared) (H : Hp) (vs : List V) (Q : VK) (E : XK), A.guards = some [] → Room k (A.deeper (envOfC "is_letters" (defScope s_is_letters) s.heap.objs.size (He.ga K "is_letters") cdv)) → sp vs H Q E →
      ∃ t, PSs (cxOf CX0 P w K mg base n_is_letters "is_letters" (defScope s_is_letters) (He.ga K "is_letters") cdv A outer s H E).nox (defBody s_is_letters) t ∧ t { nx := fun _ H' => Q .non H', rt := Q } (start n_is_letters vs) H) : FnG P w K mg base CX0 (k + 1) (He.ga K "is_letters") sp := by
  obtain ⟨fd, F⟩ := S.def_ 2 (d := d_is_letters) rfl
  exact ok0 F sc_is_letters (F.bindsA fun _ _ _ _ _ _ us hl => match us, hl with | [_], _ => rfl) len hb
theorem kp_is_letters (S : He.SaysD fa fn K) : PySem.W.keepIn K (.ref (He.ga K "is_letters")) = true := by
  obtain ⟨fd, F⟩ := S.def_ 2 (d := d_is_letters) rfl
  exact F.kp
theorem kp_Order___init__ (S : He.SaysD fa fn K) : PySem.W.keepIn K (.ref (He.ma K (He.ga K "Order") "__init__")) = true := by
  obtain ⟨fd, F⟩ := S.def_ 3 (d := d_Order___init__) rfl
  exact F.kp
theorem mk_Order__next_count (S : He.SaysD fa fn K) (len : ∀ vs H Q E, sp vs H Q E → vs.length = 2)
    (hb : ∀ (cdv : Value) (A : Around) (outer : List Env) (s : Shared) (H : Hp) (vs : List V) (Q : VK) (E : XK), A.guards = some [] → Room k (A.deeper (envOfC "Order._next_count" (defScope s_Order__next_count) s.heap.objs.size (He.ma K (He.ga K "Order") "_next_count") cdv)) → sp vs H Q E →
      ∃ t, PSs (cxOf CX0 P w K mg base n_Order__next_count "Order._next_count" (defScope s_Order__next_count) (He.ma K (He.ga K "Order") "_next_count") cdv A outer s H E).nox (defBody s_Order__next_count) t ∧ t { nx := fun _ H' => Q .non H', rt := Q } (start n_Order__next_count vs) H) : FnG P w K mg base CX0 (k + 1) (He.ma K (He.ga K "Order") "_next_count") sp := by
  obtain ⟨fd, F⟩ := S.def_ 4 (d := d_Order__next_count) rfl
  exact ok0 F sc_Order__next_count (F.bindsA fun _ _ _ _ _ _ us hl => match us, hl with | [_, _], _ => rfl) len hb
theorem kp_Order__next_count (S : He.SaysD fa fn K) : PySem.W.keepIn K (.ref (He.ma K (He.ga K "Order") "_next_count")) = true := by
  obtain ⟨fd, F⟩ := S.def_ 4 (d := d_Order__next_count) rfl
  exact F.kp
theorem mk_Order__counts (S : He.SaysD fa fn K) (len : ∀ vs H Q E, sp vs H Q E → vs.length = 2)
    (hb : ∀ (cdv : Value) (A : Around) (outer : List Env) (s : Shared) (H : Hp) (vs : List V) (Q : VK) (E : XK), A.guards = some [] → Room k (A.deeper (envOfC "Order._counts" (defScope s_Order__counts) s.heap.objs.size (He.ma K (He.ga K "Order") "_counts") cdv)) → sp vs H Q E →
      ∃ t, PSs (cxOf CX0 P w K mg base n_Order__counts "Order._counts" (defScope s_Order__counts) (He.ma K (He.ga K "Order") "_counts") cdv A outer s H E).nox (defBody s_Order__counts) t ∧ t { nx := fun _ H' => Q .non H', rt := Q } (start n_Order__counts vs) H) : FnG P w K mg base CX0 (k + 1) (He.ma K (He.ga K "Order") "_counts") sp := by
  obtain ⟨fd, F⟩ := S.def_ 5 (d := d_Order__counts) rfl
  exact ok0 F sc_Order__counts (F.bindsA fun _ _ _ _ _ _ us hl => match us, hl with | [_, _], _ => rfl) len hb
theorem kp_Order__counts (S : He.SaysD fa fn K) : PySem.W.keepIn K (.ref (He.ma K (He.ga K "Order") "_counts")) = true := by
  obtain ⟨fd, F⟩ := S.def_ 5 (d := d_Order__counts) rfl
  exact F.kp
theorem mk_Order__ways (S : He.SaysD fa fn K) (len : ∀ vs H Q E, sp vs H Q E → vs.length = 4)
    (hb : ∀ (cdv : Value) (A : Around) (outer : List Env) (s : Shared) (H : Hp) (vs : List V) (Q : VK) (E : XK), A.guards = some [] → Room k (A.deeper (envOfC "Order._ways" (defScope s_Order__ways) s.heap.objs.size (He.ma K (He.ga K "Order") "_ways") cdv)) → sp vs H Q E →
      ∃ t, PSs (cxOf CX0 P w K mg base n_Order__ways "Order._ways" (defScope s_Order__ways) (He.ma K (He.ga K "Order") "_ways") cdv A outer s H E).nox (defBody s_Order__ways) t ∧ t { nx := fun _ H' => Q .non H', rt := Q } (start n_Order__ways vs) H) : FnG P w K mg base CX0 (k + 1) (He.ma K (He.ga K "Order") "_ways") sp := by
  obtain ⟨fd, F⟩ := S.def_ 6 (d := d_Order__ways) rfl
  exact ok0 F sc_Order__ways (F.bindsA fun _ _ _ _ _ _ us hl => match us, hl with | [_, _, _, _], _ => rfl) len hb
theorem kp_Order__ways (S : He.SaysD fa fn K) : PySem.W.keepIn K (.ref (He.ma K (He.ga K "Order") "_ways")) = true := by
  obtain ⟨fd, F⟩ := S.def_ 6 (d := d_Order__ways) rfl
  exact F.kp
theorem mk_divisor_of (S : He.SaysD fa fn K) (len : ∀ vs H Q E, sp vs H Q E → vs.length = 1)
    (hb : ∀ (cdv : Value) (A : Around) (outer : List Env) (s : Shared) (H : Hp) (vs : List V) (Q : VK) (E : XK), A.guards = some [] → Room k (A.deeper (envOfC "divisor_of" (defScope s_divisor_of) s.heap.objs.size (He.ga K "divisor_of") cdv)) → sp vs H Q E →
      ∃ t, PSs (cxOf CX0 P w K mg base n_divisor_of "divisor_of" (defScope s_divisor_of) (He.ga K "divisor_of") cdv A outer s H E).nox (defBody s_divisor_of) t ∧ t { nx := fun _ H' => Q .non H', rt := Q } (start n_divisor_of vs) H) : FnG P w K mg base CX0 (k + 1) (He.ga K "divisor_of") sp := by
  obtain ⟨fd, F⟩ := S.def_ 7 (d := d_divisor_of) rfl
  exact ok0 F sc_divisor_of (F.bindsA fun _ _ _ _ _ _ us hl => match us, hl with | [_], _ => rfl) len hb
theorem kp_divisor_of (S : He.SaysD fa fn K) : PySem.W.keepIn K (.ref (He.ga K "divisor_of")) = true := by
  obtain ⟨fd, F⟩ := S.def_ 7 (d := d_divisor_of) rfl
  exact F.kp
theorem mk_few_costs (S : He.SaysD fa fn K) (len : ∀ vs H Q E, sp vs H Q E → vs.length = 1)
    (hb : ∀ (cdv : Value) (A : Around) (outer : List Env) (s : Shared) (H : Hp) (vs : List V) (Q : VK) (E : XK), A.guards = some [] → Room k (A.deeper (envOfC "few_costs" (defScope s_few_costs) s.heap.objs.size (He.ga K "few_costs") cdv)) → sp vs H Q E →
      ∃ t, PSs (cxOf CX0 P w K mg base n_few_costs "few_costs" (defScope s_few_costs) (He.ga K "few_costs") cdv A outer s H E).nox (defBody s_few_costs) t ∧ t { nx := fun _ H' => Q .non H', rt := Q } (start n_few_costs vs) H) : FnG P w K mg base CX0 (k + 1) (He.ga K "few_costs") sp := by
  obtain ⟨fd, F⟩ := S.def_ 8 (d := d_few_costs) rfl
  exact ok0 F sc_few_costs (F.bindsA fun _ _ _ _ _ _ us hl => match us, hl with | [_], _ => rfl) len hb
theorem kp_few_costs (S : He.SaysD fa fn K) : PySem.W.keepIn K (.ref (He.ga K "few_costs")) = true := by
  obtain ⟨fd, F⟩ := S.def_ 8 (d := d_few_costs) rfl
  exact F.kp
theorem mk__law_pen (S : He.SaysD fa fn K) (len : ∀ vs H Q E, sp vs H Q E → vs.length = 1)
    (hb : ∀ (cdv : Value) (A : Around) (outer : List Env) (s : Shared) (H : Hp) (vs : List V) (Q : VK) (E : XK), A.guards = some [] → Room k (A.deeper (envOfC "_law_pen" (defScope s__law_pen) s.heap.objs.size (He.ga K "_law_pen") cdv)) → sp vs H Q E →
      ∃ t, PSs (cxOf CX0 P w K mg base n__law_pen "_law_pen" (defScope s__law_pen) (He.ga K "_law_pen") cdv A outer s H E).nox (defBody s__law_pen) t ∧ t { nx := fun _ H' => Q .non H', rt := Q } (start n__law_pen vs) H) : FnG P w K mg base CX0 (k + 1) (He.ga K "_law_pen") sp := by
  obtain ⟨fd, F⟩ := S.def_ 9 (d := d__law_pen) rfl
  exact ok0 F sc__law_pen (F.bindsA fun _ _ _ _ _ _ us hl => match us, hl with | [_], _ => rfl) len hb
theorem kp__law_pen (S : He.SaysD fa fn K) : PySem.W.keepIn K (.ref (He.ga K "_law_pen")) = true := by
  obtain ⟨fd, F⟩ := S.def_ 9 (d := d__law_pen) rfl
  exact F.kp
theorem mk__law_draw (S : He.SaysD fa fn K) (len : ∀ vs H Q E, sp vs H Q E → vs.length = 2)
    (hb : ∀ (cdv : Value) (A : Around) (outer : List Env) (s : Shared) (H : Hp) (vs : List V) (Q : VK) (E : XK), A.guards = some [] → Room k (A.deeper (envOfC "_law_draw" (defScope s__law_draw) s.heap.objs.size (He.ga K "_law_draw") cdv)) → sp vs H Q E →
      ∃ t, PSs (cxOf CX0 P w K mg base n__law_draw "_law_draw" (defScope s__law_draw) (He.ga K "_law_draw") cdv A outer s H E).nox (defBody s__law_draw) t ∧ t { nx := fun _ H' => Q .non H', rt := Q } (start n__law_draw vs) H) : FnG P w K mg base CX0 (k + 1) (He.ga K "_law_draw") sp := by
  obtain ⟨fd, F⟩ := S.def_ 10 (d := d__law_draw) rfl
  exact ok0 F sc__law_draw (F.bindsA fun _ _ _ _ _ _ us hl => match us, hl with | [_, _], _ => rfl) len hb
theorem kp__law_draw (S : He.SaysD fa fn K) : PySem.W.keepIn K (.ref (He.ga K "_law_draw")) = true := by
  obtain ⟨fd, F⟩ := S.def_ 10 (d := d__law_draw) rfl
  exact F.kp
theorem mk__law_pick (S : He.SaysD fa fn K) (len : ∀ vs H Q E, sp vs H Q E → vs.length = 2)
    (hb : ∀ (cdv : Value) (A : Around) (outer : List Env) (s : Shared) (H : Hp) (vs : List V) (Q : VK) (E : XK), A.guards = some [] → Room k (A.deeper (envOfC "_law_pick" (defScope s__law_pick) s.heap.objs.size (He.ga K "_law_pick") cdv)) → sp vs H Q E →
      ∃ t, PSs (cxOf CX0 P w K mg base n__law_pick "_law_pick" (defScope s__law_pick) (He.ga K "_law_pick") cdv A outer s H E).nox (defBody s__law_pick) t ∧ t { nx := fun _ H' => Q .non H', rt := Q } (start n__law_pick vs) H) : FnG P w K mg base CX0 (k + 1) (He.ga K "_law_pick") sp := by
  obtain ⟨fd, F⟩ := S.def_ 11 (d := d__law_pick) rfl
  exact ok0 F sc__law_pick (F.bindsA fun _ _ _ _ _ _ us hl => match us, hl with | [_, _], _ => rfl) len hb
theorem kp__law_pick (S : He.SaysD fa fn K) : PySem.W.keepIn K (.ref (He.ga K "_law_pick")) = true := by
  obtain ⟨fd, F⟩ := S.def_ 11 (d := d__law_pick) rfl
  exact F.kp
theorem mk__law_shuffled (S : He.SaysD fa fn K) (len : ∀ vs H Q E, sp vs H Q E → vs.length = 2)
    (hb : ∀ (cdv : Value) (A : Around) (outer : List Env) (s : Shared) (H : Hp) (vs : List V) (Q : VK) (E : XK), A.guards = some [] → Room k (A.deeper (envOfC "_law_shuffled" (defScope s__law_shuffled) s.heap.objs.size (He.ga K "_law_shuffled") cdv)) → sp vs H Q E →
      ∃ t, PSs (cxOf CX0 P w K mg base n__law_shuffled "_law_shuffled" (defScope s__law_shuffled) (He.ga K "_law_shuffled") cdv A outer s H E).nox (defBody s__law_shuffled) t ∧ t { nx := fun _ H' => Q .non H', rt := Q } (start n__law_shuffled vs) H) : FnG P w K mg base CX0 (k + 1) (He.ga K "_law_shuffled") sp := by
  obtain ⟨fd, F⟩ := S.def_ 12 (d := d__law_shuffled) rfl
  exact ok0 F sc__law_shuffled (F.bindsA fun _ _ _ _ _ _ us hl => match us, hl with | [_, _], _ => rfl) len hb
theorem kp__law_shuffled (S : He.SaysD fa fn K) : PySem.W.keepIn K (.ref (He.ga K "_law_shuffled")) = true := by
  obtain ⟨fd, F⟩ := S.def_ 12 (d := d__law_shuffled) rfl
  exact F.kp
theorem mk__law_letters (S : He.SaysD fa fn K) (len : ∀ vs H Q E, sp vs H Q E → vs.length = 2)
    (hb : ∀ (cdv : Value) (A : Around) (outer : List Env) (s : Shared) (H : Hp) (vs : List V) (Q : VK) (E : XK), A.guards = some [] → Room k (A.deeper (envOfC "_law_letters" (defScope s__law_letters) s.heap.objs.size (He.ga K "_law_letters") cdv)) → sp vs H Q E →
      ∃ t, PSs (cxOf CX0 P w K mg base n__law_letters "_law_letters" (defScope s__law_letters) (He.ga K "_law_letters") cdv A outer s H E).nox (defBody s__law_letters) t ∧ t { nx := fun _ H' => Q .non H', rt := Q } (start n__law_letters vs) H) : FnG P w K mg base CX0 (k + 1) (He.ga K "_law_letters") sp := by
  obtain ⟨fd, F⟩ := S.def_ 13 (d := d__law_letters) rfl
  exact ok0 F sc__law_letters (F.bindsA fun _ _ _ _ _ _ us hl => match us, hl with | [_, _], _ => rfl) len hb
theorem kp__law_letters (S : He.SaysD fa fn K) : PySem.W.keepIn K (.ref (He.ga K "_law_letters")) = true := by
  obtain ⟨fd, F⟩ := S.def_ 13 (d := d__law_letters) rfl
  exact F.kp
theorem mk__law_costs (S : He.SaysD fa fn K) (len : ∀ vs H Q E, sp vs H Q E → vs.length = 2)
    (hb : ∀ (cdv : Value) (A : Around) (outer : List Env) (s : Shared) (H : Hp) (vs : List V) (Q : VK) (E : XK), A.guards = some [] → Room k (A.deeper (envOfC "_law_costs" (defScope s__law_costs) s.heap.objs.size (He.ga K "_law_costs") cdv)) → sp vs H Q E →
      ∃ t, PSs (cxOf CX0 P w K mg base n__law_costs "_law_costs" (defScope s__law_costs) (He.ga K "_law_costs") cdv A outer s H E).nox (defBody s__law_costs) t ∧ t { nx := fun _ H' => Q .non H', rt := Q } (start n__law_costs vs) H) : FnG P w K mg base CX0 (k + 1) (He.ga K "_law_costs") sp := by
  obtain ⟨fd, F⟩ := S.def_ 14 (d := d__law_costs) rfl
  exact ok0 F sc__law_costs (F.bindsA fun _ _ _ _ _ _ us hl => match us, hl with | [_, _], _ => rfl) len hb
theorem kp__law_costs (S : He.SaysD fa fn K) : PySem.W.keepIn K (.ref (He.ga K "_law_costs")) = true := by
  obtain ⟨fd, F⟩ := S.def_ 14 (d := d__law_costs) rfl
  exact F.kp
theorem mk__law_first_words (S : He.SaysD fa fn K) (len : ∀ vs H Q E, sp vs H Q E → vs.length = 2)
    (hb : ∀ (cdv : Value) (A : Around) (outer : List Env) (s : Shared) (H : Hp) (vs : List V) (Q : VK) (E : XK), A.guards = some [] → Room k (A.deeper (envOfC "_law_first_words" (defScope s__law_first_words) s.heap.objs.size (He.ga K "_law_first_words") cdv)) → sp vs H Q E →
      ∃ t, PSs (cxOf CX0 P w K mg base n__law_first_words "_law_first_words" (defScope s__law_first_words) (He.ga K "_law_first_words") cdv A outer s H E).nox (defBody s__law_first_words) t ∧ t { nx := fun _ H' => Q .non H', rt := Q } (start n__law_first_words vs) H) : FnG P w K mg base CX0 (k + 1) (He.ga K "_law_first_words") sp := by
  obtain ⟨fd, F⟩ := S.def_ 15 (d := d__law_first_words) rfl
  exact ok0 F sc__law_first_words (F.bindsA fun _ _ _ _ _ _ us hl => match us, hl with | [_, _], _ => rfl) len hb
theorem kp__law_first_words (S : He.SaysD fa fn K) : PySem.W.keepIn K (.ref (He.ga K "_law_first_words")) = true := by
  obtain ⟨fd, F⟩ := S.def_ 15 (d := d__law_first_words) rfl
  exact F.kp
theorem mk__law_cost_of (S : He.SaysD fa fn K) (len : ∀ vs H Q E, sp vs H Q E → vs.length = 2)
    (hb : ∀ (cdv : Value) (A : Around) (outer : List Env) (s : Shared) (H : Hp) (vs : List V) (Q : VK) (E : XK), A.guards = some [] → Room k (A.deeper (envOfC "_law_cost_of" (defScope s__law_cost_of) s.heap.objs.size (He.ga K "_law_cost_of") cdv)) → sp vs H Q E →
      ∃ t, PSs (cxOf CX0 P w K mg base n__law_cost_of "_law_cost_of" (defScope s__law_cost_of) (He.ga K "_law_cost_of") cdv A outer s H E).nox (defBody s__law_cost_of) t ∧ t { nx := fun _ H' => Q .non H', rt := Q } (start n__law_cost_of vs) H) : FnG P w K mg base CX0 (k + 1) (He.ga K "_law_cost_of") sp := by
  obtain ⟨fd, F⟩ := S.def_ 16 (d := d__law_cost_of) rfl
  exact ok0 F sc__law_cost_of (F.bindsA fun _ _ _ _ _ _ us hl => match us, hl with | [_, _], _ => rfl) len hb
theorem kp__law_cost_of (S : He.SaysD fa fn K) : PySem.W.keepIn K (.ref (He.ga K "_law_cost_of")) = true := by
  obtain ⟨fd, F⟩ := S.def_ 16 (d := d__law_cost_of) rfl
  exact F.kp
theorem mk__law_lettered (S : He.SaysD fa fn K) (len : ∀ vs H Q E, sp vs H Q E → vs.length = 2)
    (hb : ∀ (cdv : Value) (A : Around) (outer : List Env) (s : Shared) (H : Hp) (vs : List V) (Q : VK) (E : XK), A.guards = some [] → Room k (A.deeper (envOfC "_law_lettered" (defScope s__law_lettered) s.heap.objs.size (He.ga K "_law_lettered") cdv)) → sp vs H Q E →
      ∃ t, PSs (cxOf CX0 P w K mg base n__law_lettered "_law_lettered" (defScope s__law_lettered) (He.ga K "_law_lettered") cdv A outer s H E).nox (defBody s__law_lettered) t ∧ t { nx := fun _ H' => Q .non H', rt := Q } (start n__law_lettered vs) H) : FnG P w K mg base CX0 (k + 1) (He.ga K "_law_lettered") sp := by
  obtain ⟨fd, F⟩ := S.def_ 17 (d := d__law_lettered) rfl
  exact ok0 F sc__law_lettered (F.bindsA fun _ _ _ _ _ _ us hl => match us, hl with | [_, _], _ => rfl) len hb
theorem kp__law_lettered (S : He.SaysD fa fn K) : PySem.W.keepIn K (.ref (He.ga K "_law_lettered")) = true := by
  obtain ⟨fd, F⟩ := S.def_ 17 (d := d__law_lettered) rfl
  exact F.kp
theorem mk__law_made_order (S : He.SaysD fa fn K) (len : ∀ vs H Q E, sp vs H Q E → vs.length = 2)
    (hb : ∀ (cdv : Value) (A : Around) (outer : List Env) (s : Shared) (H : Hp) (vs : List V) (Q : VK) (E : XK), A.guards = some [] → Room k (A.deeper (envOfC "_law_made_order" (defScope s__law_made_order) s.heap.objs.size (He.ga K "_law_made_order") cdv)) → sp vs H Q E →
      ∃ t, PSs (cxOf CX0 P w K mg base n__law_made_order "_law_made_order" (defScope s__law_made_order) (He.ga K "_law_made_order") cdv A outer s H E).nox (defBody s__law_made_order) t ∧ t { nx := fun _ H' => Q .non H', rt := Q } (start n__law_made_order vs) H) : FnG P w K mg base CX0 (k + 1) (He.ga K "_law_made_order") sp := by
  obtain ⟨fd, F⟩ := S.def_ 18 (d := d__law_made_order) rfl
  exact ok0 F sc__law_made_order (F.bindsA fun _ _ _ _ _ _ us hl => match us, hl with | [_, _], _ => rfl) len hb
theorem kp__law_made_order (S : He.SaysD fa fn K) : PySem.W.keepIn K (.ref (He.ga K "_law_made_order")) = true := by
  obtain ⟨fd, F⟩ := S.def_ 18 (d := d__law_made_order) rfl
  exact F.kp
theorem mk__law_far_right (S : He.SaysD fa fn K) (len : ∀ vs H Q E, sp vs H Q E → vs.length = 2)
    (hb : ∀ (cdv : Value) (A : Around) (outer : List Env) (s : Shared) (H : Hp) (vs : List V) (Q : VK) (E : XK), A.guards = some [] → Room k (A.deeper (envOfC "_law_far_right" (defScope s__law_far_right) s.heap.objs.size (He.ga K "_law_far_right") cdv)) → sp vs H Q E →
      ∃ t, PSs (cxOf CX0 P w K mg base n__law_far_right "_law_far_right" (defScope s__law_far_right) (He.ga K "_law_far_right") cdv A outer s H E).nox (defBody s__law_far_right) t ∧ t { nx := fun _ H' => Q .non H', rt := Q } (start n__law_far_right vs) H) : FnG P w K mg base CX0 (k + 1) (He.ga K "_law_far_right") sp := by
  obtain ⟨fd, F⟩ := S.def_ 19 (d := d__law_far_right) rfl
  exact ok0 F sc__law_far_right (F.bindsA fun _ _ _ _ _ _ us hl => match us, hl with | [_, _], _ => rfl) len hb
theorem kp__law_far_right (S : He.SaysD fa fn K) : PySem.W.keepIn K (.ref (He.ga K "_law_far_right")) = true := by
  obtain ⟨fd, F⟩ := S.def_ 19 (d := d__law_far_right) rfl
  exact F.kp
theorem mk_law (S : He.SaysD fa fn K) (len : ∀ vs H Q E, sp vs H Q E → vs.length = 1)
    (hb : ∀ (cdv : Value) (A : Around) (outer : List Env) (s : Shared) (H : Hp) (vs : List V) (Q : VK) (E : XK), A.guards = some [] → Room k (A.deeper (envOfC "law" (defScope s_law) s.heap.objs.size (He.ga K "law") cdv)) → sp vs H Q E →
      ∃ t, PSs (cxOf CX0 P w K mg base n_law "law" (defScope s_law) (He.ga K "law") cdv A outer s H E).nox (defBody s_law) t ∧ t { nx := fun _ H' => Q .non H', rt := Q } (start n_law vs) H) : FnG P w K mg base CX0 (k + 1) (He.ga K "law") sp := by
  obtain ⟨fd, F⟩ := S.def_ 20 (d := d_law) rfl
  exact ok0 F sc_law (F.bindsA fun _ _ _ _ _ _ us hl => match us, hl with | [_], _ => rfl) len hb
theorem kp_law (S : He.SaysD fa fn K) : PySem.W.keepIn K (.ref (He.ga K "law")) = true := by
  obtain ⟨fd, F⟩ := S.def_ 20 (d := d_law) rfl
  exact F.kp
theorem mk_is_word (S : He.SaysD fa fn K) (len : ∀ vs H Q E, sp vs H Q E → vs.length = 2)
    (hb : ∀ (cdv : Value) (A : Around) (outer : List Env) (s : Shared) (H : Hp) (vs : List V) (Q : VK) (E : XK), A.guards = some [] → Room k (A.deeper (envOfC "is_word" (defScope s_is_word) s.heap.objs.size (He.ga K "is_word") cdv)) → sp vs H Q E →
      ∃ t, PSs (cxOf CX0 P w K mg base n_is_word "is_word" (defScope s_is_word) (He.ga K "is_word") cdv A outer s H E).nox (defBody s_is_word) t ∧ t { nx := fun _ H' => Q .non H', rt := Q } (start n_is_word vs) H) : FnG P w K mg base CX0 (k + 1) (He.ga K "is_word") sp := by
  obtain ⟨fd, F⟩ := S.def_ 21 (d := d_is_word) rfl
  exact ok0 F sc_is_word (F.bindsA fun _ _ _ _ _ _ us hl => match us, hl with | [_, _], _ => rfl) len hb
theorem kp_is_word (S : He.SaysD fa fn K) : PySem.W.keepIn K (.ref (He.ga K "is_word")) = true := by
  obtain ⟨fd, F⟩ := S.def_ 21 (d := d_is_word) rfl
  exact F.kp
theorem kp_Order__check (S : He.SaysD fa fn K) : PySem.W.keepIn K (.ref (He.ma K (He.ga K "Order") "_check")) = true := by
  obtain ⟨fd, F⟩ := S.def_ 22 (d := d_Order__check) rfl
  exact F.kp
theorem mk_Order__cost_of (S : He.SaysD fa fn K) (len : ∀ vs H Q E, sp vs H Q E → vs.length = 2)
    (hb : ∀ (cdv : Value) (A : Around) (outer : List Env) (s : Shared) (H : Hp) (vs : List V) (Q : VK) (E : XK), A.guards = some [] → Room k (A.deeper (envOfC "Order._cost_of" (defScope s_Order__cost_of) s.heap.objs.size (He.ma K (He.ga K "Order") "_cost_of") cdv)) → sp vs H Q E →
      ∃ t, PSs (cxOf CX0 P w K mg base n_Order__cost_of "Order._cost_of" (defScope s_Order__cost_of) (He.ma K (He.ga K "Order") "_cost_of") cdv A outer s H E).nox (defBody s_Order__cost_of) t ∧ t { nx := fun _ H' => Q .non H', rt := Q } (start n_Order__cost_of vs) H) : FnG P w K mg base CX0 (k + 1) (He.ma K (He.ga K "Order") "_cost_of") sp := by
  obtain ⟨fd, F⟩ := S.def_ 23 (d := d_Order__cost_of) rfl
  exact ok0 F sc_Order__cost_of (F.bindsA fun _ _ _ _ _ _ us hl => match us, hl with | [_, _], _ => rfl) len hb
theorem kp_Order__cost_of (S : He.SaysD fa fn K) : PySem.W.keepIn K (.ref (He.ma K (He.ga K "Order") "_cost_of")) = true := by
  obtain ⟨fd, F⟩ := S.def_ 23 (d := d_Order__cost_of) rfl
  exact F.kp
theorem mk_Order_place_of (S : He.SaysD fa fn K) (len : ∀ vs H Q E, sp vs H Q E → vs.length = 2)
    (hb : ∀ (cdv : Value) (A : Around) (outer : List Env) (s : Shared) (H : Hp) (vs : List V) (Q : VK) (E : XK), A.guards = some [] → Room k (A.deeper (envOfC "Order.place_of" (defScope s_Order_place_of) s.heap.objs.size (He.ma K (He.ga K "Order") "place_of") cdv)) → sp vs H Q E →
      ∃ t, PSs (cxOf CX0 P w K mg base n_Order_place_of "Order.place_of" (defScope s_Order_place_of) (He.ma K (He.ga K "Order") "place_of") cdv A outer s H E).nox (defBody s_Order_place_of) t ∧ t { nx := fun _ H' => Q .non H', rt := Q } (start n_Order_place_of vs) H) : FnG P w K mg base CX0 (k + 1) (He.ma K (He.ga K "Order") "place_of") sp := by
  obtain ⟨fd, F⟩ := S.def_ 24 (d := d_Order_place_of) rfl
  exact ok0 F sc_Order_place_of (F.bindsA fun _ _ _ _ _ _ us hl => match us, hl with | [_, _], _ => rfl) len hb
theorem kp_Order_place_of (S : He.SaysD fa fn K) : PySem.W.keepIn K (.ref (He.ma K (He.ga K "Order") "place_of")) = true := by
  obtain ⟨fd, F⟩ := S.def_ 24 (d := d_Order_place_of) rfl
  exact F.kp
theorem mk_Order_after (S : He.SaysD fa fn K) (len : ∀ vs H Q E, sp vs H Q E → vs.length = 2)
    (hb : ∀ (cdv : Value) (A : Around) (outer : List Env) (s : Shared) (H : Hp) (vs : List V) (Q : VK) (E : XK), A.guards = some [] → Room k (A.deeper (envOfC "Order.after" (defScope s_Order_after) s.heap.objs.size (He.ma K (He.ga K "Order") "after") cdv)) → sp vs H Q E →
      ∃ t, PSs (cxOf CX0 P w K mg base n_Order_after "Order.after" (defScope s_Order_after) (He.ma K (He.ga K "Order") "after") cdv A outer s H E).nox (defBody s_Order_after) t ∧ t { nx := fun _ H' => Q .non H', rt := Q } (start n_Order_after vs) H) : FnG P w K mg base CX0 (k + 1) (He.ma K (He.ga K "Order") "after") sp := by
  obtain ⟨fd, F⟩ := S.def_ 25 (d := d_Order_after) rfl
  exact ok0 F sc_Order_after (F.bindsA fun _ _ _ _ _ _ us hl => match us, hl with | [_, _], _ => rfl) len hb
theorem kp_Order_after (S : He.SaysD fa fn K) : PySem.W.keepIn K (.ref (He.ma K (He.ga K "Order") "after")) = true := by
  obtain ⟨fd, F⟩ := S.def_ 25 (d := d_Order_after) rfl
  exact F.kp
theorem mk_Order_before (S : He.SaysD fa fn K) (len : ∀ vs H Q E, sp vs H Q E → vs.length = 2)
    (hb : ∀ (cdv : Value) (A : Around) (outer : List Env) (s : Shared) (H : Hp) (vs : List V) (Q : VK) (E : XK), A.guards = some [] → Room k (A.deeper (envOfC "Order.before" (defScope s_Order_before) s.heap.objs.size (He.ma K (He.ga K "Order") "before") cdv)) → sp vs H Q E →
      ∃ t, PSs (cxOf CX0 P w K mg base n_Order_before "Order.before" (defScope s_Order_before) (He.ma K (He.ga K "Order") "before") cdv A outer s H E).nox (defBody s_Order_before) t ∧ t { nx := fun _ H' => Q .non H', rt := Q } (start n_Order_before vs) H) : FnG P w K mg base CX0 (k + 1) (He.ma K (He.ga K "Order") "before") sp := by
  obtain ⟨fd, F⟩ := S.def_ 26 (d := d_Order_before) rfl
  exact ok0 F sc_Order_before (F.bindsA fun _ _ _ _ _ _ us hl => match us, hl with | [_, _], _ => rfl) len hb
theorem kp_Order_before (S : He.SaysD fa fn K) : PySem.W.keepIn K (.ref (He.ma K (He.ga K "Order") "before")) = true := by
  obtain ⟨fd, F⟩ := S.def_ 26 (d := d_Order_before) rfl
  exact F.kp
theorem mk_Order_count_words (S : He.SaysD fa fn K) (len : ∀ vs H Q E, sp vs H Q E → vs.length = 2)
    (hb : ∀ (cdv : Value) (A : Around) (outer : List Env) (s : Shared) (H : Hp) (vs : List V) (Q : VK) (E : XK), A.guards = some [] → Room k (A.deeper (envOfC "Order.count_words" (defScope s_Order_count_words) s.heap.objs.size (He.ma K (He.ga K "Order") "count_words") cdv)) → sp vs H Q E →
      ∃ t, PSs (cxOf CX0 P w K mg base n_Order_count_words "Order.count_words" (defScope s_Order_count_words) (He.ma K (He.ga K "Order") "count_words") cdv A outer s H E).nox (defBody s_Order_count_words) t ∧ t { nx := fun _ H' => Q .non H', rt := Q } (start n_Order_count_words vs) H) : FnG P w K mg base CX0 (k + 1) (He.ma K (He.ga K "Order") "count_words") sp := by
  obtain ⟨fd, F⟩ := S.def_ 27 (d := d_Order_count_words) rfl
  exact ok0 F sc_Order_count_words (F.bindsA fun _ _ _ _ _ _ us hl => match us, hl with | [_, _], _ => rfl) len hb
theorem kp_Order_count_words (S : He.SaysD fa fn K) : PySem.W.keepIn K (.ref (He.ma K (He.ga K "Order") "count_words")) = true := by
  obtain ⟨fd, F⟩ := S.def_ 27 (d := d_Order_count_words) rfl
  exact F.kp
theorem mk_Order__has_words (S : He.SaysD fa fn K) (len : ∀ vs H Q E, sp vs H Q E → vs.length = 2)
    (hb : ∀ (cdv : Value) (A : Around) (outer : List Env) (s : Shared) (H : Hp) (vs : List V) (Q : VK) (E : XK), A.guards = some [] → Room k (A.deeper (envOfC "Order._has_words" (defScope s_Order__has_words) s.heap.objs.size (He.ma K (He.ga K "Order") "_has_words") cdv)) → sp vs H Q E →
      ∃ t, PSs (cxOf CX0 P w K mg base n_Order__has_words "Order._has_words" (defScope s_Order__has_words) (He.ma K (He.ga K "Order") "_has_words") cdv A outer s H E).nox (defBody s_Order__has_words) t ∧ t { nx := fun _ H' => Q .non H', rt := Q } (start n_Order__has_words vs) H) : FnG P w K mg base CX0 (k + 1) (He.ma K (He.ga K "Order") "_has_words") sp := by
  obtain ⟨fd, F⟩ := S.def_ 28 (d := d_Order__has_words) rfl
  exact ok0 F sc_Order__has_words (F.bindsA fun _ _ _ _ _ _ us hl => match us, hl with | [_, _], _ => rfl) len hb
theorem kp_Order__has_words (S : He.SaysD fa fn K) : PySem.W.keepIn K (.ref (He.ma K (He.ga K "Order") "_has_words")) = true := by
  obtain ⟨fd, F⟩ := S.def_ 28 (d := d_Order__has_words) rfl
  exact F.kp
theorem mk_Order__neighbour (S : He.SaysD fa fn K) (len : ∀ vs H Q E, sp vs H Q E → vs.length = 4)
    (hb : ∀ (cdv : Value) (A : Around) (outer : List Env) (s : Shared) (H : Hp) (vs : List V) (Q : VK) (E : XK), A.guards = some [] → Room k (A.deeper (envOfC "Order._neighbour" (defScope s_Order__neighbour) s.heap.objs.size (He.ma K (He.ga K "Order") "_neighbour") cdv)) → sp vs H Q E →
      ∃ t, PSs (cxOf CX0 P w K mg base n_Order__neighbour "Order._neighbour" (defScope s_Order__neighbour) (He.ma K (He.ga K "Order") "_neighbour") cdv A outer s H E).nox (defBody s_Order__neighbour) t ∧ t { nx := fun _ H' => Q .non H', rt := Q } (start n_Order__neighbour vs) H) : FnG P w K mg base CX0 (k + 1) (He.ma K (He.ga K "Order") "_neighbour") sp := by
  obtain ⟨fd, F⟩ := S.def_ 29 (d := d_Order__neighbour) rfl
  exact ok0 F sc_Order__neighbour (F.bindsA fun _ _ _ _ _ _ us hl => match us, hl with | [_, _, _, _], _ => rfl) len hb
theorem kp_Order__neighbour (S : He.SaysD fa fn K) : PySem.W.keepIn K (.ref (He.ma K (He.ga K "Order") "_neighbour")) = true := by
  obtain ⟨fd, F⟩ := S.def_ 29 (d := d_Order__neighbour) rfl
  exact F.kp
theorem mk_Order__outermost (S : He.SaysD fa fn K) (len : ∀ vs H Q E, sp vs H Q E → vs.length = 3)
    (hb : ∀ (cdv : Value) (A : Around) (outer : List Env) (s : Shared) (H : Hp) (vs : List V) (Q : VK) (E : XK), A.guards = some [] → Room k (A.deeper (envOfC "Order._outermost" (defScope s_Order__outermost) s.heap.objs.size (He.ma K (He.ga K "Order") "_outermost") cdv)) → sp vs H Q E →
      ∃ t, PSs (cxOf CX0 P w K mg base n_Order__outermost "Order._outermost" (defScope s_Order__outermost) (He.ma K (He.ga K "Order") "_outermost") cdv A outer s H E).nox (defBody s_Order__outermost) t ∧ t { nx := fun _ H' => Q .non H', rt := Q } (start n_Order__outermost vs) H) : FnG P w K mg base CX0 (k + 1) (He.ma K (He.ga K "Order") "_outermost") sp := by
  obtain ⟨fd, F⟩ := S.def_ 30 (d := d_Order__outermost) rfl
  exact ok0 F sc_Order__outermost (F.bindsA fun _ _ _ _ _ _ us hl => match us, hl with | [_, _, _], _ => rfl) len hb
theorem kp_Order__outermost (S : He.SaysD fa fn K) : PySem.W.keepIn K (.ref (He.ma K (He.ga K "Order") "_outermost")) = true := by
  obtain ⟨fd, F⟩ := S.def_ 30 (d := d_Order__outermost) rfl
  exact F.kp
theorem mkg_Order_words {sg : GW.SpW} (S : He.SaysD fa fn K) (len : ∀ vs H It M Q E, sg vs H It M Q E → vs.length = 2)
    (hb : ∀ (cdv : Value) (A : Around) (outer : List Env) (s : Shared) (H : Hp) (vs : List V) (It : List V → V → Prop) (M : Nat) (Q : List V → Prop) (E : XK) (pn : List (Addr × Obj)) (g : Nat), A.guards = some [] → (∀ b kvs, H b ≠ some (.dT kvs)) → HOk P w H s.heap → Room k (A.deeper (envOfC "Order.words" (defScope s_Order_words) s.heap.objs.size (He.ma K (He.ga K "Order") "words") cdv)) → sg vs H It M Q E →
      ∃ t, GW.GSsw (gcxOf P w K mg base n_Order_words "Order.words" (defScope s_Order_words) (He.ma K (He.ga K "Order") "words") cdv A outer s H E pn) (GW.gxe P w "Order.words" (defScope s_Order_words) (He.ma K (He.ga K "Order") "words") cdv A outer s H E pn) (g < ·) s.heap.objs.size It M (g + 1) (defBody s_Order_words) t ∧
        t { nx := fun ys _ H' => GW.Stood (gcxOf P w K mg base n_Order_words "Order.words" (defScope s_Order_words) (He.ma K (He.ga K "Order") "words") cdv A outer s H E pn) H' ∧ Q ys, rt := fun ys v H' => v = .non ∧ GW.Stood (gcxOf P w K mg base n_Order_words "Order.words" (defScope s_Order_words) (He.ma K (He.ga K "Order") "words") cdv A outer s H E pn) H' ∧ Q ys } [] (start n_Order_words vs) H) :
    ∃ fd, GW.GFw P w K mg base (k + 1) (He.ma K (He.ga K "Order") "words") fd ["self", "word"] sg ∧ Binds K fd ["self", "word"] [] := by
  obtain ⟨fd, F⟩ := S.def_ 31 (d := d_Order_words) rfl
  obtain ⟨oc, od, dV, kV, doc, pm, an, cdv, ct, osl, e, lk, hcd, _⟩ := id F.ex
  refine ⟨fd, ?_, ?_⟩
  · subst e
    exact GW.gfw_of lk hcd sc_Order_words len fun A outer s H vs It M Q E pn g hg hn ho hr h => hb cdv A outer s H vs It M Q E pn g hg hn ho hr h
  · exact by
      obtain ⟨ds, r, b⟩ := F.binds1 (ps := ["self", "word"]) 2 1 (by intro z; cases z) rfl (fun T kV doc pm an cdv ct us its h1 h2 => match us, its, h1, h2 with | [_, _], [_], _, _ => ⟨_, rfl, rfl⟩)
      cases r
      exact b
theorem kp_Order_words (S : He.SaysD fa fn K) : PySem.W.keepIn K (.ref (He.ma K (He.ga K "Order") "words")) = true := by
  obtain ⟨fd, F⟩ := S.def_ 31 (d := d_Order_words) rfl
  exact F.kp
theorem mkg_Order_spread {sg : GW.SpW} (S : He.SaysD fa fn K) (len : ∀ vs H It M Q E, sg vs H It M Q E → vs.length = 3)
    (hb : ∀ (cdv : Value) (A : Around) (outer : List Env) (s : Shared) (H : Hp) (vs : List V) (It : List V → V → Prop) (M : Nat) (Q : List V → Prop) (E : XK) (pn : List (Addr × Obj)) (g : Nat), A.guards = some [] → (∀ b kvs, H b ≠ some (.dT kvs)) → HOk P w H s.heap → Room k (A.deeper (envOfC "Order.spread" (defScope s_Order_spread) s.heap.objs.size (He.ma K (He.ga K "Order") "spread") cdv)) → sg vs H It M Q E →
      ∃ t, GW.GSsw (gcxOf P w K mg base n_Order_spread "Order.spread" (defScope s_Order_spread) (He.ma K (He.ga K "Order") "spread") cdv A outer s H E pn) (GW.gxe P w "Order.spread" (defScope s_Order_spread) (He.ma K (He.ga K "Order") "spread") cdv A outer s H E pn) (g < ·) s.heap.objs.size It M (g + 1) (defBody s_Order_spread) t ∧
        t { nx := fun ys _ H' => GW.Stood (gcxOf P w K mg base n_Order_spread "Order.spread" (defScope s_Order_spread) (He.ma K (He.ga K "Order") "spread") cdv A outer s H E pn) H' ∧ Q ys, rt := fun ys v H' => v = .non ∧ GW.Stood (gcxOf P w K mg base n_Order_spread "Order.spread" (defScope s_Order_spread) (He.ma K (He.ga K "Order") "spread") cdv A outer s H E pn) H' ∧ Q ys } [] (start n_Order_spread vs) H) :
    ∃ fd, GW.GFw P w K mg base (k + 1) (He.ma K (He.ga K "Order") "spread") fd ["self", "first", "last"] sg ∧ Binds K fd ["self", "first", "last"] [] := by
  obtain ⟨fd, F⟩ := S.def_ 32 (d := d_Order_spread) rfl
  obtain ⟨oc, od, dV, kV, doc, pm, an, cdv, ct, osl, e, lk, hcd, _⟩ := id F.ex
  refine ⟨fd, ?_, ?_⟩
  · subst e
    exact GW.gfw_of lk hcd sc_Order_spread len fun A outer s H vs It M Q E pn g hg hn ho hr h => hb cdv A outer s H vs It M Q E pn g hg hn ho hr h
  · exact F.bindsN fun _ _ _ _ _ _ us hl => match us, hl with | [_, _, _], _ => rfl
theorem kp_Order_spread (S : He.SaysD fa fn K) : PySem.W.keepIn K (.ref (He.ma K (He.ga K "Order") "spread")) = true := by
  obtain ⟨fd, F⟩ := S.def_ 32 (d := d_Order_spread) rfl
  exact F.kp
end
end K10

/-! Data with dicts in it, and its show. -/
namespace Ver
open PySem PySem.Spec PyProof.Rows L2
def kdat : Key → PyData
  | .inl i => .int i
  | .inr x => .str x
mutual
inductive Do (K : PySem.W.Frag) (H : Hp) : V → PyData → Prop
  | non : Do K H .non .none
  | bl (b : Bool) : Do K H (.bl b) (.bool b)
  | int (i : Int) : Do K H (.int i) (.int i)
  | str (x : Str) : Do K H (.str x) (.str x)
  | lst {a : Addr} {xs : List V} {ds : List PyData} : SqL K H a xs → DoAll K H xs ds → Do K H (.ref a) (.list ds)
  | tup {a : Addr} {xs : List V} {ds : List PyData} : SqT K H a xs → DoAll K H xs ds → Do K H (.ref a) (.tuple ds)
  | dic {a : Addr} {kvs : List (Key × V)} {kds : List (PyData × PyData)} : H a = some (.dK kvs) → DoKv K H kvs kds → Do K H (.ref a) (.dict kds)
inductive DoAll (K : PySem.W.Frag) (H : Hp) : List V → List PyData → Prop
  | nil : DoAll K H [] []
  | cons {v : V} {vs : List V} {d : PyData} {ds : List PyData} : Do K H v d → DoAll K H vs ds → DoAll K H (v :: vs) (d :: ds)
inductive DoKv (K : PySem.W.Frag) (H : Hp) : List (Key × V) → List (PyData × PyData) → Prop
  | nil : DoKv K H [] []
  | cons {k : Key} {v : V} {kvs : List (Key × V)} {d : PyData} {kds : List (PyData × PyData)} : Do K H v d → DoKv K H kvs kds → DoKv K H ((k, v) :: kvs) ((kdat k, d) :: kds)
end
theorem reads_key {h : Heap} {k : Key} {v : Value} (e : keyIs k v = true) : Reads h v (kdat k) [] := by
  rcases keyIs_shape e with ⟨i, t, rfl, rfl⟩ | ⟨x, t, rfl, rfl⟩
  · exact .int i t
  · exact .str x t
/-- the module table is a dict of the written part -/
def Sm (K : PySem.W.Frag) : Prop := ∃ o, K.lookup sysModules = some o ∧ o.cls = .type "dict"
section
variable {X : Cx} {pins : List (Addr × Obj)} {σ : L2.St} {H : Hp} {s : Shared}
mutual
theorem Do.reads (sm : Sm X.K) (I : Inv X pins σ H s) : ∀ (d : PyData) (v : V) (u : Value), Do X.K H v d → RelV v u → ∃ as, Reads s.heap u d as ∧ sysModules ∉ as
  | .none, _, _, h, r => by
    cases h
    cases r
    exact ⟨_, Reads.none, by simp⟩
  | .bool b, _, _, h, r => by
    cases h
    cases r
    exact ⟨_, Reads.bool b, by simp⟩
  | .int i, _, _, h, r => by
    cases h
    obtain ⟨t, rfl⟩ := r
    exact ⟨_, Reads.int i t, by simp⟩
  | .str x, _, _, h, r => by
    cases h
    obtain ⟨t, rfl⟩ := r
    exact ⟨_, Reads.str x t, by simp⟩
  | .list ds, _, _, h, r => by
    cases h with
    | lst hs ha =>
      cases r
      obtain ⟨its, rv, ⟨o, n, ho, hc, _, hd⟩, _⟩ := I.list hs
      obtain ⟨as, hr, hn⟩ := Do.readsAll sm I ds _ its ha rv
      refine ⟨_, Reads.list ho hc hd hr, fun z => ?_⟩
      rcases List.mem_cons.mp z with e | z
      · obtain ⟨o2, lk, c2⟩ := sm
        have g := I.kIn _ _ lk
        rw [e] at g
        rw [ho] at g
        cases g
        rw [hc] at c2
        exact absurd c2 (by decide)
      · exact hn z
  | .tuple ds, _, _, h, r => by
    cases h with
    | tup hs ha =>
      cases r
      obtain ⟨its, rv, ⟨o, ho, hc, n, hd⟩, _⟩ := I.tuple hs
      obtain ⟨as, hr, hn⟩ := Do.readsAll sm I ds _ its ha rv
      exact ⟨_, Reads.tuple ho hc hd hr, hn⟩
  | .dict kds, _, _, h, r => by
    cases h with
    | dic ha hk =>
      cases r
      obtain ⟨_, ne, vs, kv, o, es, ep, ho, he, hd, _, hp, _⟩ := dk_of I.hok ha
      obtain ⟨as, bs, h1, h2, n1, n2⟩ := Do.readsKv sm I kds _ vs es.toList hk kv hp
      refine ⟨_, Reads.dict ho he.1 hd h1 h2, fun z => ?_⟩
      rcases List.mem_append.mp z with z | z
      · rcases List.mem_cons.mp z with e | z
        · rw [e] at ne
          rw [beq_self_eq_true] at ne
          cases ne
        · exact n1 z
      · exact n2 z
theorem Do.readsAll (sm : Sm X.K) (I : Inv X pins σ H s) : ∀ (ds : List PyData) (vs : List V) (us : List Value), DoAll X.K H vs ds → Vals vs us → ∃ as, ReadsAll s.heap us ds as ∧ sysModules ∉ as
  | [], _, _, h, r => by
    cases h
    cases r
    exact ⟨_, ReadsAll.nil, by simp⟩
  | d :: ds, _, _, h, r => by
    cases h with
    | cons h1 h2 =>
      cases r with
      | cons r1 r2 =>
        obtain ⟨as, q1, n1⟩ := Do.reads sm I d _ _ h1 r1
        obtain ⟨bs, q2, n2⟩ := Do.readsAll sm I ds _ _ h2 r2
        exact ⟨_, ReadsAll.cons q1 q2, fun z => (List.mem_append.mp z).elim n1 n2⟩
theorem Do.readsKv (sm : Sm X.K) (I : Inv X pins σ H s) : ∀ (kds : List (PyData × PyData)) (kvs : List (Key × V)) (vs : List (Key × Value)) (es : List DictEntry), DoKv X.K H kvs kds → KV kvs vs → Pairs (mixKind X.prog X.w) es vs →
    ∃ as bs, ReadsAll s.heap (es.map (·.key)) (kds.map (·.1)) as ∧ ReadsAll s.heap (es.map (·.val)) (kds.map (·.2)) bs ∧ sysModules ∉ as ∧ sysModules ∉ bs
  | [], _, _, _, h, k, p => by
    cases h
    cases k
    cases p
    exact ⟨_, _, ReadsAll.nil, ReadsAll.nil, by simp, by simp⟩
  | (dk, d) :: kds, _, _, _, h, k, p => by
    cases h with
    | cons h1 h2 =>
      cases k with
      | cons k1 k2 =>
        cases p with
        | cons p1 p2 p3 =>
          rename_i k v kvs b l2 en es
          obtain ⟨e1, e2⟩ := k1
          have e1 : k = b.1 := e1
          have e2 : RelV v en.val := by
            rw [p2]
            exact e2
          have p1 : keyIs k en.key = true := by
            rw [e1]
            exact p1
          obtain ⟨bs0, q1, n1⟩ := Do.reads sm I d _ _ h1 e2
          obtain ⟨as, bs, r1, r2, m1, m2⟩ := Do.readsKv sm I kds _ _ _ h2 k2 p3
          refine ⟨_, _, ReadsAll.cons (reads_key p1) r1, ReadsAll.cons q1 r2, ?_, fun z => (List.mem_append.mp z).elim n1 m2⟩
          simpa using m1
end
/-- repr(x), x any data -/
def rReprO (K : PySem.W.Frag) : List V → Hp → VK → Prop := fun xs H Q => ∃ (x : V) (d : PyData), xs = [x] ∧ Do K H x d ∧ d.showable = true ∧ d.shown.length ≤ sizeLine ∧ d.depth ≤ 60 ∧ Q (.str d.shown) H
theorem call_reprO (sm : Sm X.K) (hg : X.A.guards = some []) (hu : X.A.units + 64 < cLine) : CallR X (.builtin "repr") (rReprO X.K) := by
  intro pins s σ H xs us Q I r h
  obtain ⟨x, d, rfl, hd, hs, hz, hdp, q⟩ := h
  obtain ⟨u, rfl, rx⟩ := vals1 r
  obtain ⟨as, rd, na⟩ := Do.reads sm I d x u hd rx
  cases rd with
  | none => exact PySem.P.repr_of_none ⟨.str _, H, I.tok _, ⟨_, rfl⟩, by simpa only [PyData.shown] using q⟩
  | bool b => exact PySem.P.repr_of_bool ⟨.str _, H, I.tok _, ⟨_, rfl⟩, by simpa only [PyData.shown] using q⟩
  | int i t => exact PySem.P.repr_of_int (by simpa [PyData.showable] using hs) ⟨.str _, H, I.tok _, ⟨_, rfl⟩, by simpa only [PyData.shown] using q⟩
  | str y t => exact PySem.P.repr_of_str ⟨.str _, H, I.tok _, ⟨_, rfl⟩, by simpa only [PyData.shown] using q⟩ (by simpa only [PyData.shown] using hz)
  | list h1 h2 h3 h4 =>
    exact repr_of_reads' (.list h1 h2 h3 h4) hs (fun _ => na) hg (by omega) (fun _ _ z => z) (fun h' u tk hk => ⟨.str _, H, I.kept (t' := tk) hk, ⟨u, rfl⟩, q⟩) hz
  | tuple h1 h2 h3 h4 =>
    exact repr_of_reads' (.tuple h1 h2 h3 h4) hs (fun _ => na) hg (by omega) (fun _ _ z => z) (fun h' u tk hk => ⟨.str _, H, I.kept (t' := tk) hk, ⟨u, rfl⟩, q⟩) hz
  | dict h1 h2 h3 h4 h5 =>
    exact repr_of_reads' (.dict h1 h2 h3 h4 h5) hs (fun _ => na) hg (by omega) (fun _ _ z => z) (fun h' u tk hk => ⟨.str _, H, I.kept (t' := tk) hk, ⟨u, rfl⟩, q⟩) hz
end
end Ver

/-! An own exception class directly over a built-in one, whose __init__ hands on to it and stores nothing. -/
namespace Ver
open PySem PySem.Spec PyProof.Rows L2
/-- what the written part tells of such a class -/
structure ExN (K : PySem.W.Frag) (C fI : Addr) (bmB : List Value) (newId : String) : Prop where
  q : PySem.W.excInitIn K C bmB newId = true
  iC : PySem.W.findIn K (.ref C) "__init__" = some (some (.ref fI))
  tI : PySem.W.typeIn K (.ref fI) = some (.type "function")
  exC : PySem.W.subIn K (.ref C) (.type "BaseException") = some true
  tyC : PySem.W.typeIn K (.ref C) = some (.type "type")
  kC : PySem.W.keepIn K (.ref C) = true
section
variable {X : Cx} {pins : List (Addr × Obj)} {σ : L2.St} {H : Hp} {s : Shared} {a C fI : Addr} {bmB : List Value} {B newId initId : String}
theorem binit_ok {A : Around} {E : Value → Shared → Prop} {us : List Value} {Q : Value → Shared → Prop} (F : ExcBaseFacts B newId initId bmB) (q : PySem.W.excInitIn X.K C bmB newId = true) (I : Inv X pins σ H s) (e : H a = some (exo a C none))
    (hl : us.length ≤ sizeLine) (h : ∀ s', Inv X pins σ H s' → Q .none s') : wpAny (model X.prog X.w) A (call (.builtin initId) (.ref a :: us)) Q E s := by
  obtain ⟨nm, N, qn, bs, bm, hd, sn, sub, ab, col, dd, k0, k1, k2, k3, k5, hC, hT⟩ := PySem.W.excInit_of I.kIn q
  obtain ⟨t1, ho⟩ := exo_at I.hok e
  obtain ⟨hp, g, d, t, os⟩ := s
  refine wpAny_call (PySem.HandSPX.init_base F hT hC ho hl fun h' t2 k hx => h _ ?_)
  have J := I.write (t' := t) (x := a) (e := a) (o := exo a C none) (by rw [e]; exact True.intro) (.inl rfl) k ⟨_, hx⟩ (exo_ok hx)
  have same : upd H a (exo a C none) = H := funext fun b => by
    by_cases z : b = a
    · rw [z, upd_same, e]
    · exact upd_ne z
  rwa [same] at J
variable {x : Str} {e : Expr} {es : List Expr} {ta : TA} {p p1 p2 pos : Pos}
/-- its reading: self is an exception that is being made, without a dict as yet -/
def tBi (K : PySem.W.Frag) (bmB : List Value) (newId : String) (ta : TA) : TE := fun σ H Q => ta σ H fun vs H1 => ∃ (a C : Addr) (ws : List V), vs = .ref a :: ws ∧ ws.length ≤ 1000 ∧ PySem.W.excInitIn K C bmB newId = true ∧ H1 a = some (exo a C none) ∧ Q .non H1
/-- B.__init__(self, ..), B a built-in class of errors -/
theorem pe_binit {pl : Sem Bool} (F : ExcBaseFacts B newId initId bmB) (hg : Gl X x) (hm : X.mg x = none) (hv : bootBuiltins x = some (.type B)) (hty : typeOf (.type B) = pure (.type "type")) (hst : Manifest.isStub B = false) (hh : PySem.W.handedIn (.builtin initId) = true)
    (hsp : PySem.W.findCls X.K (.type B) (.type "type") "__init__" = some (.val (.builtin initId))) (ha : PA X (e :: es) ta)
    (hc : eval (.Call (.Attribute (.Name x p1) "__init__" p2) (e :: es) [] pos) X.env = (do
      let ov ← eval (.Name x p1) X.env
      standAt p2.atName
      let (f, first) ← holding [ov] (getMethod ov "__init__" pl)
      callWith pos f first (backTo pos (starEach (e :: es) X.env)) (backToKw pos (keywordEach [] X.env))) := by rfl)
    (he : starEach (e :: es) X.env = (false, eval e X.env) :: starEach es X.env := by rfl) (hpl : (backTo pos (starEach es X.env)).any (·.1) = false := by rfl) (hn : x ≠ "__name__" := by decide) (hd : (x == ("__debug__" : Str)) = false := by decide) :
    PE X (.Call (.Attribute (.Name x p1) "__init__" p2) (e :: es) [] pos) (tBi X.K bmB newId ta) := by
  refine ⟨fun pins s σ H Q I h => PySem.W.methodCall_KW (ld_blt I hg hm hv ?_ hn hd) hc⟩
  obtain ⟨m, fr⟩ := I.fr
  refine PySem.W.method_type fr I.ok.mod.kin hty hst hsp hh ?_
  show wpAny _ _ (callWith pos (Value.builtin initId) [] (backTo pos (starEach (e :: es) X.env)) []) _ _ _
  refine PyProof.Rows.callWith_method1 (thn (ha.run pos pins _ σ H _ (I.tok _) h) fun us s1 z => ?_) he hpl
  obtain ⟨vs, H1, I1, r1, a, C, ws, rfl, hl, q, ea, qq⟩ := z
  match us, r1 with
  | u0 :: ur, .cons ra rw' =>
    cases (show u0 = Value.ref a from ra)
    exact binit_ok F q I1 ea (by rw [← Paired.length rw', sizeLine_eq]; omega) fun s' J => ⟨.non, H1, J, rfl, qq⟩
/-- the exception is let go: what stood ahead stands, and it is known no more -/
theorem let_go {H1 H2 : Hp} {hp hp2 h2 : Heap} {g1 g2 : Array GenState} {d1 d2 : Drawn} {t1 t2 : Nat} {os1 os2 : OsState} (I1 : Inv X pins σ H1 ⟨hp, g1, d1, t1, os1⟩) (ha : hp.objs.size ≤ a) (k : ∀ b o, hp.get? b = some o → hp2.get? b = some o)
    (un : Un (frs X.stack) [] (upd H1 a (exo a C none)) H2 hp2 h2) (hok : HOk X.prog X.w H2 h2) (ho : os2 = os1) (hb : AllBare g2) (ea : H2 a = some (exo a C none)) :
    ∃ (t0 : Addr) (G : Heap), Inv X pins σ (del H2 a) ⟨G, g2, d2, t2, os2⟩ ∧ (∀ b o, G.get? b = some o → h2.get? b = some o) ∧ G.get? a = none ∧
      h2.get? a = some ({ cls := .ref C, dict := none, data := .fields #[.ref t0, .none, .none, .none, .bool false, .none] } : Obj) := by
  obtain ⟨t0, hoe⟩ := exo_at hok ea
  have na : H1 a = none := I1.hok.fresh ha
  obtain ⟨G, in_, out⟩ := restrict h2 fun b => decide (b ≠ a)
  have gk : ∀ b, b ≠ a → G.get? b = h2.get? b := fun b hb => in_ b (decide_eq_true hb)
  have ge : G.get? a = none := out a (by simp)
  have old : ∀ {b : Addr} {o : Obj}, hp.get? b = some o → b ≠ a := fun z => Nat.ne_of_lt (Nat.lt_of_lt_of_le (Heap.lt_size z) ha)
  have up : ∀ {b : Addr}, b ≠ a → H1 b = none → upd H1 a (exo a C none) b = none := fun hb n => by rw [upd_ne hb]; exact n
  have U : Un (frs X.stack) [] H1 (del H2 a) hp G := {
    keep := fun b o z n hf hx => (gk b (old z)).trans (un.keep b o (k b o z) (up (old z) n) hf hx)
    slot := fun b o z n hf hx => by
      obtain ⟨sl, y⟩ := un.slot b o (k b o z) (up (old z) n) hf hx
      exact ⟨sl, (gk b (old z)).trans y⟩
    free := fun b o z n hx => (del_ne (old z)).trans (un.free b o (k b o z) (up (old z) n) hx)
    there := fun b o z hx => by
      obtain ⟨o', y⟩ := un.there b o (k b o z) hx
      exact ⟨o', (gk b (old z)).trans y⟩
    tups := fun b xs z => (del_ne (ne_of_none z na)).trans (un.tups b xs ((upd_ne (ne_of_none z na)).trans z))
    frzs := fun b o v z => (del_ne (ne_of_none z na)).trans (un.frzs b o v ((upd_ne (ne_of_none z na)).trans z))
    tbls := fun b ps z => by
      obtain ⟨more, y⟩ := un.tbls b ps ((upd_ne (ne_of_none z na)).trans z)
      exact ⟨more, (del_ne (ne_of_none z na)).trans y⟩ }
  have ok3 : HOk X.prog X.w (del H2 a) G := fun b o z => by
    have hba : b ≠ a := fun e => by
      rw [e, del_same] at z
      cases z
    rw [del_ne hba] at z
    have noa : ∀ {c : Addr}, H2 c = some (.own b) → c ≠ a := fun hc => at_ne ea hc exo_own
    refine (hok b o z).stay (fun c v hc y => (gk c ?_).trans y) (fun c hc => (del_ne (noa hc)).trans hc) fun c xs hc => (del_ne (at_ne ea hc exo_tup)).trans hc
    rcases hc with hc | hc
    · rw [hc]
      exact hba
    · exact noa hc
  refine ⟨t0, G, I1.call' (ch := []) ho U ok3 hb (fun b z => absurd z (by simp)), fun b o z => ?_, ge, hoe⟩
  by_cases e : b = a
  · rw [e, ge] at z
    cases z
  · exact (gk b e).symm.trans z
/-- the promise of an __init__ that stores nothing -/
def spInitN (C : Addr) : Sp := fun vs H Q _ => ∃ a : Addr, vs = [.ref a] ∧ H a = some (exo a C none) ∧ Q .non H
theorem pmk_n {CX : CXT} {k : Nat} (F : ExcBaseFacts B newId initId bmB) (T : ExN X.K C fI bmB newId) (F1 : FnG X.prog X.w X.K X.mg X.base CX k fI (spInitN C)) (hr : Room (k + 1) X.A) (hgd : X.A.guards = some []) (hx : Passes CX X (fun _ _ _ => False)) (hg : Gl X x) (hm : X.mg x = some (.ref C))
    (hdb : (x == ("__debug__" : Str)) = false := by decide) : PMk X (.Call (.Name x p) [] [] pos) (fun _ H Q => Q (.ref C) none H) := by
  intro pins s σ H Q I h
  refine wpAny_Call_Name_kw (ld_glob I hg hm (PySem.W.callWith_K0 I.kIn T.kC ?_) hdb)
  show wpAny _ _ (call (.ref C) []) _ _ _
  obtain ⟨nm, N, qn, bs, bm, hd, sn, sub, ab, col, dd, k0, k1, k2, k3, k5, hC, hT⟩ := PySem.W.excInit_of I.kIn T.q
  obtain ⟨hp, g, dr, tk, os⟩ := s
  have big : hp.objs.size ≤ hp.objs.size + 1 := Nat.le_succ _
  have hn : H (hp.objs.size + 1) = none := I.hok.fresh big
  have kk : ∀ b o, hp.get? b = some o → ((hp.push (PySem.W.kdv_tup [])).push (PySem.HandSPX.excO C hp.objs.size)).get? b = some o := fun b o z => Heap.get?_push_of_some _ (Heap.get?_push_of_some _ z)
  have made : ((hp.push (PySem.W.kdv_tup [])).push (PySem.HandSPX.excO C hp.objs.size)).get? (hp.objs.size + 1) = some (PySem.HandSPX.excO C hp.objs.size) := by heap_get
  have I2 : Inv X pins σ (upd H (hp.objs.size + 1) (exo (hp.objs.size + 1) C none)) ⟨(hp.push (PySem.W.kdv_tup [])).push (PySem.HandSPX.excO C hp.objs.size), g, dr, tk, os⟩ :=
    I.laid (t' := tk) (a := hp.objs.size + 1) (o := exo (hp.objs.size + 1) C none) (h' := (hp.push (PySem.W.kdv_tup [])).push (PySem.HandSPX.excO C hp.objs.size)) kk big (exo_ok made)
  have q2 : spInitN C [V.ref (hp.objs.size + 1)] (upd H (hp.objs.size + 1) (exo (hp.objs.size + 1) C none)) (fun v H2 => v = .non ∧ H2 = upd H (hp.objs.size + 1) (exo (hp.objs.size + 1) C none)) (fun _ _ _ => False) := ⟨_, rfl, upd_same, rfl, rfl⟩
  refine wpAny_call (PySem.HandSPX.call_own F hT hC (PySem.W.looks_findIn I.kIn T.iC) (fun self => PySem.W.bind_fn I.kIn self T.tI) (Nat.zero_le _)
    (codeAny_mono (F1 _ X.stack _ _ [Value.ref (hp.objs.size + 1)] [V.ref (hp.objs.size + 1)] _ (fun _ _ _ => False) (made_guards hgd C []) (hr.make C [] []) (I2.env0.make C [] []) (.cons rfl .nil) q2) fun rs s' hq => ?_))
  match rs, hq with
  | .error er, hq => exact hx pins σ _ _ er s' I2 hq
  | .ok .next, hq => exact hq.elim
  | .ok .brk, hq => exact hq.elim
  | .ok .cont, hq => exact hq.elim
  | .ok (.ret u), hq =>
    obtain ⟨v, H2, os2, bare2, un2, ok2, rv, rfl, rfl⟩ := hq
    obtain ⟨h2, g2, d2, t2, os'⟩ := s'
    obtain ⟨t0, G, J, kG, ge, hoe⟩ := let_go (a := hp.objs.size + 1) (C := C) (d2 := d2) (t2 := t2) I big kk un2 ok2 os2 bare2 upd_same
    have eH : del (upd H (hp.objs.size + 1) (exo (hp.objs.size + 1) C none)) (hp.objs.size + 1) = H := funext fun b => by
      by_cases z : b = hp.objs.size + 1
      · rw [z, del_same, hn]
      · rw [del_ne z, upd_ne z]
    rw [eH] at J
    exact ⟨rv, hp.objs.size + 1, _, _, ⟨G, g2, d2, t2, os'⟩, H, .ref C, none, rfl, J, kG, ge, hoe, ⟨rfl, rfl⟩, rfl, rfl, hn, rfl, bare2, raises_own T.exC T.tyC, h⟩
end
end Ver

namespace Ver
open PySem PySem.Spec PyProof.Rows L2
section
variable {X : Cx} {CX : CXT} {k : Nat} {f : Addr} {sp : Sp} {E : L2.St → XK} {m : Str} {pos apos : Pos} {e o : Expr} {es : List Expr} {t : TA} {ta : TE}
/-- o.m(e, ..), what it lets out is caught here -/
def tMethGS (K : PySem.W.Frag) (m : Str) (f : Addr) (sp : Sp) (E : L2.St → XK) (ta : TE) (t : TA) : TE := fun σ H Q => ta σ H fun x H1 => ∃ a C dx fs, x = .ref a ∧ H1 a = some (.ins C dx fs) ∧ Cls K C ∧ Meth K C m f ∧ fs.lookup m = none ∧
  t σ H1 fun vs H2 => sp (.ref a :: vs) H2 Q (E σ)
theorem pe_methGS {pl : Sem Bool} (K' : PySem.W.Frag) (hK : X.K = K') (he : PE X o ta) (hk : PySem.W.keepIn X.K (.ref f) = true) (F : FnG X.prog X.w X.K X.mg X.base CX k f sp) (hr : Room k X.A) (hgd : X.A.guards = some []) (hx : ∀ σ, PassesAt CX X σ (E σ)) (ha : PA X (e :: es) t)
    (hst : starEach (e :: es) X.env = (false, eval e X.env) :: starEach es X.env := by rfl) (hpl : (backTo pos (starEach es X.env)).any (·.1) = false := by rfl)
    (ht : eval (.Call (.Attribute o m apos) (e :: es) [] pos) X.env = (do
      let ov ← eval o X.env
      standAt apos.atName
      let (g, first) ← holding [ov] (getMethod ov m pl)
      callWith pos g first (backTo pos (starEach (e :: es) X.env)) (backToKw pos (keywordEach [] X.env))) := by rfl) :
    PE X (.Call (.Attribute o m apos) (e :: es) [] pos) (tMethGS K' m f sp E ta t) := by
  subst hK
  refine ⟨fun pins s σ H Q I h => PySem.W.methodCall_KW (pl := pl) (thn (he.run pins s σ H _ I h) fun u s1 z => ?_) ht⟩
  obtain ⟨x, H1, I1, rx, a, C, dx, fs, rfl, ea, c, hm, l, q⟩ := z
  cases (show u = Value.ref a from rx)
  refine getmeth_ok I1 ea c hm l (PySem.W.callWith_K (first := [.ref a]) (h₀ := X.base) I.ok.mod.kin hk (thn (ha.run pos pins s1 σ H1 _ I1 q) fun us s2 y => ?_) hst hpl)
  obtain ⟨vs, H2, I2, r, q2⟩ := y
  refine ⟨I2.kIn, ?_⟩
  exact wpAny_call (codeAny_mono (F X.A X.stack s2 H2 (.ref a :: us) (.ref a :: vs) Q (E σ) hgd hr I2.env0 (.cons rfl r) q2) fun rs s' hq => by
    match rs, hq with
    | .error e', hq => exact hx σ pins H2 s2 e' s' I2 hq
    | .ok (.ret u), hq => exact I2.after hq
    | .ok .next, hq => exact hq.elim
    | .ok .brk, hq => exact hq.elim
    | .ok .cont, hq => exact hq.elim)
end
/-! ### lists, shown -/
theorem textFrom_up : ∀ (ts : List Str) (k : Nat) (acc : Str), (textFrom k acc ts).length ≤ acc.length + piled ts
  | [], _, acc => by show acc.length ≤ acc.length + 0; omega
  | t :: r, k, acc => by
    have ih := textFrom_up r (k + 1) (acc ++ (if k > 0 then ", " else "" : String) ++ t)
    have e : (acc ++ (if k > 0 then ", " else "" : String) ++ t).length ≤ acc.length + 2 + t.length := by
      rw [strLen_append, strLen_append]
      by_cases h : k > 0
      · rw [if_pos h]
        exact Nat.le_refl _
      · rw [if_neg h]
        show acc.length + 0 + t.length ≤ _
        omega
    show (textFrom (k + 1) _ r).length ≤ _
    rw [piled_cons]
    omega
end Ver

namespace Ver
open PySem PySem.Spec PyProof.Rows L2
/-! ### == and != of any data -/
section
variable {X : Cx}
def rEqO (K : PySem.W.Frag) : R2 := fun x y H Q => ∃ d e, Do K H x d ∧ Do K H y e ∧ SeqAt.shaped d = true ∧ SeqAt.shaped e = true ∧ Q (.bl (PyData.eqv d e)) H
def rNeO (K : PySem.W.Frag) : R2 := fun x y H Q => ∃ d e, Do K H x d ∧ Do K H y e ∧ SeqAt.shaped d = true ∧ SeqAt.shaped e = true ∧ Q (.bl (!PyData.eqv d e)) H
def rNotInO (K : PySem.W.Frag) : R2 := fun x y H Q => ∃ d ds, Do K H x d ∧ Do K H y (.list ds) ∧ SeqAt.shaped d = true ∧ SeqAt.shaped (.list ds) = true ∧ Q (.bl (!(ds.any fun z => PyData.eqv z d))) H
theorem op_eqO (sm : Sm X.K) (hu : X.A.units + 64 < cLine) : OpR X (compareOp .Eq) (rEqO X.K) := by
  intro pins s σ H x y v u Q I rx ry h
  obtain ⟨d, e, hd, he, sd, se, q⟩ := h
  obtain ⟨as, r1, _⟩ := Do.reads sm I d x v hd rx
  obtain ⟨bs, r2, _⟩ := Do.reads sm I e y u he ry
  exact SeqAt.compareEq_shaped r1 r2 sd se hu ⟨.bl _, H, I, rfl, q⟩
theorem op_neO (sm : Sm X.K) (hu : X.A.units + 64 < cLine) : OpR X (compareOp .NotEq) (rNeO X.K) := by
  intro pins s σ H x y v u Q I rx ry h
  obtain ⟨d, e, hd, he, sd, se, q⟩ := h
  obtain ⟨as, r1, _⟩ := Do.reads sm I d x v hd rx
  obtain ⟨bs, r2, _⟩ := Do.reads sm I e y u he ry
  exact SeqAt.compareNe_shaped r1 r2 sd se hu ⟨.bl _, H, I, rfl, q⟩
theorem op_notInO (sm : Sm X.K) (hu : X.A.units + 65 < cLine) : OpR X (compareOp .NotIn) (rNotInO X.K) := by
  intro pins s σ H x y v u Q I rx ry h
  obtain ⟨d, ds, hd, he, sd, se, q⟩ := h
  obtain ⟨as, r1, _⟩ := Do.reads sm I d x v hd rx
  obtain ⟨bs, r2, _⟩ := Do.reads sm I (.list ds) y u he ry
  exact SeqAt.notIn_list_reads r2 r1 (SeqAt.canLay_of_shaped se) (SeqAt.canLay_of_shaped sd) (room_in_shaped sd hu) ⟨.bl _, H, I, rfl, q⟩
/-- a text, many times -/
theorem op_strMul : OpR X (binaryOp .Mult) (fun x y H Q => ∃ (a : Str) (n : Int), x = .str a ∧ y = .int n ∧ a.length ≤ 1000 ∧ 0 < a.length ∧ 2 ≤ n ∧ n ≤ 10000 ∧ (⟨(List.replicate n.toNat a.cps).foldl (· ++ ·) #[]⟩ : Str).length ≤ sizeLine ∧ Q (.str ⟨(List.replicate n.toNat a.cps).foldl (· ++ ·) #[]⟩) H) := by
  intro pins s σ H x y v u Q I rx ry h
  obtain ⟨a, n, rfl, rfl, h1, h0, h2, h3, hz, q⟩ := h
  obtain ⟨t, rfl⟩ := rx
  obtain ⟨t2, rfl⟩ := ry
  have e1 : ¬ n < 1 := by omega
  have e2 : ¬ (n == 1 || a.length == 0) = true := by
    rw [Bool.or_eq_true, not_or]
    refine ⟨fun z => ?_, fun z => ?_⟩
    · have := beq_iff_eq.mp z
      omega
    · have := beq_iff_eq.mp z
      omega
  refine PySem.P.mul_str ?_ (fun _ _ => ?_) (fun _ _ => ?_) ?_
  · rw [decide_eq_false (by omega), decide_eq_false (by omega)]
    rfl
  · have : (2 ^ 63 - 1) / n ≥ 1000 := Int.le_ediv_of_mul_le (by omega) (by omega)
    omega
  · have hm : a.length * n.toNat ≤ 1000 * 10000 := Nat.mul_le_mul h1 (by omega)
    exact decide_eq_false (by rw [sizeLine_eq]; omega)
  · rw [if_neg e1, if_neg e2]
    exact ⟨hz, .str _, H, I.tok _, ⟨_, rfl⟩, q⟩
end
/-! ### an own __eq__ -/
section
variable {M : Model} {prog : Program} {w : World} {A : Around} {E : Value → Shared → Prop} {s : Shared} {K : PySem.W.Frag} {x C L f : Addr} {h₀ : Heap} {m : Str → Option Value} {ox : Obj} {od : Option Obj} {name : Str} {b tb : Value}
theorem ifBound_B {id B : String} {args : List Value} {Q : Option Value → Shared → Prop} (S : PySem.Slot B name id) (X : K.In s.heap) (I : PySem.W.InstAt s.heap x ox C od) (hs : PySem.W.findIn K (.ref C) name = some (some (.builtin id)))
    (h : wpAny M A (call (.builtin id) (.ref x :: args)) (fun v => Q (some v)) E s) : wpAny M A (callSpecialIfBound? (.ref x) name args) Q E s := by
  simp only [callSpecialIfBound?, bindSpecialIfBound?]
  refine wpAny_holding (wpAny_bind (wpAny_bind (wpAny_bind (I.type.here ((PySem.W.looks_findIn X hs).here ?_)))))
  simp only [S.bind]
  refine wpAny_bind (wpAny_askSetting (wpAny_ite ?_))
  have fin : wpAny M A (call (.builtin id) ([.ref x] ++ args) >>= fun v => pure (some v)) Q E s := wpAny_bind (wpAny_mono h (fun v s' h' => wpAny_pure h') fun _ _ h' => h')
  split
  · exact wpAny_bind (wpAny_pure (wpAny_pure fin))
  · exact wpAny_tryCatch (wpAny_bind (wpAny_pure (wpAny_pure fin)))
theorem objNe_K (X : K.In s.heap) (I : PySem.W.InstAt s.heap x ox C od) (hs : PySem.W.findIn K (.ref C) "__eq__" = some (some (.ref f))) (hf : PySem.W.isFn K (.ref f) = true) (hu : A.units < cLine) {Q : Fin → Shared → Prop}
    (hcall : wpAny (model prog w) A (call (.ref f) [.ref x, b]) (fun v s' => ∃ k, v = .bool k ∧ Q (.done (.ret (.bool (!k)))) s') E s) :
    wpAny (model prog w) A (Builtin.«object.__ne__» ⟨[.ref x, b], []⟩) Q E s := by
  obtain ⟨hp, g, d, t, os⟩ := s
  unfold Builtin.«object.__ne__»
  repeat (first
    | with_reducible refine wpAny_cRoomFor hu ?_
    | (refine wpAny_bind (m := callSpecialIfBound? (.ref x) (Str.ofString "__eq__") [b])
        (PySem.W.ifBound_K X I hs hf (wpAny_mono hcall (fun r s' hr => by
          obtain ⟨b, rfl, hq⟩ := hr
          repeat (first | exact hq | exact wpAny_pure hq | exact wpAny_truthy_bool hq | (refine wpAny_bind (m := truthy (.bool _)) (wpAny_truthy_bool ?_)) | wp_step)) fun _ _ e => e)))
    | wp_step)
theorem ne_K {Q : Value → Shared → Prop} (hu : A.units + 1 < cLine) (X : K.In s.heap) (I : PySem.W.InstAt s.heap x ox C od) (hb : PySem.W.Looks (model prog w) s.heap (typeOf b) tb) (hn : PySem.W.notFirst K C tb = true)
    (hs : PySem.W.findIn K (.ref C) "__eq__" = some (some (.ref f))) (hf : PySem.W.isFn K (.ref f) = true) (hne : PySem.W.findIn K (.ref C) "__ne__" = some (some (.builtin "object.__ne__"))) (hob : PySem.W.subIn K (.ref C) (.type "object") = some true)
    (h : wpAny (model prog w) A.in1 (call (.ref f) [.ref x, b]) (fun v s' => ∃ k, v = .bool k ∧ Q (.bool (!k)) s') E s) : wpAny (model prog w) A (richCompare .NotEq (.ref x) b) Q E s := by
  have isO : PySem.W.Looks (model prog w) s.heap (isInstance (.ref x) (.type "object")) true := I.type.andThen (PySem.W.looks_subIn X hob)
  have one : wpAny (model prog w) A (tryCompare (.ref x) (cmpInfo .NotEq).2.1 b) (fun r s' => ∃ v, r = some v ∧ Q v s') E s := by
    unfold tryCompare
    refine wpAny_bind (ifBound_B PySem.F.cmp_object.ne X I hne (wpAny_call (codeAny_call_builtin PySem.F.cmp_object.ne.plain PySem.F.cmpEntry_ne
      (PySem.W.check_slot PySem.F.cmpKind_ne PySem.F.cmpSplit_ne isO (PySem.F.cmpArgs_ne _ _) (objNe_K (A := A.in1) X I hs hf hu (wpAny_mono h (fun v s' hv => ?_) fun _ _ e => e))))))
    obtain ⟨k, rfl, hq⟩ := hv
    first | exact ⟨k, rfl, wpAny_pure ⟨_, rfl, hq⟩⟩ | exact ⟨k, rfl, wpAny_pure (wpAny_pure ⟨_, rfl, hq⟩)⟩
  unfold richCompare
  simp only [oneThing_ref]
  refine wpAny_holding (wpAny_bind (wpAny_cRoomFor (Nat.lt_of_succ_lt hu) ?_))
  refine wpAny_bind (I.type.here (wpAny_bind (hb.here ?_)))
  split
  · rename_i q
    have e : PySem.W.subIn K tb (.ref C) = some false := by
      rcases Bool.or_eq_true_iff.mp hn with e | e
      · rw [beq_iff_eq.mp e] at q; simp at q
      · exact beq_iff_eq.mp e
    refine wpAny_bind ((PySem.W.looks_subIn X e).here ?_)
    simp only [Bool.false_eq_true, if_false]
    refine wpAny_bind (wpAny_mono one (fun r s' z => ?_) fun _ _ e => e)
    obtain ⟨v, rfl, hq⟩ := z
    exact wpAny_pure hq
  · refine wpAny_bind (wpAny_pure ?_)
    simp only [Bool.false_eq_true, if_false]
    refine wpAny_bind (wpAny_mono one (fun r s' z => ?_) fun _ _ e => e)
    obtain ⟨v, rfl, hq⟩ := z
    exact wpAny_pure hq
end
end Ver

namespace Ver
open PySem PySem.Spec PyProof.Rows L2
/-- what the written part tells of the class at C whose == is the def at f, against a value of the type t -/
structure OwnQ (K : PySem.W.Frag) (C f : Addr) (t : Value) : Prop where
  nf : PySem.W.notFirst K C t = true
  eq : PySem.W.findIn K (.ref C) "__eq__" = some (some (.ref f))
  fn : PySem.W.isFn K (.ref f) = true
  ne : PySem.W.findIn K (.ref C) "__ne__" = some (some (.builtin "object.__ne__"))
  ob : PySem.W.subIn K (.ref C) (.type "object") = some true
section
variable {X : Cx} {CX : CXT} {k : Nat} {f C : Addr} {sp : Sp} {E : XK} {pins : List (Addr × Obj)} {σ : L2.St} {H : Hp} {s : Shared} {Q : VK} {us : List Value} {vs : List V}
/-- the callee's run, one call further in -/
theorem runG1 (F : FnG X.prog X.w X.K X.mg X.base CX k f sp) (hr : Room (k + 1) X.A) (hgd : X.A.guards = some []) (hx : Passes CX X E) (I : Inv X pins σ H s) (r : Vals vs us) (h : sp vs H Q E) :
    wpAny (model X.prog X.w) X.A.in1 (call (.ref f) us) (EP X pins σ Q) X.xe s :=
  wpAny_call (codeAny_mono (F X.A.in1 X.stack s H us vs Q E hgd hr.in1 I.env0.in1 r h) fun rs s' hq => by
    match rs, hq with
    | .error e', hq => exact hx pins σ H s e' s' I hq
    | .ok (.ret u), hq => exact I.after hq
    | .ok .next, hq => exact hq.elim
    | .ok .brk, hq => exact hq.elim
    | .ok .cont, hq => exact hq.elim)
def rOwnQ (K : PySem.W.Frag) (f : Addr) (sp : Sp) (E : XK) (g : Bool → Bool) : R2 := fun x y H Q => ∃ (a C dx : Addr) (fs : List (Str × V)) (t : Value), x = .ref a ∧ H a = some (.ins C dx fs) ∧ TyX K H y t ∧ OwnQ K C f t ∧
  sp [x, y] H (fun z H' => ∃ b : Bool, z = .bl b ∧ Q (.bl (g b)) H') E
theorem op_eqOwn (F : FnG X.prog X.w X.K X.mg X.base CX k f sp) (hr : Room (k + 1) X.A) (hgd : X.A.guards = some []) (hx : Passes CX X E) : OpR X (compareOp .Eq) (rOwnQ X.K f sp E fun b => b) := by
  intro pins s σ H x y v u Q I rx ry h
  obtain ⟨a, C, dx, fs, t, rfl, ea, ty, O, q⟩ := h
  cases (show v = Value.ref a from rx)
  obtain ⟨mA, ob, r, wi, _, ho⟩ := ins_get I.hok ea
  obtain ⟨od, J, _⟩ := ob.look
  obtain ⟨P, kx, hp, _⟩ := kit_of I ry ty
  obtain ⟨m, hF⟩ := I.fr
  show wpAny _ _ (richCompare .Eq (.ref a) u) _ _ _
  refine PySem.W.cmp_K (op := .Eq) (tb := t) (Nat.lt_of_lt_of_le (Nat.lt_of_le_of_lt (Nat.le_add_right _ 64) hr.units) (Nat.le_refl _)) hF I.ok.mod.kin J (kx.ty _ _ I.kIn hp) O.nf O.eq O.fn ?_
  refine wpAny_mono (runG (us := [.ref a, u]) (vs := [.ref a, y]) F (hr.mono (Nat.le_succ k)) hgd hx I (.cons rfl (.cons ry .nil)) q) (fun w s' z => ?_) fun _ _ x => x
  obtain ⟨z', H', I', rz, b, rfl, qz⟩ := z
  cases (show w = Value.bool b from rz)
  exact ⟨.bl b, H', I', rfl, qz⟩
theorem op_neOwn (F : FnG X.prog X.w X.K X.mg X.base CX k f sp) (hr : Room (k + 1) X.A) (hgd : X.A.guards = some []) (hx : Passes CX X E) : OpR X (compareOp .NotEq) (rOwnQ X.K f sp E fun b => !b) := by
  intro pins s σ H x y v u Q I rx ry h
  obtain ⟨a, C, dx, fs, t, rfl, ea, ty, O, q⟩ := h
  cases (show v = Value.ref a from rx)
  obtain ⟨mA, ob, r, wi, _, ho⟩ := ins_get I.hok ea
  obtain ⟨od, J, _⟩ := ob.look
  obtain ⟨P, kx, hp, _⟩ := kit_of I ry ty
  show wpAny _ _ (richCompare .NotEq (.ref a) u) _ _ _
  refine ne_K (tb := t) (Nat.lt_of_le_of_lt (Nat.add_le_add_left (by decide) _) hr.units) I.kIn J (kx.ty _ _ I.kIn hp) O.nf O.eq O.fn O.ne O.ob ?_
  refine wpAny_mono (runG1 (us := [.ref a, u]) (vs := [.ref a, y]) F hr hgd hx I (.cons rfl (.cons ry .nil)) q) (fun w s' z => ?_) fun _ _ x => x
  obtain ⟨z', H', I', rz, b, rfl, qz⟩ := z
  cases (show w = Value.bool b from rz)
  exact ⟨b, rfl, .bl (!b), H', I', rfl, qz⟩
end
/-! ### a static method, read off its class; what is raised is caught here -/
/-- what the written part tells of a static method -/
structure StM (K : PySem.W.Frag) (C : Addr) (m : Str) (f : Addr) : Prop where
  ga : PySem.W.specialIn K (.ref C) "__getattribute__" = some (some (.builtin "type.__getattribute__"))
  ty : PySem.W.typeIn K (.ref C) = some (.type "type")
  rd : PySem.W.readsIn K C (.type "type") = true
  at_ : ∃ p, PySem.W.findCls K (.ref C) (.type "type") m = some (.get (.builtin "staticmethod.__get__") (.ref p) .none (.ref C)) ∧ ∃ rest, PySem.W.recIn K p "staticmethod" = some (.ref f :: rest)
  kp : PySem.W.keepIn K (.ref f) = true
section
variable {X : Cx} {CX : CXT} {k : Nat} {f C : Addr} {sp : Sp} {x m : Str} {p pos apos : Pos} {e : Expr} {es : List Expr} {t : TA}
/-- C.m(e, ..), what it raises is wished for at the slots -/
theorem pe_stcGS {E : L2.St → XK} {pl : Sem Bool} (S : StM X.K C m f) (hg : Gl X x) (hm : X.mg x = some (.ref C)) (F : FnG X.prog X.w X.K X.mg X.base CX k f sp) (hr : Room k X.A) (hgd : X.A.guards = some []) (hx : ∀ σ, PassesAt CX X σ (E σ)) (ha : PA X (e :: es) t)
    (hst : starEach (e :: es) X.env = (false, eval e X.env) :: starEach es X.env := by rfl) (hpl : (backTo pos (starEach es X.env)).any (·.1) = false := by rfl)
    (ht : eval (.Call (.Attribute (.Name x p) m apos) (e :: es) [] pos) X.env = (do
      let ov ← eval (.Name x p) X.env
      standAt apos.atName
      let (g, first) ← holding [ov] (getMethod ov m pl)
      callWith pos g first (backTo pos (starEach (e :: es) X.env)) (backToKw pos (keywordEach [] X.env))) := by rfl) (hdb : (x == ("__debug__" : Str)) = false := by decide) :
    PE X (.Call (.Attribute (.Name x p) m apos) (e :: es) [] pos) (fun σ H Q => t σ H fun vs H1 => sp vs H1 Q (E σ)) := by
  obtain ⟨pa, fc, rest, hp⟩ := S.at_
  refine ⟨fun pins s σ H Q I h => PySem.W.methodCall_KW (pl := pl) (ld_glob I hg hm ?_ hdb) ht⟩
  obtain ⟨mm, fr⟩ := I.fr
  refine PySem.W.method_of_cls fr I.ok.mod.kin S.ga (PySem.W.cls_sm fr I.ok.mod.kin S.ty S.rd fc hp (by rfl) ?_)
  have J := I.tok (s.toks + 1)
  refine PySem.W.callWith_K (first := []) (h₀ := X.base) I.ok.mod.kin S.kp (thn (ha.run pos pins _ σ H _ J h) fun us s1 z => ?_) hst hpl
  obtain ⟨vs, H1, I1, r, q⟩ := z
  refine ⟨I1.kIn, ?_⟩
  exact wpAny_call (codeAny_mono (F X.A X.stack s1 H1 us vs Q (E σ) hgd hr I1.env0 r q) fun rs s' hq => by
    match rs, hq with
    | .error e', hq => exact hx σ pins H1 s1 e' s' I1 hq
    | .ok (.ret u), hq => exact I1.after hq
    | .ok .next, hq => exact hq.elim
    | .ok .brk, hq => exact hq.elim
    | .ok .cont, hq => exact hq.elim)
/-- C(e, ..), what __init__ raises is wished for at the slots -/
def tMakeGS (C : Addr) (sp : Sp) (E : L2.St → XK) (t : TA) : TE := fun σ H Q => StX.tMakeR C sp (E σ) t σ H Q
theorem pe_makeGS {E : L2.St → XK} (M : Mk X.K C f) (F : FnG X.prog X.w X.K X.mg X.base CX k f sp) (hr : Room (k + 1) X.A) (hgd : X.A.guards = some []) (hg : Gl X x) (hm : X.mg x = some (.ref C)) (hx : ∀ σ, PassesAt CX X σ (E σ)) (ha : PA X (e :: es) t)
    (hdb : (x == ("__debug__" : Str)) = false := by decide) (he : starEach (e :: es) X.env = (false, eval e X.env) :: starEach es X.env := by rfl)
    (hpl : (backTo pos (starEach es X.env)).any (·.1) = false := by rfl) : PE X (.Call (.Name x p) (e :: es) [] pos) (tMakeGS C sp E t) := by
  refine ⟨fun pins s σ H Q I h => wpAny_Call_Name_kw (ld_glob I hg hm (PySem.W.callWith_K (h₀ := X.base) I.ok.mod.kin M.kp (thn (ha.run pos pins s σ H _ I h) fun us s1 z => ?_) he hpl) hdb)⟩
  obtain ⟨vs, H1, I1, r, q⟩ := z
  refine ⟨I1.kIn, wpAny_call (make_map (f := f) I1.kIn M.makes M.init (beq_iff_eq.mp M.fn) ?_)⟩
  have q2 := q (s1.heap.objs.size + 1) s1.heap.objs.size (I1.hok.fresh (Nat.le_succ _)) (I1.hok.fresh (Nat.le_refl _)) (Nat.ne_of_lt (Nat.lt_succ_self _))
  have I2 := Inv.made (C := C) I1
  refine codeAny_mono (F _ X.stack _ _ (Value.ref (s1.heap.objs.size + 1) :: us) (V.ref (s1.heap.objs.size + 1) :: vs) _ (E σ) (made_guards hgd C us) (hr.make C us []) (I2.env0.make C us []) (.cons rfl r) q2) fun rs s' hq => ?_
  match rs, hq with
  | .error e', hq => exact hx σ pins _ _ e' s' I2 hq
  | .ok (.ret u), hq =>
    obtain ⟨v, H', I3, rv, ev, q3⟩ := I2.after hq
    subst ev
    exact ⟨rv, V.ref (s1.heap.objs.size + 1), H', I3, rfl, q3⟩
  | .ok .next, hq => exact hq.elim
  | .ok .brk, hq => exact hq.elim
  | .ok .cont, hq => exact hq.elim
end
end Ver

namespace Ver
open PySem PySem.Spec PyProof.Rows L2
/-- isinstance(e, c), e the exception that the suite holds, its dict at dd -/
def rIsED (K : PySem.W.Frag) (D a dd : Addr) : List V → Hp → VK → Prop := fun xs H Q => ∃ (c : V) (cv : Value) (b : Bool) (fs : List (Str × V)), xs = [.ref a, c] ∧ (∀ u, RelV c u → u = cv) ∧ PySem.W.kitOne K (.ref D) cv = some b ∧ H dd = some (.xd fs) ∧ Q (.bl b) H
theorem call_isED {X : Cx} {a D dd : Addr} {oe : Obj} {pn : List (Addr × Obj)} (C : ExcC X.K D) (hz : Zc (.ref D) (some dd) oe) (hf : ∃ vs, oe.data = .fields vs) : CallR (X.suite a ((a, oe) :: pn)) (.builtin "isinstance") (rIsED X.K D a dd) := by
  intro pins s σ H xs us Q I r h
  obtain ⟨c, cv, b, fs, rfl, hcv, e, ea, q⟩ := h
  match us, r with
  | [_, _], .cons rx (.cons rt .nil) =>
    cases rx
    cases hcv _ rt
    obtain ⟨g, _⟩ := I.pin (a, oe) (List.mem_append_left _ List.mem_cons_self)
    obtain ⟨vs, hv⟩ := hf
    obtain ⟨mA, hns, _⟩ := show ObjOk X.prog X.w H s.heap dd (.xd fs) from I.hok dd _ ea
    obtain ⟨od, ho, _⟩ := lookIn_ns hns
    obtain ⟨cd, hc, _⟩ := PySem.W.any_some C.hd
    have J : PySem.W.InstAt s.heap a oe D (some od) := ⟨g, hz.1, by unfold PySem.W.notCls; rw [hv] <;> rfl, by rw [hz.2]; exact ho⟩
    exact PySem.W.kia_one (PySem.W.kitx_exc (by rw [hc]; rfl) C.hg C.hk C.hs C.ha C.hn C.ht C.hm) I.kIn J e (fun z => nomatch z) fun tk => ⟨.bl b, H, I.kept (t' := tk) fun _ _ z => z, rfl, q⟩
end Ver

namespace Ver
open PySem PySem.Spec PyProof.Rows L2 SeqAt
open AutoSeq1 (wpAny_loadPart')
/-! ### a dict and a text are never equal -/
theorem dict_no_str (l : Addr) (o : Obj) (b : Str) (u : Tok) :
    PySem.Meets (Builtin.«dict.__eq__» ⟨[.ref l, .str b u], []⟩) (fun _ R s => s.heap.get? l = some o ∧ R (.ok (.ret .notImplemented)) s) := .of_wp fun prog w A R s h => by
  obtain ⟨hp, g, d, tk, os⟩ := s
  have f1 := PySem.F.sub_str_dict
  wp_walk using wpAny_loadPart' h.1
  exact ⟨_, rfl, h.2⟩
theorem str_no_dict (l : Addr) (o : Obj) (b : Str) (u : Tok) (es : Array DictEntry) (ep : Nat) (hd : o.data = .dict es ep) :
    PySem.Meets (Builtin.«str.__eq__» ⟨[.str b u, .ref l], []⟩) (fun _ R s => s.heap.get? l = some o ∧ R (.ok (.ret .notImplemented)) s) := .of_wp fun prog w A R s h => by
  obtain ⟨hp, g, d, tk, os⟩ := s
  wp_walk using wpAny_loadPart' h.1, wpAny_load h.1
  rw [hd]
  wp_walk using wpAny_loadPart' h.1, wpAny_load h.1
  exact ⟨_, rfl, h.2⟩
section
variable {A : Around} {s : Shared} {l : Addr} {o : Obj} {es : Array DictEntry} {ep : Nat}
theorem rc_str_dict (b : Str) (u : Tok) (ho : s.heap.get? l = some o) (hc : o.cls = .type "dict") (hd : o.data = .dict es ep) (hu : A.units < cLine) : RcAt A s (.str b u) (.ref l) false := fun prog w E Q h =>
  rc_eq_decline_or (k := false) (typeIs_str s b u) ⟨_, ho, hc⟩ (by decide) PySem.F.sub_dict_str PySem.F.slot_str_eq PySem.F.slot_dict_eq_refl
    (fun _ q => call_meets PySem.F.slot_str_eq (typeIs_str s b u) PySem.F.entry_str_eq (PySem.F.args_str_eq_2 _ _) (str_no_dict l o b u es ep hd) ⟨ho, q⟩)
    (fun _ q => call_meets PySem.F.slot_dict_eq_refl ⟨_, ho, hc⟩ PySem.F.entry_dict_eq (PySem.F.args_dict_eq_2 _ _) (dict_no_str l o b u) ⟨ho, q⟩)
    (fun _ q => wpAny_of_eq (rfl : isSame (.str b u) (.ref l) = pure false) q) (.inr hu) h
theorem rc_dict_str (b : Str) (u : Tok) (ho : s.heap.get? l = some o) (hc : o.cls = .type "dict") (hd : o.data = .dict es ep) (hu : A.units < cLine) : RcAt A s (.ref l) (.str b u) false := fun prog w E Q h =>
  rc_eq_decline_or (k := false) ⟨_, ho, hc⟩ (typeIs_str s b u) (by decide) PySem.F.sub_str_dict PySem.F.slot_dict_eq PySem.F.slot_str_eq_refl
    (fun _ q => call_meets PySem.F.slot_dict_eq ⟨_, ho, hc⟩ PySem.F.entry_dict_eq (PySem.F.args_dict_eq_2 _ _) (dict_no_str l o b u) ⟨ho, q⟩)
    (fun _ q => call_meets PySem.F.slot_str_eq_refl (typeIs_str s b u) PySem.F.entry_str_eq (PySem.F.args_str_eq_2 _ _) (str_no_dict l o b u es ep hd) ⟨ho, q⟩)
    (fun _ q => wpAny_of_eq (rfl : isSame (.ref l) (.str b u) = pure false) q) (.inr hu) h
theorem ea_str_dict (b : Str) (u : Tok) (ho : s.heap.get? l = some o) (hc : o.cls = .type "dict") (hd : o.data = .dict es ep) (hu : A.units < cLine) : EqAt A s (.str b u) (.ref l) false := fun prog w E Q h => by
  unfold eqBool
  exact wpAny_holding (wpAny_ite_split (fun z => absurd (eq_of_beq z) nofun) fun _ => wpAny_bind (rc_str_dict b u ho hc hd hu prog w E _ (wpAny_truthy_bool h)))
end
section
variable {X : Cx}
/-- a dict == a text; a dict that is sought among texts -/
def rEqDS : R2 := fun x y H Q => ∃ (a : Addr) (kvs : List (Key × V)) (t : Str), x = .ref a ∧ y = .str t ∧ H a = some (.dK kvs) ∧ Q (.bl false) H
theorem op_eqDS (hu : X.A.units < cLine) : OpR X (compareOp .Eq) rEqDS := by
  intro pins s σ H x y v u Q I rx ry h
  obtain ⟨a, kvs, t, rfl, rfl, ea, q⟩ := h
  cases (show v = Value.ref a from rx)
  obtain ⟨tk, rfl⟩ := ry
  obtain ⟨_, _, vs, _, o, es, ep, ho, he, hd, _⟩ := dk_of I.hok ea
  show wpAny _ _ (richCompare .Eq (.ref a) (.str t tk)) _ _ _
  exact rc_dict_str t tk ho he.1 hd hu X.prog X.w _ _ ⟨.bl false, H, I, rfl, q⟩
def rNotInDS (K : PySem.W.Frag) : R2 := fun x y H Q => ∃ (a b : Addr) (kvs : List (Key × V)) (ts : List Str), x = .ref a ∧ y = .ref b ∧ H a = some (.dK kvs) ∧ SqL K H b (ts.map V.str) ∧ Q (.bl true) H
theorem op_notInDS (hu : X.A.units + 1 < cLine) : OpR X (compareOp .NotIn) (rNotInDS X.K) := by
  intro pins s σ H x y v u Q I rx ry h
  obtain ⟨a, b, kvs, ts, rfl, rfl, ea, hl, q⟩ := h
  cases (show v = Value.ref a from rx)
  cases (show u = Value.ref b from ry)
  obtain ⟨_, _, vs, _, o, es, ep, ho, he, hd, _⟩ := dk_of I.hok ea
  obtain ⟨its, rv, ⟨ob, n, hob, hoc, hdn, hdd⟩, _⟩ := I.list hl
  refine notIn_listAt (fun _ => false) ⟨ob, hob, hoc, n, hdd⟩ (fun z hz => ?_) ?_
  · obtain ⟨i, hi, e⟩ := Array.mem_iff_getElem.mp hz
    have hi2 : i < its.length := by simpa using hi
    have e2 : its[i] = z := by simpa using e
    have hlen := rv.length
    rw [List.length_map] at hlen
    obtain ⟨w2, hw, rw_⟩ := rv.get (i := i) (x := V.str ts[i]) (by rw [List.getElem?_map, List.getElem?_eq_getElem (by omega)]; rfl)
    rw [List.getElem?_eq_getElem hi2, e2] at hw
    cases hw
    obtain ⟨tk, rfl⟩ := rw_
    exact ea_str_dict ts[i] tk ho he.1 hd hu
  · have e : its.toArray.any (fun _ => false) = false := by simp
    rw [e]
    exact ⟨.bl true, H, I, rfl, q⟩
end
end Ver

/-! errors of one's own over any of Python's errors: made, by place and by name, as values -/
namespace PySem
namespace HandSPX
open Builtin Builtin.ObjectAttr
structure EB where
  B : String
  nw : String
  it : String
  bm : List Value
structure EBF (b : EB) : Prop where
  F : ExcBaseFacts b.B b.nw b.it b.bm
  pass : ∀ self, refuseLoop self "__setattr__" b.bm = pure ()
  ob : b.bm.contains (.type "object") = true
  ty : typeOf (.type b.B) = pure (.type "type")
def bVal : EB := ⟨"ValueError", "ValueError.__new__", "ValueError.__init__", [.type "ValueError", .type "Exception", .type "BaseException", .type "object"]⟩
def bLook : EB := ⟨"LookupError", "LookupError.__new__", "LookupError.__init__", [.type "LookupError", .type "Exception", .type "BaseException", .type "object"]⟩
def bAri : EB := ⟨"ArithmeticError", "ArithmeticError.__new__", "ArithmeticError.__init__", [.type "ArithmeticError", .type "Exception", .type "BaseException", .type "object"]⟩
def bOver : EB := ⟨"OverflowError", "OverflowError.__new__", "OverflowError.__init__", [.type "OverflowError", .type "ArithmeticError", .type "Exception", .type "BaseException", .type "object"]⟩
def bRun : EB := ⟨"RuntimeError", "RuntimeError.__new__", "RuntimeError.__init__", [.type "RuntimeError", .type "Exception", .type "BaseException", .type "object"]⟩
theorem ebVal : EBF bVal := ⟨F.excBase_ValueError, fun self => by kernel_rfl, by decide +kernel, by kernel_rfl⟩
theorem ebLook : EBF bLook := ⟨F.excBase_LookupError, fun self => by kernel_rfl, by decide +kernel, by kernel_rfl⟩
theorem ebAri : EBF bAri := ⟨F.excBase_ArithmeticError, fun self => by kernel_rfl, by decide +kernel, by kernel_rfl⟩
theorem ebOver : EBF bOver := ⟨F.excBase_OverflowError, fun self => by kernel_rfl, by decide +kernel, by kernel_rfl⟩
theorem ebRun : EBF bRun := ⟨F.excBase_RuntimeError, fun self => by kernel_rfl, by decide +kernel, by kernel_rfl⟩
section
variable {prog : Program} {w : World} {A : Around} {E : Value → Shared → Prop} {R : Result → Shared → Prop} {hp : Heap} {g : Array GenState} {d : Drawn} {t : Nat} {os : OsState}
theorem gosa {K : W.Frag} {b : EB} (BF : EBF b) {name : Str} {tk : Tok} {v : Value} {x C : Addr} {fv : Array Value} {cd : ClassData}
    (X : K.In hp) (hat : hp.get? x = some { cls := .ref C, data := .fields fv }) (hdat : W.clsIn K C = some cd) (hmro : cd.mro = .ref C :: b.bm) (hdic : cd.hasDict = true) (ha : W.findIn K (.ref C) name = some none)
    (post : ∀ h' tk' dx, (∀ b o, b ≠ x → hp.get? b = some o → h'.get? b = some o) → hp.objs.size ≤ dx → dx ≠ x → h'.get? x = some { cls := .ref C, dict := some dx, data := .fields fv } →
      h'.Ns1 dx (fun y => if y = name then some v else none) → R (.ok (.ret .none)) ⟨h', g, d, tk', os⟩) :
    codeAny (model prog w) A (.call (.builtin "object.__setattr__") ⟨[.ref x, .str name tk, v], []⟩) R ⟨hp, g, d, t, os⟩ := by
  have I : W.InstAt hp x { cls := .ref C, data := .fields fv } C none := ⟨hat, rfl, rfl, trivial⟩
  have sto := F.store_object
  have ne : cd.mro.isEmpty = false := by rw [hmro] <;> rfl
  have hobt : cd.mro.contains (.type "object") = true := by
    rw [hmro, List.contains_cons, BF.ob, Bool.or_true]
  have xnew : x ≠ hp.objs.size := Nat.ne_of_lt (Heap.lt_size hat)
  have sbs : W.Looks (model prog w) hp (isInstance (.ref x) (.type "object")) true := I.type.andThen (W.looks_mroIn X (by unfold W.mroIn; rw [hdat, Option.bind_some, if_neg (by rw [ne]; decide), hobt]))
  refine codeAny_call_builtin sto.slot.plain sto.entry (@W.check_slot (model prog w) _ _ ⟨hp, g, d, t, os⟩ "object.__setattr__" "object" "__setattr__" (.ref x) [.str name tk, v] [] _ sto.kind sto.split sbs (sto.args (.ref x) (.str name tk) v) ?_)
  have lmro : W.Looks (model prog w) hp (mroOf (.ref C)) cd.mro := (W.looks_clsIn X hdat).andThen .now
  have ltk : W.Looks (model prog w) hp (storeTaker? none) none := .now
  have ldat : W.Looks (model prog w) hp (classData C) cd := W.looks_clsIn X hdat
  rw [W.osa_eq, refuse_eq]
  refine wpAny_bind (wpAny_bind (I.type.at (wpAny_bind (lmro.at ?_))))
  rw [show refuseLoop (.ref x) "__setattr__" cd.mro = pure () from by rw [hmro, refuseLoop_ref]; exact BF.pass _]
  refine wpAny_pure (wpAny_bind (I.type.at (wpAny_bind ((W.looks_findIn X ha).at (wpAny_bind (ltk.at ?_))))))
  show wpAny _ _ (storeInOwnDict (.ref x) (.ref C) (.str name tk) name v false) _ _ _
  obtain ⟨nm, bs, mro, ns, qn, hd, sn, sb, ab, col, del⟩ := cd
  dsimp only at hdic
  subst hdic
  unfold storeInOwnDict ownDictForStores
  repeat (first | with_reducible refine store_in_new ?_ ?_ | with_reducible refine wpAny_loadPart_at hat ?_ | with_reducible refine ldat.at ?_ | wp_step)
  · exact ⟨_, #[], _, (Heap.get?_update_ne _ _ _ _ xnew.symm).trans (Heap.get?_push_at rfl rfl), rfl, fun e he => absurd he (by simp), fun _ => rfl⟩
  · intro h' tk' hn' hs
    have hat1 : (hp.push { cls := .type "dict", data := .dict #[] }).get? x = some { cls := .ref C, data := .fields fv } := Heap.get?_push_of_some _ hat
    refine post h' tk' hp.objs.size (fun b o hbnd ho => ?_) (Nat.le_refl _) xnew.symm ?_ hn'
    · exact (hs.2 b (Nat.ne_of_lt (Heap.lt_size ho))).trans ((Heap.get?_update_ne _ _ _ _ hbnd).trans (Heap.get?_push_of_some _ ho))
    · exact (hs.2 x xnew).trans (Heap.get?_update_self _ hat1 rfl)
end
section
variable {M : Model} {A : Around} {E : Value → Shared → Prop} {h : Heap} {g : Array GenState} {d : Drawn} {t : Nat} {os : OsState}
variable {nm q : Str} {C N : Addr} {bs bm bmB : List Value} {hdct : Bool} {sn : List Str} {sbs : List Value} {ab : Bool} {col : Option Bool} {dd : Option Addr} {k0 k1 k2 k3 k5 : Option Value} {B newId initId : String}
theorem check_newKw (F : ExcBaseFacts B newId initId bmB) (htail : ∀ X : String, bm.contains (.type X) = bmB.contains (.type X)) {vals : List Value} {kw : List (Str × Value)} {Q : Unit → Shared → Prop}
    (hcl : h.get? C = some (excClassObj nm q C N bs bm hdct sn sbs ab col dd k0 k1 k2 k3 k5 newId)) (post : Q () ⟨h, g, d, t, os⟩) : wpAny M A (checkBuiltinCall newId ⟨.ref C :: vals, kw⟩) Q E ⟨h, g, d, t, os⟩ := by
  have cB : (Value.ref C :: bm).contains (.type B) = true := by rw [List.contains_cons, htail, F.hasB, Bool.or_true]
  have nst := F.noStar
  simp only [checkBuiltinCall, F.newKind, F.newSplit, F.newRow]
  repeat (first | refine wpAny_loadPart_at hcl ?_ | (refine wpAny_isSubtype_exc hcl ?_; rw [cB]) | refine wpAny_staticBase_exc hcl ?_ | refine wpAny_madeBy_exc hcl ?_ | simp only [bne_self_eq_false, Bool.false_eq_true, if_false] | wp_step)
  exact post
end
section
variable {prog : Program} {w : World} {A : Around} {E : Value → Shared → Prop} {R : Result → Shared → Prop} {h : Heap} {g : Array GenState} {d : Drawn} {t : Nat} {os : OsState}
variable {nm q : Str} {C N : Addr} {bs bm bmB : List Value} {hdct : Bool} {sn : List Str} {sbs : List Value} {ab : Bool} {col : Option Bool} {dd : Option Addr} {k0 k1 k2 k3 k5 : Option Value} {B newId initId : String}
theorem newKw (F : ExcBaseFacts B newId initId bmB) (htail : ∀ X : String, bm.contains (.type X) = bmB.contains (.type X)) {vals : List Value} {kw : List (Str × Value)}
    (hcl : h.get? C = some (excClassObj nm q C N bs bm hdct sn sbs ab col dd k0 k1 k2 k3 k5 newId))
    (post : R (.ok (.ret (.ref (h.objs.size + 1)))) ⟨(h.push { cls := .type "tuple", data := .seq vals.toArray }).push
      { cls := .ref C, data := .fields #[.ref h.objs.size, .none, .none, .none, .bool false, .none] }, g, d, t, os⟩) (hlen : vals.length ≤ sizeLine) :
    codeAny (model prog w) A (.builtin newId ⟨.ref C :: vals, kw⟩) R ⟨h, g, d, t, os⟩ := by
  have fends := F.ends
  have cB : (Value.ref C :: bm).contains (.type B) = true := by rw [List.contains_cons, htail, F.hasB, Bool.or_true]
  have cA : (Value.ref C :: bm).contains (.type "AttributeError") = false := by rw [List.contains_cons, htail, F.noAttr]; rfl
  have cN : (Value.ref C :: bm).contains (.type "NameError") = false := by rw [List.contains_cons, htail, F.noName]; rfl
  refine codeAny_builtinAt F.entry ?_
  unfold Builtin.«BaseException.__new__»
  refine wpAt_bind ?_
  show wpAt _ _ _ (stack >>= _) _ _ _
  refine wpAt_bind (wpAt_stack fun p below => wpAt_of_wpAny ?_)
  wp_walk
  refine wpAt_of_wpAny ?_
  rw [F.owner]
  repeat (first | with_reducible refine wpAny_madeHere_exc F.canon hcl ?_ | with_reducible refine wpAny_loadPart_at hcl ?_ | (with_reducible refine wpAny_isSubtype_exc hcl ?_; first | rw [cB] | rw [cA] | rw [cN]) | wp_step)
  show R _ _
  rw [Heap.size_push]
  exact post
theorem type_callKw (F : ExcBaseFacts B newId initId bmB) (htail : ∀ X : String, bm.contains (.type X) = bmB.contains (.type X)) {vals : List Value} {kw : List (Str × Value)} {fI : Addr} {Q : Fin → Shared → Prop}
    (hcl : h.get? C = some (excClassObj nm q C N bs bm hdct sn sbs ab col dd k0 k1 k2 k3 k5 newId))
    (hini : W.Looks (model prog w) h (typeLookup (.ref C) "__init__") (some (.ref fI))) (hbnd : ∀ self, W.Looks (model prog w) h (bindSpecial (.ref fI) self) (.ref fI, [self])) (hlen : vals.length ≤ sizeLine)
    (post : codeAny (model prog w) A (.call (.ref fI) ⟨.ref (h.objs.size + 1) :: vals, kw⟩)
      (fun r s' => match r with | .ok (.ret v) => v = .none ∧ Q (.done (.ret (.ref (h.objs.size + 1)))) s' | .ok _ => False | .error e => E e s')
      ⟨(h.push (W.kdv_tup vals)).push (excO C h.objs.size), g, d, t, os⟩) :
    wpAny (model prog w) A (Builtin.«type.__call__» ⟨.ref C :: vals, kw⟩) Q E ⟨h, g, d, t, os⟩ := by
  repeat (first | with_reducible refine wpAny_loadPart_at hcl ?_ | with_reducible refine wpAny_madeBy_exc hcl ?_ | wp_step)
  refine codeAny_call_builtin_code (Code.quiet_builtin _ F.quiet) (check_newKw F htail hcl ?_)
  refine newKw F htail hcl ?_ hlen
  show wpAny _ _ _ _ _ _
  have grw : ∀ b o, h.get? b = some o → ((h.push (W.kdv_tup vals)).push (excO C h.objs.size)).get? b = some o := fun b o e => Heap.get?_push_of_some _ (Heap.get?_push_of_some _ e)
  have hcl1 := grw _ _ hcl
  have hobj : ((h.push (W.kdv_tup vals)).push (excO C h.objs.size)).get? (h.objs.size + 1) = some (excO C h.objs.size) := by heap_get
  have cC : (Value.ref C :: bm).contains (.ref C) = true := by simp
  have ini1 := hini.keeps grw
  have bnd1 := (hbnd (.ref (h.objs.size + 1))).keeps grw
  unfold isInstance
  repeat (first | with_reducible refine wpAny_loadPart_at hobj ?_ | (with_reducible refine wpAny_isSubtype_exc hcl1 ?_; rw [cC]) | wp_step)
  show wpAny _ _ (typeLookup (.ref C) _) _ _ _
  refine ini1.at ?_
  refine wpAny_holding (wpAny_bind (bnd1.at ?_))
  refine wpAny_bind (wpAny_call (codeAny_mono post fun r s' z => ?_))
  rcases r with e | (v | _ | _ | _) <;> first | exact z | exact z.elim | skip
  obtain ⟨rfl, z⟩ := z
  first
    | exact wpAny_pure (wpAny_pure z)
    | (wp_walk; exact z)
theorem callKw (F : ExcBaseFacts B newId initId bmB) (htail : ∀ X : String, bm.contains (.type X) = bmB.contains (.type X)) {vals : List Value} {kw : List (Str × Value)} {fI : Addr}
    (hcl : h.get? C = some (excClassObj nm q C N bs bm hdct sn sbs ab col dd k0 k1 k2 k3 k5 newId))
    (hini : W.Looks (model prog w) h (typeLookup (.ref C) "__init__") (some (.ref fI))) (hbnd : ∀ self, W.Looks (model prog w) h (bindSpecial (.ref fI) self) (.ref fI, [self])) (hlen : vals.length ≤ sizeLine)
    (post : codeAny (model prog w) (A.under (.builtin "type.__call__" ⟨.ref C :: vals, kw⟩)) (.call (.ref fI) ⟨.ref (h.objs.size + 1) :: vals, kw⟩) (W.InitBack (h.objs.size + 1) R)
      ⟨(h.push (W.kdv_tup vals)).push (excO C h.objs.size), g, d, t, os⟩) :
    codeAny (model prog w) A (.call (.ref C) ⟨vals, kw⟩) R ⟨h, g, d, t, os⟩ := by
  have tlk := tc_lookup
  have tbd := tc_bind (.ref C)
  have tyC : (⟨h, g, d, t, os⟩ : Shared).TypeIs (.ref C) "type" := ⟨_, hcl, rfl⟩
  refine codeAny_of_tree ?_
  show wpAny _ _ (callAny (.ref C) _) _ _ _
  repeat (any_goals (first | assumption | with_reducible refine wpAny_loadPart_at hcl ?_ | wp_step))
  refine ⟨rfl, ?_⟩
  refine codeAny_call_builtin_at (Code.quiet_builtin _ (by decide +kernel)) entry_typeCall (wpAny_check_type_call_sub hcl (type_callKw F htail hcl hini hbnd hlen ?_))
  refine codeAny_mono post fun r s' z => ?_
  rcases r with e | (v | _ | _ | _) <;> exact z
end
end HandSPX
end PySem

namespace L2
open PySem PySem.Spec PyProof.Rows PySem.HandSPX
/-- what the written part says of an own error over the base b -/
structure OexG (K : PySem.W.Frag) (b : EB) (C : Addr) : Prop where
  cls : ∃ nm q N bs sn sub ab col dd k0 k1 k2 k3 k5, K.lookup C = some (excClassObj nm q C N bs b.bm true sn sub ab col dd k0 k1 k2 k3 k5 b.nw)
  sa : PySem.W.findIn K (.ref C) "__setattr__" = some (some (.builtin "object.__setattr__"))
  kC : PySem.W.keepIn K (.ref C) = true
section
variable {X : Cx} {pins : List (Addr × Obj)} {σ : St} {H : Hp} {s : Shared} {a C dx : Addr} {f : Str} {y : V} {u : Value} {fs : List (Str × V)} {Q : Unit → Shared → Prop} {E : Value → Shared → Prop} {A : Around} {b : EB}
/-- self.f = y, the first one -/
theorem gost_new (BF : EBF b) (T : OexG X.K b C) (I : Inv X pins σ H s) (e : H a = some (exo a C none)) (hno : PySem.W.findIn X.K (.ref C) f = some none) (ry : RelV y u)
    (h : ∀ dx s', H dx = none → dx ≠ a → Inv X pins σ (upd (upd H dx (exd dx [(f, y)])) a (exo a C (some dx))) s' → Q () s') : wpAny (model X.prog X.w) A (setAttr (.ref a) f u) Q E s := by
  obtain ⟨nm, q, N, bs, sn, sub, ab, col, dd, k0, k1, k2, k3, k5, hC⟩ := T.cls
  have hdat : PySem.W.clsIn X.K C = some { name := nm, bases := bs, mro := .ref C :: b.bm, ns := N, qualname := q, hasDict := true, slotNames := sn, subclasses := sub, abstract := ab, collection := col, hasDel := false } := by unfold PySem.W.clsIn; rw [hC] <;> rfl
  obtain ⟨tup, hat⟩ := exo_at I.hok e
  obtain ⟨hp, g, d, t, os⟩ := s
  refine PySem.W.set_plain I.kIn (ox := { cls := .ref C, dict := none, data := .fields #[.ref tup, .none, .none, .none, .bool false, .none] }) (od := none) ⟨hat, rfl, rfl, trivial⟩ T.sa ?_
  refine PySem.HandSPX.gosa BF I.kIn hat hdat rfl rfl hno (fun h' tk' dx k dn dne hx hn => ?_)
  have dn0 : H dx = none := I.hok.fresh dn
  have dfar : ∀ {b : Addr} {o : Obj}, hp.get? b = some o → b ≠ dx := fun {b o} q => Nat.ne_of_lt (Nat.lt_of_lt_of_le (Heap.lt_size q) dn)
  have afar : ∀ {b : Addr}, H b = none → b ≠ a := fun {b} n z => by
    rw [z, e] at n
    cases n
  have una : Un X.fs [] H (upd (upd H dx (exd dx [(f, y)])) a (exo a C (some dx))) hp h' := {
    keep := fun b o q n _ _ => k b o (afar n) q
    slot := fun b o q n _ _ => ⟨o.slots, k b o (afar n) q⟩
    free := fun b o q n _ => by rw [upd_ne (afar n), upd_ne (dfar q)]; exact n
    there := fun b o q _ => by
      by_cases hba : b = a
      · exact ⟨_, by rw [hba]; exact hx⟩
      · exact ⟨o, k b o hba q⟩
    tups := fun b xs q => by rw [upd_ne (at_ne e q exo_tup), upd_ne (ne_of_none q dn0)]; exact q
    frzs := fun b o v q => by rw [upd_ne (at_ne e q exo_frz), upd_ne (ne_of_none q dn0)]; exact q
    tbls := fun b ps q => ⟨#[], by rw [upd_ne (at_ne e q exo_tbl), upd_ne (ne_of_none q dn0), q]; simp⟩ }
  refine h dx _ dn0 dne (I.un (t' := tk') una fun b o q => ?_)
  by_cases hba : b = a
  · subst hba
    rw [upd_same] at q
    cases q
    exact exo_ok hx
  · rw [upd_ne hba] at q
    by_cases hbd : b = dx
    · subst hbd
      rw [upd_same] at q
      cases q
      exact exd_ok hn (relO_put (fs := []) ry fun g => True.intro)
    · rw [upd_ne hbd] at q
      exact (I.hok b o q).stay (fun c v hc z => k c v (by
          rcases hc with hc | hc
          · rw [hc]
            exact hba
          · exact at_ne e hc exo_own) z)
        (fun c hc => by rw [upd_ne (at_ne e hc exo_own), upd_ne (ne_of_none hc dn0)]; exact hc) (fun c xs hc => by rw [upd_ne (at_ne e hc exo_tup), upd_ne (ne_of_none hc dn0)]; exact hc)
/-- B.__init__(self, ..): nothing of it is told -/
theorem ginit_ok {us : List Value} {Q : Value → Shared → Prop} (BF : EBF b) (T : OexG X.K b C) (I : Inv X pins σ H s) (e : H a = some (exo a C none)) (hl : us.length ≤ sizeLine) (h : ∀ s', Inv X pins σ H s' → Q .none s') :
    wpAny (model X.prog X.w) A (call (.builtin b.it) (.ref a :: us)) Q E s := by
  obtain ⟨nm, q, N, bs, sn, sub, ab, col, dd, k0, k1, k2, k3, k5, hC⟩ := T.cls
  obtain ⟨t1, ho⟩ := exo_at I.hok e
  obtain ⟨hp, g, d, t, os⟩ := s
  refine wpAny_call (PySem.HandSPX.init_base BF.F (fun Y => rfl) (I.kIn _ _ hC) ho hl fun h' t2 k hx => ?_)
  have J := I.write (t' := t) (x := a) (e := a) (o := exo a C none) (by rw [e]; exact True.intro) (.inl rfl) k ⟨_, hx⟩ (exo_ok hx)
  have eu : upd H a (exo a C none) = H := by
    funext b
    by_cases hb : b = a
    · rw [hb, upd_same, e]
    · rw [upd_ne hb]
  rw [eu] at J
  exact h _ J
end
/-- B.__init__(self, ..) -/
def tGI (K : PySem.W.Frag) (b : EB) (ta : TA) : TE := fun σ H Q => ta σ H fun vs H1 => ∃ (a C : Addr) (ws : List V), vs = .ref a :: ws ∧ ws.length ≤ 1000 ∧ OexG K b C ∧ H1 a = some (exo a C none) ∧ Q .non H1
/-- self.f = e -/
def tGS (K : PySem.W.Frag) (b : EB) (f : Str) (to te : TE) : TS := fun D σ H => te σ H fun y H1 => to σ H1 fun x H2 => ∃ a C : Addr, x = .ref a ∧ OexG K b C ∧ PySem.W.findIn K (.ref C) f = some none ∧
  H2 a = some (exo a C none) ∧ ∀ dx, H2 dx = none → dx ≠ a → D.nx σ (upd (upd H2 dx (exd dx [(f, y)])) a (exo a C (some dx)))
/-- C(e, ..), C's own __init__ keeping sp -/
def tGM (C : Addr) (sp : Sp) (ta : TA) : TE := fun σ H Q => ta σ H fun vs H1 => vs.length ≤ 1000 ∧ ∀ a, H1 a = none → sp (.ref a :: vs) (upd H1 a (exo a C none)) (fun v H2 => v = .non ∧ Q (.ref a) H2) (fun _ _ _ => False)
/-- e.f, e an own error that stands in H -/
def tGF (K : PySem.W.Frag) (f : Str) (te : TE) : TE := fun σ H Q => te σ H fun x H1 => ∃ (a C dd : Addr) (fs : List (Str × V)) (v : V), x = .ref a ∧ XfC K C ∧ PySem.W.findIn K (.ref C) f = some none ∧ H1 a = some (exo a C (some dd)) ∧ H1 dd = some (exd dd fs) ∧ fs.lookup f = some v ∧ Q v H1
section
variable {X : Cx} {o e : Expr} {es : List Expr} {to te : TE} {ta : TA} {f : Str} {p p' p1 p2 pos : Pos} {b : EB}
theorem pe_ginit {x : Str} {pl : Sem Bool} (BF : EBF b) (hg : Gl X x) (hm : X.mg x = none) (hb : bootBuiltins x = some (.type b.B)) (hst : Manifest.isStub b.B = false) (vV : PySem.W.findCls X.K (.type b.B) (.type "type") "__init__" = some (.val (.builtin b.it))) (hh : PySem.W.handedIn (.builtin b.it) = true) (ha : PA X (e :: es) ta)
    (hc : eval (.Call (.Attribute (.Name x p1) "__init__" p2) (e :: es) [] pos) X.env = (do
      let ov ← eval (.Name x p1) X.env
      standAt p2.atName
      let (f, first) ← holding [ov] (getMethod ov "__init__" pl)
      callWith pos f first (backTo pos (starEach (e :: es) X.env)) (backToKw pos (keywordEach [] X.env))) := by rfl)
    (he : starEach (e :: es) X.env = (false, eval e X.env) :: starEach es X.env := by rfl) (hpl : (backTo pos (starEach es X.env)).any (·.1) = false := by rfl)
    (hn : x ≠ "__name__" := by decide) (hd : (x == ("__debug__" : Str)) = false := by decide) :
    PE X (.Call (.Attribute (.Name x p1) "__init__" p2) (e :: es) [] pos) (tGI X.K b ta) := by
  refine ⟨fun pins s σ H Q I h => ?_⟩
  refine PySem.W.methodCall_KW (ld_blt I hg hm hb ?_ hn hd) hc
  obtain ⟨m, fr⟩ := I.fr
  refine PySem.W.method_type fr I.ok.mod.kin BF.ty hst vV hh ?_
  show wpAny _ _ (callWith pos (Value.builtin b.it) [] (backTo pos (starEach (e :: es) X.env)) []) _ _ _
  refine PyProof.Rows.callWith_method1 (thn (ha.run pos pins _ σ H _ (I.tok _) h) fun us s1 ⟨vs, H1, I1, r1, a, C, ws, ev, hl, T, ea, q⟩ => ?_) he hpl
  subst ev
  cases r1 with
  | @cons _ u0 _ ur ra rw' =>
    obtain rfl : u0 = Value.ref a := ra
    have hlen : ur.length ≤ sizeLine := by
      rw [← Paired.length rw', sizeLine_eq]
      omega
    exact ginit_ok BF T I1 ea hlen fun s' J => ⟨.non, H1, J, rfl, q⟩
theorem ps_gost (BF : EBF b) (ho : PE X o to) (he : PE X e te) (hs : swapsWith e (some (.Attribute o f p')) pos.line X.env = pure false := by rfl) : PS X (.Assign [.Attribute o f p'] e pos) (tGS X.K b f to te) := by
  refine ⟨fun pins s σ H D I h => ?_⟩
  refine plainObj_wpAny_Assign_Attribute (thn (he.run pins s σ H _ I h) fun v s1 ⟨y, H1, I1, r1, q1⟩ => thn (ho.run pins s1 σ H1 _ I1 q1) fun u s2 ⟨x, H2, I2, r2, a, C, ex, T, hno, ea, q⟩ => ?_) hs
  subst ex
  obtain rfl : u = Value.ref a := r2
  exact gost_new BF T I2 ea hno r1 fun dx s' n ne J => ⟨σ, _, J, q dx n ne⟩
theorem pe_gf {n : Str} (he : PE X e te) (hb : attributeBase e n X.env (eval e X.env) = eval e X.env := by rfl) : PE X (.Attribute e n pos) (tGF X.K n te) := by
  refine ⟨fun pins s σ H Q I h => ?_⟩
  refine attr_of hb (thn (he.run pins s σ H _ I h) fun u s1 hh => ?_)
  obtain ⟨x, H1, I1, rx, a, C, dd, fs, v, ex, T, hno, ea, ed, l, q⟩ := hh
  subst ex
  obtain rfl : u = Value.ref a := rx
  obtain ⟨t1, ha⟩ := exo_at I1.hok ea
  obtain ⟨mA, hns, hr⟩ := exd_at I1.hok ed
  obtain ⟨od, ho, hl⟩ := lookIn_ns hns
  obtain ⟨u, hu, ru⟩ := RelO.some_of (v := v) (o := mA n) (by rw [← l]; exact hr n)
  have J : PySem.W.InstAt s1.heap a { cls := .ref C, dict := some dd, data := .fields #[.ref t1, .none, .none, .none, .bool false, .none] } C (some od) := ⟨ha, rfl, rfl, ho⟩
  exact HandSPX.exc_get I1.kIn J T.ga T.gg T.exC (PySem.W.findObj_own T.hdC hno rfl (by rw [hl, hu])) (handed_of ru) ⟨v, H1, I1.tok _, ru, q⟩
/-- isinstance(e, c), e an own error that stands in H -/
def rIsG (K : PySem.W.Frag) : List V → Hp → VK → Prop := fun xs H Q => ∃ (a C : Addr) (d : Option Addr) (c : V) (u : Value) (b : Bool), xs = [.ref a, c] ∧ ClsV c u ∧ ExcC K C ∧ H a = some (exo a C d) ∧ (∀ dd, d = some dd → ∃ fs, H dd = some (exd dd fs)) ∧ PySem.W.kitOne K (.ref C) u = some b ∧ Q (.bl b) H
theorem call_isG : CallR X (.builtin "isinstance") (rIsG X.K) := by
  intro pins s σ H xs us Q I r h
  obtain ⟨a, D, d, c, cv, b, rfl, hcv, C, ea, ed, e, q⟩ := h
  obtain ⟨u1, u2, rfl, r1, r2⟩ := vals2 r
  have e2 := hcv.eq r2
  subst e2
  obtain rfl : u1 = Value.ref a := r1
  obtain ⟨t1, ha⟩ := exo_at I.hok ea
  obtain ⟨cd, hc, _⟩ := PySem.W.any_some C.hd
  cases d with
  | none =>
    have J : PySem.W.InstAt s.heap a { cls := .ref D, dict := none, data := .fields #[.ref t1, .none, .none, .none, .bool false, .none] } D none := ⟨ha, rfl, rfl, trivial⟩
    exact PySem.W.kia_one (PySem.W.handS_kitx_exc C.hg C.hk C.hs C.hd C.ha C.hn C.ht C.hm) I.kIn J e (fun z => nomatch z) fun tk => ⟨.bl b, H, I.kept (t' := tk) fun _ _ z => z, rfl, q⟩
  | some dd =>
    obtain ⟨fs, ef⟩ := ed dd rfl
    obtain ⟨mA, hns, _⟩ := exd_at I.hok ef
    obtain ⟨od, ho, _⟩ := lookIn_ns hns
    have J : PySem.W.InstAt s.heap a { cls := .ref D, dict := some dd, data := .fields #[.ref t1, .none, .none, .none, .bool false, .none] } D (some od) := ⟨ha, rfl, rfl, ho⟩
    exact PySem.W.kia_one (PySem.W.kitx_exc (by rw [hc]; rfl) C.hg C.hk C.hs C.ha C.hn C.ht C.hm) I.kIn J e (fun z => nomatch z) fun tk => ⟨.bl b, H, I.kept (t' := tk) fun _ _ z => z, rfl, q⟩
end
/-! ### C(..) -/
section
variable {X : Cx} {CX : CXT} {k : Nat} {fI C : Addr} {fd : FuncData} {ps : List Str} {sp : Sp} {b : EB} {x : Str} {p pos : Pos} {e : Expr} {es : List Expr} {ta : TA}
theorem run_gmk {pins : List (Addr × Obj)} {σ : St} {H : Hp} {s : Shared} {Q : VK} {us : List Value} {kw : List (Str × Value)} {g : Addr → List Value} {gv : Addr → List V} (BF : EBF b) (T : OexG X.K b C) (iC : PySem.W.findIn X.K (.ref C) "__init__" = some (some (.ref fI))) (tI : PySem.W.typeIn X.K (.ref fI) = some (.type "function"))
    (F1 : FnOk X.prog X.w X.K X.mg X.base CX k fI fd ps sp) (hr : Room (k + 1) X.A) (hx : Passes CX X (fun _ _ _ => False)) (I : Inv X pins σ H s) (hus : us.length ≤ sizeLine)
    (hb : ∀ (a : Addr) (s' : Shared), X.K.In s'.heap → (∀ vs, Vals vs (g a) → vs.length = ps.length → BindsTo s' fd ⟨.ref a :: us, kw⟩ (ps.zip (g a)))) (rr : ∀ a, Vals (gv a) (g a)) (h : ∀ a, H a = none → sp (gv a) (upd H a (exo a C none)) (fun v H2 => v = .non ∧ Q (.ref a) H2) (fun _ _ _ => False)) :
    wpAny (model X.prog X.w) X.A (call (.ref C) us kw) (EP X pins σ Q) X.xe s := by
  obtain ⟨nm, q, N, bs, sn, sub, ab, col, dd, k0, k1, k2, k3, k5, hC⟩ := T.cls
  obtain ⟨hp, g0, dr, tk, os⟩ := s
  have hsz : hp.objs.size ≤ hp.objs.size + 1 := Nat.le_succ _
  have hn : H (hp.objs.size + 1) = none := I.hok.fresh hsz
  have hq := h (hp.objs.size + 1) hn
  have kk : ∀ b o, hp.get? b = some o → ((hp.push (PySem.W.kdv_tup us)).push (PySem.HandSPX.excO C hp.objs.size)).get? b = some o := fun b o e => Heap.get?_push_of_some _ (Heap.get?_push_of_some _ e)
  have hget : ((hp.push (PySem.W.kdv_tup us)).push (PySem.HandSPX.excO C hp.objs.size)).get? (hp.objs.size + 1) = some (PySem.HandSPX.excO C hp.objs.size) := by heap_get
  have I2 : Inv X pins σ (upd H (hp.objs.size + 1) (exo (hp.objs.size + 1) C none)) ⟨(hp.push (PySem.W.kdv_tup us)).push (PySem.HandSPX.excO C hp.objs.size), g0, dr, tk, os⟩ :=
    I.laid (t' := tk) (a := hp.objs.size + 1) (o := exo (hp.objs.size + 1) C none) (h' := (hp.push (PySem.W.kdv_tup us)).push (PySem.HandSPX.excO C hp.objs.size)) kk hsz (exo_ok hget)
  refine wpAny_call (PySem.HandSPX.callKw BF.F (fun Y => rfl) (I.kIn _ _ hC) (PySem.W.looks_findIn I.kIn iC) (fun self => PySem.W.bind_fn I.kIn self tI) hus
    (codeAny_mono (F1.run _ X.stack _ _ ⟨Value.ref (hp.objs.size + 1) :: us, kw⟩ (g (hp.objs.size + 1)) _ _ (fun _ _ _ => False) (hr.make C us kw) (I2.env0.make C us kw) (hb _ _ I2.kIn _ (rr _) (F1.len _ _ _ _ hq)) (rr _) hq) fun r s' hq' => ?_))
  cases r with
  | error er => exact hx pins σ _ _ er s' I2 hq'
  | ok fl =>
    cases fl with
    | ret u =>
      obtain ⟨v, H', I3, rv, ev, q3⟩ := I2.after hq'
      subst ev
      exact ⟨rv, ⟨V.ref (hp.objs.size + 1), H', I3, rfl, q3⟩⟩
    | next => exact False.elim hq'
    | brk => exact False.elim hq'
    | cont => exact False.elim hq'
/-- C(e, ..) -/
theorem pe_gmk (BF : EBF b) (T : OexG X.K b C) (iC : PySem.W.findIn X.K (.ref C) "__init__" = some (some (.ref fI))) (tI : PySem.W.typeIn X.K (.ref fI) = some (.type "function"))
    (F1 : FnOk X.prog X.w X.K X.mg X.base CX k fI fd ps sp) (hr : Room (k + 1) X.A) (hb : Binds X.K fd ps []) (hx : Passes CX X (fun _ _ _ => False)) (hg : Gl X x) (hm : X.mg x = some (.ref C)) (ha : PA X (e :: es) ta)
    (hdb : (x == ("__debug__" : Str)) = false := by decide) (he : starEach (e :: es) X.env = (false, eval e X.env) :: starEach es X.env := by rfl) (hpl : (backTo pos (starEach es X.env)).any (·.1) = false := by rfl) :
    PE X (.Call (.Name x p) (e :: es) [] pos) (tGM C sp ta) := by
  refine ⟨fun pins s σ H Q I h => ?_⟩
  refine wpAny_Call_Name_kw (ld_glob I hg hm ?_ hdb)
  refine PySem.W.callWith_K (h₀ := X.base) I.ok.mod.kin T.kC (thn (ha.run pos pins s σ H _ I h) fun us s1 ⟨vs, H1, I1, r1, hz, q1⟩ => ⟨I1.kIn, ?_⟩) he hpl
  show wpAny _ _ (call (.ref C) us) _ _ _
  refine run_gmk (g := fun a => .ref a :: us) (gv := fun a => .ref a :: vs) BF T iC tI F1 hr hx I1 (by rw [← Paired.length r1, sizeLine_eq]; omega) (fun a s' X' vs' r' hl => ?_) (fun a => .cons rfl r1) q1
  have hl2 : (Value.ref a :: us ++ []).length = ps.length := by
    rw [List.append_nil, ← hl]
    exact r'.length.symm
  have z := hb s' (Value.ref a :: us) X' hl2
  rw [List.append_nil] at z
  exact z
/-- C(k = e, ..) -/
theorem pe_gmkK {kws : List Keyword} {ks : List Str} {tk : TA} {g : List Value → List Value → List Value} {gV : List V → List V → List V} (BF : EBF b) (T : OexG X.K b C) (iC : PySem.W.findIn X.K (.ref C) "__init__" = some (some (.ref fI))) (tI : PySem.W.typeIn X.K (.ref fI) = some (.type "function"))
    (F1 : FnOk X.prog X.w X.K X.mg X.base CX k fI fd ps sp) (hr : Room (k + 1) X.A) (hb : KBn X.K fd ps 1 ks g gV) (hx : Passes CX X (fun _ _ _ => False)) (hg : Gl X x) (hm : X.mg x = some (.ref C)) (hkw : PK X kws tk)
    (hall : (backToKw pos (keywordEach kws X.env)).all (·.1.isSome) = true := by rfl) (hks : (backToKw pos (keywordEach kws X.env)).filterMap (·.1) = ks := by rfl) (hdb : (x == ("__debug__" : Str)) = false := by decide)
    (hpl : ((backTo pos (starEach [] X.env)).any (·.1) || (backToKw pos (keywordEach kws X.env)).any (·.1.isNone)) = false := by rfl) :
    PE X (.Call (.Name x p) [] kws pos) (fun σ H Q => tk σ H fun zs H1 => zs.length = ks.length ∧ ∀ a, H1 a = none → sp (gV [.ref a] zs) (upd H1 a (exo a C none)) (fun v H2 => v = .non ∧ Q (.ref a) H2) (fun _ _ _ => False)) := by
  refine ⟨fun pins s σ H Q I h => ?_⟩
  refine wpAny_Call_Name_kw (ld_glob I hg hm ?_ hdb)
  refine PySem.W.callWith_KW0 (h₀ := X.base) I.ok.mod.kin T.kC hall ?_ hpl
  refine thn (hkw.run pos pins s σ H _ I h) fun ws s2 ⟨zs, H2, I2, rz, l2, q2⟩ => ⟨I2.kIn, ?_⟩
  rw [hks]
  exact run_gmk (us := []) (g := fun a => g [.ref a] ws) (gv := fun a => gV [.ref a] zs) BF T iC tI F1 hr hx I2 (Nat.zero_le _) (fun a s' X' vs' r' hl => hb.to s' [.ref a] ws X' rfl (rz.length.symm.trans l2)) (fun a => hb.rel (.cons rfl .nil) rz) q2
/-- C() -/
theorem pe_gmk0 (BF : EBF b) (T : OexG X.K b C) (iC : PySem.W.findIn X.K (.ref C) "__init__" = some (some (.ref fI))) (tI : PySem.W.typeIn X.K (.ref fI) = some (.type "function"))
    (F1 : FnOk X.prog X.w X.K X.mg X.base CX k fI fd ps sp) (hr : Room (k + 1) X.A) (hb : Binds X.K fd ps []) (hx : Passes CX X (fun _ _ _ => False)) (hg : Gl X x) (hm : X.mg x = some (.ref C))
    (hdb : (x == ("__debug__" : Str)) = false := by decide) :
    PE X (.Call (.Name x p) [] [] pos) (tGM C sp (fun σ H Q => Q [] H)) := by
  refine ⟨fun pins s σ H Q I h => ?_⟩
  obtain ⟨_, h⟩ := h
  refine wpAny_Call_Name_kw (ld_glob I hg hm ?_ hdb)
  refine PySem.W.callWith_K0 I.kIn T.kC ?_
  show wpAny _ _ (call (.ref C) []) _ _ _
  refine run_gmk (g := fun a => [.ref a]) (gv := fun a => [.ref a]) BF T iC tI F1 hr hx I (Nat.zero_le _) (fun a s' X' vs' r' hl => ?_) (fun a => .cons rfl .nil) h
  have z := hb s' [Value.ref a] X' (by rw [← hl]; exact r'.length.symm)
  rw [List.append_nil] at z
  exact z
end
end L2

namespace L2
open PySem PySem.Spec PyProof.Rows PySem.HandSPX
/-- an own error over the base b that is raised -/
structure OexR (K : PySem.W.Frag) (b : EB) (C : Addr) : Prop where
  g : OexG K b C
  exC : PySem.W.subIn K (.ref C) (.type "BaseException") = some true
  tyC : PySem.W.typeIn K (.ref C) = some (.type "type")
section
variable {X : Cx} {e : Expr} {es : List Expr} {ta : TA} {p pos : Pos} {b : EB}
/-- raise C(e, ..), C over any base -/
theorem pmk_gex {CX : CXT} {x : Str} {C fI : Addr} {k : Nat} {fd : FuncData} {ps : List Str} {sp : Sp} {ds : List Value} {dvs : List V} (BF : EBF b) (T : OexR X.K b C) (iC : PySem.W.findIn X.K (.ref C) "__init__" = some (some (.ref fI))) (tI : PySem.W.typeIn X.K (.ref fI) = some (.type "function"))
    (F1 : FnOk X.prog X.w X.K X.mg X.base CX k fI fd ps sp) (hr : Room (k + 1) X.A) (hb : Binds X.K fd ps ds) (hd : Vals dvs ds) (hx : Passes CX X (fun _ _ _ => False)) (hg : Gl X x) (hm : X.mg x = some (.ref C)) (ha : PA X (e :: es) ta)
    (hdb : (x == ("__debug__" : Str)) = false := by decide) (he : starEach (e :: es) X.env = (false, eval e X.env) :: starEach es X.env := by rfl) (hpl : (backTo pos (starEach es X.env)).any (·.1) = false := by rfl) :
    PMk X (.Call (.Name x p) (e :: es) [] pos) (tMkO C sp dvs ta) := by
  intro pins s σ H Q I h
  obtain ⟨nm, q, N, bs, sn, sub, ab, col, dd, k0, k1, k2, k3, k5, hC⟩ := T.g.cls
  refine wpAny_Call_Name_kw (ld_glob I hg hm ?_ hdb)
  refine PySem.W.callWith_K (h₀ := X.base) I.ok.mod.kin T.g.kC (thn (ha.run pos pins s σ H _ I h) fun us s1 ⟨vs, H1, I1, r1, hz, q1⟩ => ⟨I1.kIn, ?_⟩) he hpl
  show wpAny _ _ (call (.ref C) us) _ _ _
  obtain ⟨hp, g, dr, tk, os⟩ := s1
  have hsz : hp.objs.size ≤ hp.objs.size + 1 := Nat.le_succ _
  have hn : H1 (hp.objs.size + 1) = none := I1.hok.fresh hsz
  have hq := q1 (hp.objs.size + 1) hn
  have kk : ∀ b o, hp.get? b = some o → ((hp.push (PySem.W.kdv_tup us)).push (PySem.HandSPX.excO C hp.objs.size)).get? b = some o := fun b o e => Heap.get?_push_of_some _ (Heap.get?_push_of_some _ e)
  have hget : ((hp.push (PySem.W.kdv_tup us)).push (PySem.HandSPX.excO C hp.objs.size)).get? (hp.objs.size + 1) = some (PySem.HandSPX.excO C hp.objs.size) := by heap_get
  have I2 : Inv X pins σ (upd H1 (hp.objs.size + 1) (exo (hp.objs.size + 1) C none)) ⟨(hp.push (PySem.W.kdv_tup us)).push (PySem.HandSPX.excO C hp.objs.size), g, dr, tk, os⟩ :=
    I1.laid (t' := tk) (a := hp.objs.size + 1) (o := exo (hp.objs.size + 1) C none) (h' := (hp.push (PySem.W.kdv_tup us)).push (PySem.HandSPX.excO C hp.objs.size)) kk hsz (exo_ok hget)
  have r2 : Vals (V.ref (hp.objs.size + 1) :: (vs ++ dvs)) (Value.ref (hp.objs.size + 1) :: (us ++ ds)) := .cons rfl (r1.append hd)
  have hl : (Value.ref (hp.objs.size + 1) :: us ++ ds).length = ps.length := by
    have e := r2.length
    rw [F1.len _ _ _ _ hq] at e
    exact e.symm
  have hus : us.length ≤ sizeLine := by
    rw [← Paired.length r1, sizeLine_eq]
    omega
  refine wpAny_call (PySem.HandSPX.call_own BF.F (fun Y => rfl) (I1.kIn _ _ hC) (PySem.W.looks_findIn I1.kIn iC) (fun self => PySem.W.bind_fn I1.kIn self tI) hus
    (codeAny_mono (F1.run _ X.stack _ _ ⟨Value.ref (hp.objs.size + 1) :: us, []⟩ (Value.ref (hp.objs.size + 1) :: (us ++ ds)) _ _ (fun _ _ _ => False) (hr.make C us []) (I2.env0.make C us []) (hb _ (Value.ref (hp.objs.size + 1) :: us) I2.kIn hl) r2 hq) fun r s' hq' => ?_))
  cases r with
  | error er => exact hx pins σ _ _ er s' I2 hq'
  | ok fl =>
    cases fl with
    | ret u =>
      obtain ⟨v, H2, os2, bare2, un2, hok2, rv, ev, d, fs, ea, ed, hd1, q2⟩ := hq'
      subst ev
      obtain ⟨h2, g2, d2, t2, os'⟩ := s'
      exact ⟨rv, mk_end (raises_own T.exC T.tyC) I1 hsz kk un2 hok2 os2 bare2 ea ed hd1 q2⟩
    | next => exact False.elim hq'
    | brk => exact False.elim hq'
    | cont => exact False.elim hq'
end
/-- the turns of a for .. else, the branch behind it already told -/
theorem forE_in {J : It} {g : TG} {tb : TS} {uS : St → Hp → Prop} {D : Ends} {σ : St} {H : Hp} (n : Nat) (Pv : Nat → St → Hp → Prop) (h0 : Pv 0 σ H) (hgo : ∀ i σ H, i < n → Pv i σ H → J.go i H) (hstop : ∀ σ H, Pv n σ H → J.stop n H)
    (hs : ∀ i x σ H H', i < n → Pv i σ H → J.yld i H x H' → g x σ H' fun σ2 H2 => tb { D with nx := Pv (i + 1), ct := Pv (i + 1), bk := D.nx } σ2 H2) (hd : ∀ σ H, Pv n σ H → uS σ H) :
    ∃ W : Nat → Nat → St → Hp → Prop, (∃ m, W 0 m σ H) ∧ ∀ i m σ H, W i m σ H →
      (J.stop i H ∧ uS σ H) ∨ (J.go i H ∧ ∃ N : St → Hp → Prop, (∀ σ' H', N σ' H' → ∃ m', m' < m ∧ W (i + 1) m' σ' H') ∧ ∀ x H', J.yld i H x H' → g x σ H' fun σ2 H2 => tb { D with nx := N, ct := N, bk := D.nx } σ2 H2) :=
  forE_by (u := fun _ => uS) n Pv h0 hgo hstop hs hd
end L2

/-! repr of whole numbers beyond 1920 bits, and of a list of such a number and a text. -/
namespace Ver
open PySem PySem.Spec PyProof.Rows L2
/-- nobody has set how long a number's text may be -/
def NoD (K : PySem.W.Frag) : Prop := PySem.W.nsIn K cStatics "sys.int_max_str_digits" = some none
section
variable {K : PySem.W.Frag} {M : Model} {A : Around} {E : Value → Shared → Prop} {s : Shared}
theorem over_mid {a : Int} {Q : Option Nat → Shared → Prop} (X : K.In s.heap) (e : NoD K) (ha : a.natAbs.log2 < 3200) (h : Q none s) : wpAny M A (Builtin.overDigitLimit? a) Q E s := by
  unfold Builtin.overDigitLimit?
  by_cases hs : a.natAbs.log2 < 1920
  · rw [if_pos hs]
    exact wpAny_pure h
  · rw [if_neg hs]
    unfold Builtin.intMaxStrDigits
    refine wpAny_bind (wpAny_bind ((PySem.W.looks_nsIn X e).at ?_))
    refine wpAny_pure ?_
    dsimp only
    rw [if_neg (show ¬ (a.natAbs.log2 / 30 + 1 > 1000) by omega), if_pos (show ((4300 == 0) || decide (a.natAbs.log2 < 3 * 4300)) = true by rw [decide_eq_true (by omega)]; rfl)]
    exact wpAny_pure h
end
section
variable {K : PySem.W.Frag} {prog : Program} {w : World} {A : Around} {E : Value → Shared → Prop} {s : Shared} {a : Int} {t : Tok}
theorem mid_len (ha : a.natAbs.log2 < 3200) : (Str.ofString (toString a)).length ≤ 3201 := by
  rw [PySem.ofString_length]
  exact int_text_length_le (k := 3200) (by decide) ha
theorem repr_call {Q : Value → Shared → Prop} (X : K.In s.heap) (e : NoD K) (ha : a.natAbs.log2 < 3200) (h : Q (.str (toString a) s.toks) { s with toks := s.toks + 1 }) : wpAny (model prog w) A (call (.builtin "int.__repr__") [.int a t]) Q E s := by
  refine wpAny_call (codeAny_call_builtin PySem.F.slot_int_repr.plain PySem.F.entry_int_repr (PySem.F.slot_int_repr.check _ _ _ _ _ _ _ _ (typeIs_int _ a t) (PySem.F.args_int_repr_1 _) ?_))
  show wpAny _ _ (do let r ← Builtin.overDigitLimit? a; _) _ _ s
  exact wpAny_bind (over_mid X e ha (wpAny_bind (wpAny_mkStr (wpAny_pure h) (Nat.le_trans (mid_len ha) (by rw [sizeLine_eq]; decide)))))
theorem reprK_mid {as : List Addr} {h₀ : Heap} {d : Nat} (X : K.In h₀) (e : NoD K) (ha : a.natAbs.log2 < 3200) : ReprK prog w as h₀ d (.int a t) (toString a) :=
  fun base hb A g E s Q hg hcl hu hk hQ => by
    rw [pyReprUnder_leaf (v := .int a t) (by omega) (fun _ e => nomatch e)]
    unfold pyRepr
    refine wpAny_bind (wpAny_pyReprObj_slot (by omega) (typeIs_int s a t) PySem.F.slot_int_repr.toG (repr_call (PySem.W.Frag.In.keeps X hk) e ha ⟨_, _, rfl, ?_⟩))
    exact wpAny_pure (hQ s.heap _ fun _ _ z => z)
end
/-- repr(x), x a number of any size told, or a list of such a one and a text -/
def rReprB (K : PySem.W.Frag) : List V → Hp → VK → Prop := fun xs H Q =>
  (∃ i : Int, xs = [.int i] ∧ i.natAbs.log2 < 3200 ∧ Q (.str (toString i)) H) ∨
  ∃ (p : Addr) (i : Int) (z : Str), xs = [.ref p] ∧ SqL K H p [.int i, .str z] ∧ i.natAbs.log2 < 3200 ∧ (reprText z).length ≤ 100000 ∧ Q (.str (listText [(toString i : String), reprText z])) H
section
variable {X : Cx}
theorem call_reprB (nd : NoD X.K) (hg : X.A.guards = some []) (hu : X.A.units + 64 < cLine) : CallR X (.builtin "repr") (rReprB X.K) := by
  intro pins s σ H xs us Q I r h
  rcases h with ⟨i, rfl, hi, q⟩ | ⟨p, i, z, rfl, hp, hi, hz, q⟩
  · obtain ⟨u, rfl, ru⟩ := vals1 r
    obtain ⟨t, rfl⟩ := (show ∃ t, u = Value.int i t from ru)
    exact call_repr_slot (by omega) (typeIs_int s i t) PySem.F.slot_int_repr.toG (repr_call I.kIn nd hi ⟨_, _, rfl, ⟨.str _, H, I.tok _, ⟨_, rfl⟩, q⟩⟩)
  · obtain ⟨u, rfl, ru⟩ := vals1 r
    cases ru
    obtain ⟨its, rv, ⟨⟨cls, dd, data, sl⟩, n, ho, hc, hdn, hd⟩, hlen⟩ := I.list hp
    simp only at hc hd
    subst hc hd
    match its, rv with
    | [u1, u2], .cons r1 (.cons r2 .nil) =>
      obtain ⟨t1, rfl⟩ := (show ∃ t, u1 = Value.int i t from r1)
      obtain ⟨t2, rfl⟩ := (show ∃ t, u2 = Value.str z t from r2)
      have hl1 := mid_len hi
      have hsz : (listText [(toString i : String), reprText z]).length ≤ sizeLine := by
        have e : (listText [(toString i : String), reprText z]).length = (Str.ofString (toString i)).length + (reprText z).length + 4 := by
          unfold listText textFrom textFrom textFrom
          simp only [strLen_append]
          have e1 : (("[" : String) : Str).length = 1 := rfl
          have e2 : (("]" : String) : Str).length = 1 := rfl
          have e3 : ((if 0 > 0 then ", " else "" : String) : Str).length = 0 := rfl
          have e4 : ((if 0 + 1 > 0 then ", " else "" : String) : Str).length = 2 := rfl
          rw [e1, e2, e3, e4]
          omega
        rw [e, sizeLine_eq]
        omega
      refine call_repr_slot (by omega) (T := "list") ⟨_, ho, rfl⟩ PySem.F.slot_list_repr.toG ?_
      refine call_list_reprK (as := []) (h₀ := s.heap) (d := 0) (ts := [(toString i : String), reprText z]) ho rfl rfl (by simp) rfl (fun j y hy => ?_) hg (fun b _ => Clear.nil b) (by show X.A.units + 1 + 1 < cLine; omega) (fun _ _ z => z) (fun h' u tk hk => ⟨_, _, rfl, ⟨.str _, H, I.kept (t' := tk) hk, ⟨_, rfl⟩, q⟩⟩) hsz
      match j, hy with
      | 0, hy =>
        cases hy
        exact ⟨_, rfl, reprK_mid I.kIn nd hi⟩
      | 1, hy =>
        cases hy
        exact ⟨_, rfl, .of_is (ReprIs.str z t2 (by rw [sizeLine_eq]; omega)) _ _ _⟩
      | j + 2, hy => simp at hy
end
end Ver

/-! o.m( *e ) of a def with a promise. -/
namespace Ver
open PySem PySem.Spec PyProof.Rows L2
theorem starcall1_of {M : Model} {A : Around} {E : Value → Shared → Prop} {s : Shared} {env : Env} {o e2 : Expr} {m : Str} {p apos pos : Pos} {Q : Value → Shared → Prop} (hbase : attributeBase o m env (eval o env) = eval o env)
    (hst : starEach [.Starred e2 p] env = [(true, eval e2 env)])
    (h : wpAny M A (eval o env) (fun ov s₁ => wpAny M A (getAttr ov m true) (fun f s₂ => wpAny M A (callWith pos f [] (backTo pos [(true, eval e2 env)]) []) Q E s₂) E s₁) E s) :
    wpAny M A (eval (.Call (.Attribute o m apos) [.Starred e2 p] [] pos) env) Q E s := by
  have a1 : backToKw pos (keywordEach [] env) = [] := rfl
  have a2 : methodCallForm ([Expr.Starred e2 p].length + ([] : List Keyword).length) (backTo pos [(true, eval e2 env)]) [] = false := rfl
  have a3 : methodCallPos false o env apos pos = pure pos := rfl
  have a4 : ∀ ov, calleeOf false o env ov m = (getAttr ov m true >>= fun v => pure (v, [])) := fun _ => rfl
  rw [arm_eval_Call, hbase, hst, a1]
  refine wpAny_bind (wpAny_mono h (fun ov s1 k => ?_) fun _ _ x => x)
  refine wpAny_bind (wpAny_standAt ?_)
  unfold methodCall
  rw [a2, a3, a4]
  exact wpAny_bind (wpAny_holding (wpAny_bind (wpAny_mono k (fun f s2 k2 => wpAny_pure (wpAny_bind (wpAny_pure k2))) fun _ _ x => x)))
def tMethGS1 (K : PySem.W.Frag) (C : Addr) (m : Str) (g : Addr) (sp : Sp) (E : XK) (ta t2 : TE) : TE := fun σ H Q => ta σ H fun x H1 => ∃ a dx fs, x = .ref a ∧ H1 a = some (.ins C dx fs) ∧ fs.lookup m = none ∧
  ∀ q, H1 q = none → t2 σ (upd H1 q (.met g a)) fun y2 H3 => ∃ b vs, y2 = .ref b ∧ (SqT K H3 b vs ∨ SqL K H3 b vs) ∧ H3 q = some (.met g a) ∧ sp (.ref a :: vs) H3 Q E
theorem pe_methGS1 {X : Cx} {CX : CXT} {k : Nat} {C g : Addr} {m : Str} {sp : Sp} {E : XK} {o e2 : Expr} {ta t2 : TE} {p apos pos : Pos} (he : PE X o ta) (c : Cls X.K C) (b : BMeth X.K C m g) (F : FnG X.prog X.w X.K X.mg X.base CX k g sp) (hr : Room k X.A) (hgd : X.A.guards = some [])
    (hx : Passes CX X E) (h2 : PE X e2 t2) (hbase : attributeBase o m X.env (eval o X.env) = eval o X.env := by rfl)
    (hst : starEach [.Starred e2 p] X.env = [(true, eval e2 X.env)] := by rfl) : PE X (.Call (.Attribute o m apos) [.Starred e2 p] [] pos) (tMethGS1 X.K C m g sp E ta t2) := by
  refine ⟨fun pins s σ H Q I h => ?_⟩
  refine starcall1_of hbase hst (thn (he.run pins s σ H _ I h) fun u s1 ⟨x, H1, I1, rx, a, dx, fs, ex, ea, l, q⟩ => ?_)
  subst ex
  obtain rfl : u = Value.ref a := rx
  refine getbound_ok I1 ea c b l fun q1 s2 hq1 I2 => ?_
  refine PySem.W.ks_call (P := PySem.W.MethP X.K q1 g (.ref a)) rfl (PySem.W.keeps_M b.fi) (PySem.W.ks_lone (thn (h2.run pins s2 σ _ _ I2 (q q1 hq1)) fun v2 s4 ⟨y2, H3, I4, ry2, t, vs, ey, ht, hm, hsp⟩ => ?_))
  subst ey
  obtain rfl : v2 = Value.ref t := ry2
  refine StX.star_any I4 ht fun us s5 I5 rv => ?_
  refine ⟨met_P I5 hm, wpAny_call (PySem.W.method_call (met_P I5 hm).1 ?_)⟩
  exact codeAny_mono (F X.A X.stack s5 H3 (Value.ref a :: us) (V.ref a :: vs) Q E hgd hr I5.env0 (.cons rfl rv) hsp) fun rs s' hq => by
    match rs, hq with
    | .error e', hq => exact hx pins σ H3 s5 e' s' I5 hq
    | .ok (.ret u), hq => exact I5.after hq
    | .ok .next, hq => exact hq.elim
    | .ok .brk, hq => exact hq.elim
    | .ok .cont, hq => exact hq.elim
end Ver

/-! The mathematics of the fractions: the reduced pair, common bottoms. -/
namespace Num
open Rat
theorem den_pos' (q : Rat) : (0 : Int) < (q.den : Int) := Int.natCast_pos.mpr q.den_pos
/-- the divisor with the sign of the bottom -/
def dvs (t b : Int) : Int := if b < 0 then -((Nat.gcd t.natAbs b.natAbs : Nat) : Int) else ((Nat.gcd t.natAbs b.natAbs : Nat) : Int)
theorem dvs_ex {t b : Int} (hb : b ≠ 0) : ∃ (t' b' : Int), t = dvs t b * t' ∧ b = dvs t b * b' ∧ dvs t b ≠ 0 ∧ 0 < b' ∧ (t /. b).num = t' ∧ ((t /. b).den : Int) = b' := by
  have gpos : 0 < Nat.gcd t.natAbs b.natAbs := Nat.gcd_pos_of_pos_right _ (Int.natAbs_pos.mpr hb)
  have gt : ((Nat.gcd t.natAbs b.natAbs : Nat) : Int) ∣ t := Int.natAbs_dvd_natAbs.mp (Nat.gcd_dvd_left _ _)
  have gb : ((Nat.gcd t.natAbs b.natAbs : Nat) : Int) ∣ b := Int.natAbs_dvd_natAbs.mp (Nat.gcd_dvd_right _ _)
  have hn := Rat.num_divInt t b
  have hd := Rat.den_divInt t b
  have eg : Int.gcd b t = Nat.gcd t.natAbs b.natAbs := Nat.gcd_comm _ _
  rw [eg] at hn hd
  rw [if_neg hb] at hd
  unfold dvs
  generalize Nat.gcd t.natAbs b.natAbs = g at *
  obtain ⟨x, ex⟩ := gt
  obtain ⟨y, ey⟩ := gb
  have g0 : (0 : Int) < (g : Int) := Int.natCast_pos.mpr gpos
  by_cases h : b < 0
  · rw [if_pos h]
    have sg : b.sign = -1 := Int.sign_eq_neg_one_of_neg h
    have y0 : y < 0 := by
      by_cases c : y < 0
      · exact c
      · have := Int.mul_nonneg (Int.le_of_lt g0) (Int.not_lt.mp c)
        omega
    refine ⟨-x, -y, by rw [Int.neg_mul_neg]; exact ex, by rw [Int.neg_mul_neg]; exact ey, by omega, by omega, ?_, ?_⟩
    · rw [hn, sg, ex, ← Int.mul_assoc, Int.mul_comm (-1), Int.mul_assoc, Int.mul_ediv_cancel_left _ (by omega)]
      omega
    · rw [hd, Int.natCast_ediv, ey]
      have : (((g : Int) * y).natAbs : Int) = (g : Int) * (-y) := by
        rw [Int.mul_neg]
        have : (g : Int) * y < 0 := by rw [← ey]; exact h
        omega
      rw [this, Int.mul_ediv_cancel_left _ (by omega)]
  · rw [if_neg h]
    have bp : 0 < b := by omega
    have sg : b.sign = 1 := Int.sign_eq_one_of_pos bp
    have y0 : 0 < y := by
      by_cases c : 0 < y
      · exact c
      · have := Int.mul_nonpos_of_nonneg_of_nonpos (Int.le_of_lt g0) (Int.not_lt.mp c)
        omega
    refine ⟨x, y, ex, ey, by omega, y0, ?_, ?_⟩
    · rw [hn, sg, Int.one_mul, ex, Int.mul_ediv_cancel_left _ (by omega)]
    · rw [hd, Int.natCast_ediv, ey]
      have : (((g : Int) * y).natAbs : Int) = (g : Int) * y := by
        have : 0 < (g : Int) * y := by rw [← ey]; exact bp
        omega
      rw [this, Int.mul_ediv_cancel_left _ (by omega)]
theorem dvs_out {t b : Int} (hb : b ≠ 0) : dvs t b ≠ 0 ∧ t.fdiv (dvs t b) = (t /. b).num ∧ b.fdiv (dvs t b) = ((t /. b).den : Int) ∧ (b = dvs t b ↔ (t /. b).den = 1) ∧ (t /. b).num.natAbs ≤ t.natAbs ∧ (t /. b).den ≤ b.natAbs := by
  obtain ⟨t', b', h1, h2, h3, h4, h5, h6⟩ := dvs_ex (t := t) hb
  generalize dvs t b = d at *
  have hd1 : 1 ≤ d.natAbs := by omega
  refine ⟨h3, ?_, ?_, ⟨fun h => ?_, fun h => ?_⟩, ?_, ?_⟩
  · rw [h5]
    conv => lhs; rw [h1]
    exact Int.mul_fdiv_cancel_left _ h3
  · rw [h6]
    conv => lhs; rw [h2]
    exact Int.mul_fdiv_cancel_left _ h3
  · have e : d * b' = d * 1 := by rw [← h2, Int.mul_one]; exact h
    have := Int.eq_of_mul_eq_mul_left h3 e
    omega
  · have e : b' = 1 := by omega
    rw [e, Int.mul_one] at h2
    exact h2
  · rw [h5]
    conv => rhs; rw [h1, Int.natAbs_mul]
    exact Nat.le_mul_of_pos_left _ hd1
  · have e : (t /. b).den = b'.natAbs := by omega
    rw [e]
    conv => rhs; rw [h2, Int.natAbs_mul]
    exact Nat.le_mul_of_pos_left _ hd1
theorem gcd_low (q : Rat) : Nat.gcd q.num.natAbs (q.den : Int).natAbs = 1 := q.reduced
theorem dvs_one (t : Int) : (t /. 1).num = t ∧ (t /. 1).den = 1 := by
  obtain ⟨h1, h2, h3, h4, h5, h6⟩ := dvs_out (t := t) (b := 1) (by decide)
  have e : dvs t 1 = 1 := by
    unfold dvs
    rw [if_neg (by decide)]
    show ((Nat.gcd t.natAbs 1 : Nat) : Int) = 1
    rw [Nat.gcd_one_right]
    rfl
  rw [e, Int.fdiv_one] at h2
  exact ⟨h2.symm, h4.mp e.symm⟩
/-! ### the operations -/
theorem add_is (a b : Rat) : (a.num * b.den + b.num * a.den) /. ((a.den : Int) * b.den) = a + b := by
  rw [Rat.add_def', ← Rat.divInt_ofNat, Int.natCast_mul]
theorem sub_is (a b : Rat) : (a.num * b.den - b.num * a.den) /. ((a.den : Int) * b.den) = a - b := by
  rw [Rat.sub_def', ← Rat.divInt_ofNat, Int.natCast_mul]
theorem mul_is (a b : Rat) : (a.num * b.num) /. ((a.den : Int) * b.den) = a * b := by
  rw [Rat.mul_def', ← Rat.divInt_ofNat, Int.natCast_mul]
/-! ### a common bottom -/
theorem divInt_add_same (a b c : Int) (h : c ≠ 0) : (a + b) /. c = a /. c + b /. c := by
  rw [Rat.divInt_add_divInt _ _ h h, ← Int.add_mul, Rat.divInt_mul_right h]
theorem over_L {q : Rat} {L : Int} (hL : L ≠ 0) (h : (q.den : Int) ∣ L) : (q.num * (L / q.den)) /. L = q := by
  obtain ⟨x, ex⟩ := h
  have d0 := den_pos' q
  have x0 : x ≠ 0 := by
    intro z
    rw [z, Int.mul_zero] at ex
    exact hL ex
  have e : L / (q.den : Int) = x := by
    rw [ex]
    exact Int.mul_ediv_cancel_left _ (by omega)
  rw [e, ex, Rat.divInt_mul_right x0, Rat.num_divInt_den]
theorem sum_L {L : Int} (hL : L ≠ 0) : ∀ qs : List Rat, (∀ q ∈ qs, (q.den : Int) ∣ L) → (qs.map fun q => q.num * (L / q.den)).sum /. L = qs.sum
  | [], _ => by
    show (0 : Int) /. L = (0 : Rat)
    exact Rat.zero_divInt L
  | q :: qs, h => by
    rw [List.map_cons, List.sum_cons, List.sum_cons, divInt_add_same _ _ _ hL, over_L hL (h q List.mem_cons_self), sum_L hL qs fun x hx => h x (List.mem_cons_of_mem _ hx)]
/-! ### sizes -/
def Bq (n : Nat) (q : Rat) : Prop := q.num.natAbs < 2 ^ n ∧ q.den < 2 ^ n
theorem Bq.mono {m n : Nat} {q : Rat} (h : Bq m q) (hl : m ≤ n) : Bq n q := ⟨Nat.lt_of_lt_of_le h.1 (Nat.pow_le_pow_right (by decide) hl), Nat.lt_of_lt_of_le h.2 (Nat.pow_le_pow_right (by decide) hl)⟩
theorem bq_div {t b : Int} {n : Nat} (hb : b ≠ 0) (h1 : t.natAbs < 2 ^ n) (h2 : b.natAbs < 2 ^ n) : Bq n (t /. b) := by
  obtain ⟨_, _, _, _, h5, h6⟩ := dvs_out (t := t) hb
  exact ⟨Nat.lt_of_le_of_lt h5 h1, Nat.lt_of_le_of_lt h6 h2⟩
theorem add_lt {i j : Int} {n : Nat} (h1 : i.natAbs < 2 ^ n) (h2 : j.natAbs < 2 ^ n) : (i + j).natAbs < 2 ^ (n + 1) := by
  rw [Nat.pow_succ]
  omega
theorem sub_lt {i j : Int} {n : Nat} (h1 : i.natAbs < 2 ^ n) (h2 : j.natAbs < 2 ^ n) : (i - j).natAbs < 2 ^ (n + 1) := by
  rw [Nat.pow_succ]
  omega
end Num

namespace Ver
open PySem PySem.Spec PyProof.Rows L2
def tyD : PyData → String
  | .none => "NoneType"
  | .bool _ => "bool"
  | .int _ => "int"
  | .str _ => "str"
  | .list _ => "list"
  | .tuple _ => "tuple"
  | .dict _ => "dict"
section
variable {K : PySem.W.Frag} {H H' : Hp}
theorem Do.ty {x : V} {d : PyData} (h : Do K H x d) : TyX K H x (.type (tyD d)) := by
  cases h with
  | non => exact .base .non
  | bl b => exact .base (.bl b)
  | int i => exact .base (.int i)
  | str s => exact .base (.str s)
  | lst hs ha =>
    rcases hs with (e | ⟨o, e⟩) | ⟨o, its, n, lk, c, _⟩
    · exact .base (.lst e)
    · exact .base (.frz e)
    · exact .kList lk c
  | tup hs ha =>
    rcases hs with (e | ⟨o, e⟩) | ⟨o, its, n, lk, c, _⟩
    · exact .base (.tup e)
    · exact .fTuple e
    · exact .kTuple lk c
  | dic e hk => exact .base (.dK e)
theorem sqt_keep {a : Addr} {xs : List V} (s : Same H H') (h : SqT K H a xs) : SqT K H' a xs := by
  rcases h with (h | ⟨o, h⟩) | h
  · exact .inl (.inl (s _ _ h))
  · exact .inl (.inr ⟨o, s _ _ h⟩)
  · exact .inr h
mutual
theorem Do.same (s : Same H H') : ∀ (d : PyData) (x : V), Do K H x d → Do K H' x d
  | .none, _, h => by cases h; exact .non
  | .bool b, _, h => by cases h; exact .bl b
  | .int i, _, h => by cases h; exact .int i
  | .str y, _, h => by cases h; exact .str y
  | .list ds, _, h => by
    cases h with
    | lst hs ha => exact .lst (s.seq hs) (DoAll.same s ds _ ha)
  | .tuple ds, _, h => by
    cases h with
    | tup hs ha => exact .tup (sqt_keep s hs) (DoAll.same s ds _ ha)
  | .dict kds, _, h => by
    cases h with
    | dic e hk => exact .dic (s _ _ e) (DoKv.same s kds _ hk)
theorem DoAll.same (s : Same H H') : ∀ (ds : List PyData) (xs : List V), DoAll K H xs ds → DoAll K H' xs ds
  | [], _, h => by cases h; exact .nil
  | d :: ds, _, h => by
    cases h with
    | cons h1 h2 => exact .cons (Do.same s d _ h1) (DoAll.same s ds _ h2)
theorem DoKv.same (s : Same H H') : ∀ (kds : List (PyData × PyData)) (kvs : List (Key × V)), DoKv K H kvs kds → DoKv K H' kvs kds
  | [], _, h => by cases h; exact .nil
  | (dk, d) :: kds, _, h => by
    cases h with
    | cons h1 h2 => exact .cons (Do.same s d _ h1) (DoKv.same s kds _ h2)
end
/-- isinstance(x, a built-in type), x any data -/
def is_int (d : PyData) : Bool := match d with | .int _ => true | .bool _ => true | _ => false
theorem kit_int : ∀ d : PyData, PySem.W.kitOne K (.type (tyD d)) (.type "int") = some (is_int d)
  | .none => show PySem.W.kitOne K (.type "NoneType") (.type "int") = some false from kit_ty (by decide +kernel)
  | .bool _ => show PySem.W.kitOne K (.type "bool") (.type "int") = some true from kit_ty (by decide +kernel)
  | .int _ => show PySem.W.kitOne K (.type "int") (.type "int") = some true from kit_ty (by decide +kernel)
  | .str _ => show PySem.W.kitOne K (.type "str") (.type "int") = some false from kit_ty (by decide +kernel)
  | .list _ => show PySem.W.kitOne K (.type "list") (.type "int") = some false from kit_ty (by decide +kernel)
  | .tuple _ => show PySem.W.kitOne K (.type "tuple") (.type "int") = some false from kit_ty (by decide +kernel)
  | .dict _ => show PySem.W.kitOne K (.type "dict") (.type "int") = some false from kit_ty (by decide +kernel)
def is_bool (d : PyData) : Bool := match d with | .bool _ => true | _ => false
theorem kit_bool : ∀ d : PyData, PySem.W.kitOne K (.type (tyD d)) (.type "bool") = some (is_bool d)
  | .none => show PySem.W.kitOne K (.type "NoneType") (.type "bool") = some false from kit_ty (by decide +kernel)
  | .bool _ => show PySem.W.kitOne K (.type "bool") (.type "bool") = some true from kit_ty (by decide +kernel)
  | .int _ => show PySem.W.kitOne K (.type "int") (.type "bool") = some false from kit_ty (by decide +kernel)
  | .str _ => show PySem.W.kitOne K (.type "str") (.type "bool") = some false from kit_ty (by decide +kernel)
  | .list _ => show PySem.W.kitOne K (.type "list") (.type "bool") = some false from kit_ty (by decide +kernel)
  | .tuple _ => show PySem.W.kitOne K (.type "tuple") (.type "bool") = some false from kit_ty (by decide +kernel)
  | .dict _ => show PySem.W.kitOne K (.type "dict") (.type "bool") = some false from kit_ty (by decide +kernel)
def is_tuple (d : PyData) : Bool := match d with | .tuple _ => true | _ => false
theorem kit_tuple : ∀ d : PyData, PySem.W.kitOne K (.type (tyD d)) (.type "tuple") = some (is_tuple d)
  | .none => show PySem.W.kitOne K (.type "NoneType") (.type "tuple") = some false from kit_ty (by decide +kernel)
  | .bool _ => show PySem.W.kitOne K (.type "bool") (.type "tuple") = some false from kit_ty (by decide +kernel)
  | .int _ => show PySem.W.kitOne K (.type "int") (.type "tuple") = some false from kit_ty (by decide +kernel)
  | .str _ => show PySem.W.kitOne K (.type "str") (.type "tuple") = some false from kit_ty (by decide +kernel)
  | .list _ => show PySem.W.kitOne K (.type "list") (.type "tuple") = some false from kit_ty (by decide +kernel)
  | .tuple _ => show PySem.W.kitOne K (.type "tuple") (.type "tuple") = some true from kit_ty (by decide +kernel)
  | .dict _ => show PySem.W.kitOne K (.type "dict") (.type "tuple") = some false from kit_ty (by decide +kernel)
def is_str (d : PyData) : Bool := match d with | .str _ => true | _ => false
theorem kit_str : ∀ d : PyData, PySem.W.kitOne K (.type (tyD d)) (.type "str") = some (is_str d)
  | .none => show PySem.W.kitOne K (.type "NoneType") (.type "str") = some false from kit_ty (by decide +kernel)
  | .bool _ => show PySem.W.kitOne K (.type "bool") (.type "str") = some false from kit_ty (by decide +kernel)
  | .int _ => show PySem.W.kitOne K (.type "int") (.type "str") = some false from kit_ty (by decide +kernel)
  | .str _ => show PySem.W.kitOne K (.type "str") (.type "str") = some true from kit_ty (by decide +kernel)
  | .list _ => show PySem.W.kitOne K (.type "list") (.type "str") = some false from kit_ty (by decide +kernel)
  | .tuple _ => show PySem.W.kitOne K (.type "tuple") (.type "str") = some false from kit_ty (by decide +kernel)
  | .dict _ => show PySem.W.kitOne K (.type "dict") (.type "str") = some false from kit_ty (by decide +kernel)
def is_list (d : PyData) : Bool := match d with | .list _ => true | _ => false
theorem kit_list : ∀ d : PyData, PySem.W.kitOne K (.type (tyD d)) (.type "list") = some (is_list d)
  | .none => show PySem.W.kitOne K (.type "NoneType") (.type "list") = some false from kit_ty (by decide +kernel)
  | .bool _ => show PySem.W.kitOne K (.type "bool") (.type "list") = some false from kit_ty (by decide +kernel)
  | .int _ => show PySem.W.kitOne K (.type "int") (.type "list") = some false from kit_ty (by decide +kernel)
  | .str _ => show PySem.W.kitOne K (.type "str") (.type "list") = some false from kit_ty (by decide +kernel)
  | .list _ => show PySem.W.kitOne K (.type "list") (.type "list") = some true from kit_ty (by decide +kernel)
  | .tuple _ => show PySem.W.kitOne K (.type "tuple") (.type "list") = some false from kit_ty (by decide +kernel)
  | .dict _ => show PySem.W.kitOne K (.type "dict") (.type "list") = some false from kit_ty (by decide +kernel)
def is_dict (d : PyData) : Bool := match d with | .dict _ => true | _ => false
theorem kit_dict : ∀ d : PyData, PySem.W.kitOne K (.type (tyD d)) (.type "dict") = some (is_dict d)
  | .none => show PySem.W.kitOne K (.type "NoneType") (.type "dict") = some false from kit_ty (by decide +kernel)
  | .bool _ => show PySem.W.kitOne K (.type "bool") (.type "dict") = some false from kit_ty (by decide +kernel)
  | .int _ => show PySem.W.kitOne K (.type "int") (.type "dict") = some false from kit_ty (by decide +kernel)
  | .str _ => show PySem.W.kitOne K (.type "str") (.type "dict") = some false from kit_ty (by decide +kernel)
  | .list _ => show PySem.W.kitOne K (.type "list") (.type "dict") = some false from kit_ty (by decide +kernel)
  | .tuple _ => show PySem.W.kitOne K (.type "tuple") (.type "dict") = some false from kit_ty (by decide +kernel)
  | .dict _ => show PySem.W.kitOne K (.type "dict") (.type "dict") = some true from kit_ty (by decide +kernel)
end
end Ver

namespace Num
theorem fmod_lt {a b : Int} (h : b ≠ 0) : (a.fmod b).natAbs < b.natAbs := by
  rw [Int.fmod_eq_emod]
  have h0 := Int.emod_nonneg a h
  by_cases c : 0 ≤ b
  · have h1 := Int.emod_lt_of_pos a (show 0 < b by omega)
    rw [if_pos (.inl c)]
    omega
  · have h1 := Int.emod_lt_of_neg a (show b < 0 by omega)
    by_cases d : b ∣ a
    · rw [if_pos (.inr d), Int.emod_eq_zero_of_dvd d]
      omega
    · have h2 : a % b ≠ 0 := fun z => d (Int.dvd_of_emod_eq_zero z)
      rw [if_neg (by rintro (z | z); exact c z; exact d z)]
      omega
theorem gcd_fmod (a b : Int) : Int.gcd b (a.fmod b) = Int.gcd a b := by
  rw [Int.fmod_def, Int.gcd_sub_mul_left_right, Int.gcd_comm]
end Num
namespace Ver
open PySem PySem.Spec PyProof.Rows L2
/-- a part that is not run -/
theorem pe_dead {X : Cx} {e : Expr} : PE X e (fun _ _ _ => False) := ⟨fun _ _ _ _ _ _ h => h.elim⟩
/-- C.m(e, ..), m a plain def of the class C itself or above it -/
theorem pe_clsG {X : Cx} {CX : CXT} {k : Nat} {f C : Addr} {sp : Sp} {E : XK} {x m : Str} {p pos apos : Pos} {e : Expr} {es : List Expr} {t : TA} {pl : Sem Bool} (hg : Gl X x) (hm : X.mg x = some (.ref C)) (rd : PySem.W.readsIn X.K C (.type "type") = true)
    (ga : PySem.W.specialIn X.K (.ref C) "__getattribute__" = some (some (.builtin "type.__getattribute__"))) (fi : PySem.W.findCls X.K (.ref C) (.type "type") m = some (.val (.ref f))) (hk : PySem.W.keepIn X.K (.ref f) = true)
    (F : FnG X.prog X.w X.K X.mg X.base CX k f sp) (hr : Room k X.A) (hgd : X.A.guards = some []) (hx : Passes CX X E) (ha : PA X (e :: es) t)
    (hst : starEach (e :: es) X.env = (false, eval e X.env) :: starEach es X.env := by rfl) (hpl : (backTo pos (starEach es X.env)).any (·.1) = false := by rfl)
    (ht : eval (.Call (.Attribute (.Name x p) m apos) (e :: es) [] pos) X.env = (do
      let ov ← eval (.Name x p) X.env
      standAt apos.atName
      let (g, first) ← holding [ov] (getMethod ov m pl)
      callWith pos g first (backTo pos (starEach (e :: es) X.env)) (backToKw pos (keywordEach [] X.env))) := by rfl) (hdb : (x == ("__debug__" : Str)) = false := by decide) :
    PE X (.Call (.Attribute (.Name x p) m apos) (e :: es) [] pos) (fun σ H Q => t σ H fun vs H1 => sp vs H1 Q E) := by
  refine ⟨fun pins s σ H Q I h => PySem.W.methodCall_KW (pl := pl) (ld_glob I hg hm ?_ hdb) ht⟩
  refine PySem.W.method_cls I.kIn ga (PySem.W.cls_value I.kIn rd fi rfl ?_)
  have J := I.tok (s.toks + 1)
  refine PySem.W.callWith_K (first := []) (h₀ := X.base) I.ok.mod.kin hk (thn (ha.run pos pins _ σ H _ J h) fun us s1 z => ?_) hst hpl
  obtain ⟨vs, H1, I1, r, q⟩ := z
  exact ⟨I1.kIn, runG F hr hgd hx I1 r q⟩
/-- lcm of two ints, great ones too -/
theorem cr_lcm {X : Cx} : CallR X (.builtin "math.lcm") (fun vs H Q => ∃ a b : Int, vs = [.int a, .int b] ∧ a.natAbs < 2 ^ 8000 ∧ b.natAbs < 2 ^ 8000 ∧ Q (.int ((Nat.lcm a.natAbs b.natAbs : Nat) : Int)) H) := by
  intro pins s σ H vs us Q I r h
  obtain ⟨a, b, rfl, ha, hb, q⟩ := h
  obtain ⟨t, u, rfl⟩ := Vals.int2 r
  have la := PySem.Flt.log2_lt_of (by decide) ha
  have lb := PySem.Flt.log2_lt_of (by decide) hb
  have h1 : (max 1 a.natAbs).log2 ≤ 8000 := by
    rcases Nat.le_total 1 a.natAbs with z | z
    · rw [Nat.max_eq_right z]; omega
    · rw [Nat.max_eq_left z]; decide
  have h2 : (max a.natAbs b.natAbs).log2 ≤ 8000 := by
    rcases Nat.le_total a.natAbs b.natAbs with z | z
    · rw [Nat.max_eq_right z]; omega
    · rw [Nat.max_eq_left z]; omega
  have e1 : Nat.lcm 1 a.natAbs = a.natAbs := Nat.lcm_one_left _
  have hs : ((((Nat.lcm 1 a.natAbs).lcm b.natAbs : Nat) : Int)).natAbs.log2 < bitsLine := by
    rw [e1]
    have l1 : Nat.lcm a.natAbs b.natAbs ≤ a.natAbs * b.natAbs := by
      rw [Nat.lcm]
      exact Nat.div_le_self _ _
    have l2 : a.natAbs * b.natAbs < 2 ^ (8000 + 8000) := by
      rw [Nat.pow_add]
      exact Nat.mul_lt_mul'' ha hb
    have l3 : (((Nat.lcm a.natAbs b.natAbs : Nat) : Int)).natAbs < 2 ^ (8000 + 8000) := Nat.lt_of_le_of_lt l1 l2
    have l4 := PySem.Flt.log2_lt_of (by decide) l3
    have e : bitsLine = 134217728 := by decide
    omega
  have g := PySem.W.mg_run_lcm a t b u (by omega) (by omega) hs
  rw [e1] at g
  exact PySem.call_function_meets PySem.W.MGF.kind_lcm PySem.W.MGF.plain_lcm PySem.W.MGF.entry_lcm (PySem.W.MGF.args_lcm _ _) g.meets ⟨.int _, H, I.tok _, ⟨_, rfl⟩, q⟩
section
variable {P : Program} {w : World} {K : PySem.W.Frag} {mg : Str → Option Value} {base : Heap} {CX : CXT} {k : Nat} {f : Addr} {sp sp1 sp2 : Sp}
theorem FnG.either (F1 : FnG P w K mg base CX k f sp1) (F2 : FnG P w K mg base CX k f sp2) (h : ∀ vs H Q E, sp vs H Q E → sp1 vs H Q E ∨ sp2 vs H Q E) : FnG P w K mg base CX k f sp := fun A outer s H us vs Q E g hr e0 r q =>
  (h vs H Q E q).elim (F1 A outer s H us vs Q E g hr e0 r) (F2 A outer s H us vs Q E g hr e0 r)
end
section
variable {X : Cx} {CX : CXT} {k : Nat} {f C : Addr} {sp : Sp} {E : XK} {x : Str} {p pos : Pos}
/-- C() -/
theorem pe_makeG0 (M : Mk X.K C f) (F : FnG X.prog X.w X.K X.mg X.base CX k f sp) (hr : Room (k + 1) X.A) (hgd : X.A.guards = some []) (hg : Gl X x) (hm : X.mg x = some (.ref C)) (hx : Passes CX X E)
    (hdb : (x == ("__debug__" : Str)) = false := by decide) : PE X (.Call (.Name x p) [] [] pos) (StX.tMakeR C sp E tNil) := by
  refine ⟨fun pins s σ H Q I q => wpAny_Call_Name_kw (ld_glob I hg hm (PySem.W.callWith_K0 I.kIn M.kp ?_) hdb)⟩
  show wpAny _ _ (call (.ref C) []) _ _ _
  refine wpAny_call (make_map (f := f) I.kIn M.makes M.init (beq_iff_eq.mp M.fn) ?_)
  have q2 := q (s.heap.objs.size + 1) s.heap.objs.size (I.hok.fresh (Nat.le_succ _)) (I.hok.fresh (Nat.le_refl _)) (Nat.ne_of_lt (Nat.lt_succ_self _))
  have I2 := Inv.made (C := C) I
  refine codeAny_mono (F _ X.stack _ _ (Value.ref (s.heap.objs.size + 1) :: []) (V.ref (s.heap.objs.size + 1) :: []) _ E (made_guards hgd C []) (hr.make C [] []) (I2.env0.make C [] []) (.cons rfl .nil) q2) fun rs s' hq => ?_
  match rs, hq with
  | .error e', hq => exact hx pins σ _ _ e' s' I2 hq
  | .ok (.ret u), hq =>
    obtain ⟨v, H', I3, rv, ev, q3⟩ := I2.after hq
    subst ev
    exact ⟨rv, V.ref (s.heap.objs.size + 1), H', I3, rfl, q3⟩
  | .ok .next, hq => exact hq.elim
  | .ok .brk, hq => exact hq.elim
  | .ok .cont, hq => exact hq.elim
end
end Ver

/-! Defs with a star parameter; the sum of a tuple. -/
namespace Ver
open PySem PySem.Spec PyProof.Rows L2
theorem preSum_take {ns : List Int} : ∀ n, n ≤ ns.length → preSum (fun i => ns.getD i 0) n = (ns.take n).sum
  | 0, _ => by rw [List.take_zero]; rfl
  | n + 1, h => by
    have e : ns[n]? = some (ns.getD n 0) := by
      rw [List.getD_eq_getElem?_getD, List.getElem?_eq_getElem (by omega)]
      rfl
    show preSum _ n + ns.getD n 0 = _
    rw [preSum_take n (by omega), sum_take e]
section
variable {prog : Program} {w : World} {A : Around} {E : Value → Shared → Prop} {s : Shared} {l : Addr} {its : List Value} {ns : List Int} {Q : Value → Shared → Prop}
theorem sum_tup (hh : A.handled = none) (hl : IsTup s.heap l its.toArray) (rv : Vals (ns.map V.int) its)
    (h : ∀ h' tk t', (∀ b o, s.heap.get? b = some o → h'.get? b = some o) → Q (.int ns.sum t') { s with heap := h', toks := tk }) : wpAny (model prog w) A (call (.builtin "sum") [.ref l]) Q E s := by
  have hne : l ≠ s.heap.objs.size := Nat.ne_of_lt (by obtain ⟨o, e, _⟩ := hl; exact Heap.lt_size e)
  have hlen := rv.length
  rw [List.length_map] at hlen
  have sz : (s.heap.push { cls := .type "tuple_iterator", data := .fields #[.ref l, .int 0 0] }).objs.size = s.heap.objs.size + 1 := Heap.size_push ..
  refine call_sum_walkG (wpAny_pyIter_tuple (show s.heap.IsTuple l its.toArray from hl) ?_)
  refine ⟨_, _, _, _, _, _, fun i => ns.getD i 0, rfl, Walks.tuple (A := A.in1) hh _ l hne its.toArray, ⟨⟨_, Heap.get?_push_size _ rfl, rfl, rfl⟩, ?_⟩, fun b hb => ?_, fun i v hv => ?_, fun h' tk t' hk => ?_⟩
  · obtain ⟨o, e, c⟩ := hl
    exact ⟨o, Heap.get?_push_of_some _ e, c⟩
  · show b < (s.heap.push _).objs.size
    rw [Heap.size_push]
    rcases List.mem_cons.mp hb with e | hb
    · rw [e]
      exact Nat.lt_succ_self _
    · rw [List.mem_singleton.mp hb]
      exact Nat.lt_succ_of_lt (by obtain ⟨o, e, _⟩ := hl; exact Heap.lt_size e)
  · have hi : its[i]? = some v := by simpa using hv
    have lt : i < ns.length := by
      have := (List.getElem?_eq_some_iff.mp hi).1
      omega
    obtain ⟨u, hu, t, ru⟩ := rv.get (i := i) (x := V.int ns[i]) (by rw [List.getElem?_map, List.getElem?_eq_getElem lt]; rfl)
    rw [hi] at hu
    refine ⟨t, ?_⟩
    have e2 : ns.getD i 0 = ns[i] := by
      rw [List.getD_eq_getElem?_getD, List.getElem?_eq_getElem lt]
      rfl
    rw [Option.some.inj hu, ru]
    show Value.int ns[i] t = Value.int (ns.getD i 0) t
    rw [e2]
  · have e : preSum (fun i => ns.getD i 0) its.toArray.size = ns.sum := by
      rw [List.size_toArray, ← hlen, preSum_take _ (Nat.le_refl _), List.take_length]
    rw [e]
    refine h h' tk t' fun b o ho => hk b o (fun z => ?_) (Heap.get?_push_of_some _ ho)
    rw [List.mem_singleton.mp z] at ho
    exact absurd (Heap.lt_size ho) (Nat.lt_irrefl _)
end
/-- sum(t), t a tuple of ints -/
theorem cr_sumT {X : Cx} (hc : X.calm = true) : CallR X (.builtin "sum") (fun vs H Q => ∃ (a : Addr) (ns : List Int), vs = [V.ref a] ∧ SqT X.K H a (ns.map V.int) ∧ Q (.int ns.sum) H) := by
  intro pins s σ H vs us Q I r h
  obtain ⟨a, ns, rfl, hs, q⟩ := h
  obtain ⟨its, rv, hl, _⟩ := I.tuple hs
  obtain ⟨u, rfl, ru⟩ := vals1 r
  cases (show u = Value.ref a from ru)
  exact sum_tup (I.ok.hd hc) hl rv fun h' tk t' hk => ⟨.int _, H, I.kept hk, ⟨_, rfl⟩, q⟩
/-- def f(a, .., *rest) -/
theorem okStar {P : Program} {w : World} {K : PySem.W.Frag} {mg : Str → Option Value} {base : Heap} {k : Nat} {f : Addr} {fd : FuncData} {sp : Sp} {x qual pr : Str} {params : Arguments} {body : List Stmt} {scope : Scope} {N ps : List Str} {kws : List (Str × V)}
    (F : FunD K x qual params body scope [] kws f fd) (S : FnScope N (ps ++ [pr]) scope)
    (hb : ∀ (kV doc pm : Value) (an : Option Addr) (cdv ct : Value) (us rest : List Value), us.length = ps.length → bindArgs (PySem.W.fnOf x qual params body scope .none kV doc pm an cdv ct) ⟨us ++ rest, []⟩ = (newTuple rest >>= fun t => pure (ps.zip us ++ [(pr, t)])))
    (hbody : ∀ (cdv : Value) (A : Around) (outer : List Env) (s : Shared) (H : Hp) (vs : List V) (Q : VK) (E : XK), A.guards = some [] → Room k (A.deeper (envOfC qual scope s.heap.objs.size f cdv)) → sp vs H Q E →
      ∃ t, PSs (cxOf CX0 P w K mg base N qual scope f cdv A outer s H E).nox body t ∧ t { nx := fun _ H' => Q .non H', rt := Q } (start N vs) H) :
    FnG P w K mg base CX0 (k + 1) f (fun vs H Q E => ∃ ws rest, vs = ws ++ rest ∧ ws.length = ps.length ∧ rest.length ≤ sizeLine ∧ ∀ p, H p = none → sp (ws ++ [V.ref p]) (upd H p (.tup rest)) Q E) := by
  obtain ⟨⟨oc, od, dV, kV, doc, pm, an, cdv, ct, osl, rfl, lk, hcd, hD, _⟩, _⟩ := F
  have eD : dV = .none := by
    rcases hD with ⟨_, e⟩ | ⟨e, _⟩
    · exact e
    · exact absurd rfl e
  subst eD
  intro A outer s H us vs Q E hg hr e0 r hsp
  obtain ⟨ws, rest, rfl, hl, hz, hq⟩ := hsp
  obtain ⟨u1, u2, rfl, r1, r2⟩ := StX.vals_split r
  have n0 : H s.heap.objs.size = none := e0.hok.fresh (Nat.le_refl _)
  have l1 : u1.length = ps.length := r1.length.symm.trans hl
  refine StX.run_bnd lk hcd S hr e0 (G := fun xs H2 => ∃ p, H p = none ∧ xs = ws ++ [V.ref p] ∧ H2 = upd H p (.tup rest)) (fun A' Ex Q' h => ?_) fun s2 H2 xs g hr' => ?_
  · rw [hb _ _ _ _ _ _ u1 u2 l1]
    have new : ObjOk P w (upd H s.heap.objs.size (.tup rest)) (s.heap.push ({ cls := .type "tuple", data := .seq u2.toArray } : Obj)) s.heap.objs.size (.tup rest) := ⟨hz, u2, r2, ⟨_, Heap.get?_push_size _ rfl, rfl, _, rfl⟩⟩
    have z := h _ _ (ws ++ [V.ref s.heap.objs.size]) (u1 ++ [Value.ref s.heap.objs.size]) (StX.env0_laid e0 new) (StX.un_laid (fs := frs outer) (s := s) n0) rfl (fun e s' q => q) (r1.append (.cons rfl .nil))
      (by rw [List.length_append, List.length_append, hl] <;> rfl) ⟨_, n0, rfl, rfl⟩
    rw [List.zip_append l1.symm] at z
    exact wpAny_bind (wpAny_newTuple (wpAny_pure z) (by rw [← r2.length]; exact hz))
  · obtain ⟨p, hp, rfl, rfl⟩ := g
    obtain ⟨t, ht, q⟩ := hbody cdv A outer s2 _ _ Q E hg hr' (hq p hp)
    exact ⟨t, ht.nox, q⟩
end Ver

/-! Sets of texts: made from a text's signs, sorted. -/
namespace Ver
open PySem PySem.Spec PyProof.Rows L2
open PySem.Froz (TxOk addTx sObj sing SD tailTx add_x add_ok)
/-- a set's table that can be walked -/
def TabW (w : World) (t : SetTable) : Prop := Ris t.place.toList ∧ (w.params.followText "set-order" = true ∨ t.led = true)
theorem tabW_tail {w : World} {ep : Nat} {es : Array (Int × Value)} {t : SetTable} {d : Bool} (h : TabW w t) : TabW w (tailTx ep es t d).2.2 := by
  unfold tailTx
  by_cases c : (!d && t.tooFull) = true
  · rw [if_pos c]
    exact ⟨relayAll_ris _ _ _, h.2.imp id fun z => (relayAll_led _ _ _).trans z⟩
  · rw [if_neg c]
    exact h
theorem tabW_add {w : World} {k : Int} {v : Value} {D : SD} (h : TabW w D.2.2) : TabW w (addTx k v D).2.2 := by
  have hr := layNew_ris D.2.2 D.1 k v h.1
  have hl := layNew_led D.2.2 D.1 k v
  unfold addTx
  refine tabW_tail ⟨?_, ?_⟩
  · split
    · exact hr
    · exact hr
  · refine h.2.imp id fun z => ?_
    split
    · exact hl.trans z
    · exact hl.trans z
/-- the set at a holds the texts l -/
def SetS (P : Program) (w : World) (h : Heap) (a : Addr) (l : List Str) : Prop :=
  ∃ D : SD, h.get? a = some (sObj "set" D) ∧ TxOk P w D l ∧ l.Nodup ∧ l.length < scanBound ∧ TabW w D.2.2
section
variable {P : Program} {w : World} {A : Around} {E : Value → Shared → Prop} {s : Shared} {a : Addr} {l : List Str}
theorem SetS.at {h h' : Heap} (R : SetS P w h a l) (k : ∀ o, h.get? a = some o → h'.get? a = some o) : SetS P w h' a l :=
  let ⟨D, ho, r⟩ := R
  ⟨D, k _ ho, r⟩
theorem setS_add {k : Str} {u : Tok} {Q : Bool → Shared → Prop} (R : SetS P w s.heap a l) (room : l.length + 1 < scanBound)
    (hQ : ∀ (b : Bool) (h' : Heap) (l' : List Str), Heap.SameBut a s.heap h' → (∀ j, j ∈ l' ↔ j = k ∨ j ∈ l) → l'.length ≤ l.length + 1 → SetS P w h' a l' → Q b { s with heap := h' }) :
    wpAny (model P w) A (setAddHashed a (.str k u) (hashStr w k)) Q E s := by
  obtain ⟨D, ho, F, nd, hb, tw⟩ := R
  by_cases hk : k ∈ l
  · obtain ⟨es, ep, t⟩ := D
    have data : (sObj "set" (es, ep, t)).data = .set es ep t := rfl
    have fit : t.fits es.size = true := F.fit
    have el : ElemsOf (strKind P w) es.toList := F.el
    have few : es.size < scanBound := by
      rw [show es.size = l.length from F.sz]
      exact hb
    have own : (strKind P w).is k (.str k u) = true := PySem.Froz.is_str k u
    obtain ⟨j, ej⟩ : ∃ j, List.findIdx? (fun e => (strKind P w).is k e.2) es.toList = some j := by
      obtain ⟨e, he, q⟩ := (F.mem k).mp hk
      cases h : List.findIdx? (fun e => (strKind P w).is k e.2) es.toList with
      | some j => exact ⟨j, rfl⟩
      | none => exact absurd q (by rw [List.findIdx?_eq_none_iff.mp h e he]; exact Bool.false_ne_true)
    have z := hQ false s.heap l (Heap.SameBut.refl a s.heap) (fun j => ⟨.inr, fun q => q.elim (fun e => e ▸ hk) id⟩) (Nat.le_succ _) ⟨_, ho, F, nd, hb, tw⟩
    unfold setAddHashed setAddHashedIn
    refine wpAny_holding (wpAny_bind (wpAny_setState_of ho data fit (s := s) ?_))
    dsimp only
    rw [byScan_of rfl few el]
    simp only [↓reduceIte]
    unfold setAddByScan
    refine wpAny_bind (wpAny_bind (wpAny_rule (wpAny_bind (wpAny_setScan_of (knd := strKind P w) (k := k) own ho data fit el ?_))))
    rw [ej]
    dsimp only
    exact wpAny_pure (wpAny_pure z)
  · refine add_x ho F hk room (hQ true _ (k :: l) (Heap.SameBut.update s.heap a _) (fun j => List.mem_cons) (Nat.le_of_eq List.length_cons) ⟨_, PySem.Froz.get_upd _ ho rfl, add_ok u F, List.nodup_cons.mpr ⟨hk, nd⟩, by rw [List.length_cons]; exact room, tabW_add tw⟩)
/-- the rest of a text's signs into the set -/
theorem upd_signs {I : Addr} {fp wr : List Addr} {G : Array GenState → Array GenState → Prop} {x : Str} {St : Nat → Shared → Prop} {R : Result → Shared → Prop}
    (W : WalksS P w A.in1 I fp wr G x.cps.size (SignAt x) St) (hSf : a ∉ fp) (hx : x.cps.size + 1 < scanBound) :
    ∀ (k i : Nat) (s : Shared) (l : List Str), x.cps.size - i = k → i ≤ x.cps.size → St i s → l.length ≤ i → SetS P w s.heap a l → (∀ j, j ∈ l ↔ ∃ c ∈ x.cps.toList.take i, j = sing c) →
      (∀ s' l', Moved (a :: wr) G s s' → SetS P w s'.heap a l' → l'.length ≤ x.cps.size → (∀ j, j ∈ l' ↔ ∃ c ∈ x.cps.toList, j = sing c) → R (.ok (.ret .none)) s') →
      codeAny (model P w) A (.builtin "set.update.loop" ⟨[.ref a, .ref I], []⟩) R s := by
  have aw : a ∉ wr := fun h => hSf (W.sub _ h)
  have up : ∀ b ∈ wr, b ∈ a :: wr := fun b hb => List.mem_cons_of_mem _ hb
  intro k
  induction k with
  | zero =>
    intro i s l hk hi hst hl hS hm hR
    have hin : i = x.cps.size := by omega
    subst hin
    refine codeAny_builtin PyProof.Rows.F.entry_set_update_loop (?_ : wpAny _ _ _ _ _ _)
    rw [Around.under_plainId PyProof.Rows.F.plain_set_update_loop _]
    show wpAny _ A.in1 (pyNext (.ref I) >>= fun _ => _) _ _ s
    refine wpAny_bind (W.done s _ _ hst fun s' mv => ?_)
    show wpAny _ A.in1 (ret Value.none : Sem _) _ _ s'
    refine wpAny_pure (hR s' l (mv.mono up) (hS.at fun o e => mv.heap a o aw e) hl fun j => ?_)
    rw [hm j, List.take_of_length_le (by rw [Array.length_toList]; omega)]
  | succ k ih =>
    intro i s l hk hi hst hl hS hm hR
    have hlt : i < x.cps.size := by omega
    refine codeAny_builtin PyProof.Rows.F.entry_set_update_loop (?_ : wpAny _ _ _ _ _ _)
    rw [Around.under_plainId PyProof.Rows.F.plain_set_update_loop _]
    show wpAny _ A.in1 (pyNext (.ref I) >>= fun _ => _) _ _ s
    refine wpAny_bind (W.item i s _ _ hlt hst fun v s' hP hst' mv => ?_)
    obtain ⟨c, t, hc, rfl⟩ := hP
    have hS' : SetS P w s'.heap a l := hS.at fun o e => mv.heap a o aw e
    show wpAny _ A.in1 (holding [Value.str (sing c) t] (setAdd a (.str (sing c) t)) >>= fun _ => _) _ _ s'
    refine wpAny_bind (wpAny_holding ?_)
    unfold setAdd
    refine wpAny_holding (wpAny_bind ((strKind P w).pyHash (k := sing c) (PySem.Froz.is_str _ _) ?_))
    refine setS_add (s := { s' with toks := s'.toks + 1 }) hS' (by omega) fun b h' l' sb hm' hl' hS2 => ?_
    refine wpAny_pure ⟨plainId_quiet PyProof.Rows.F.plain_set_update_loop _, ih (i + 1) _ l' (by omega) hlt (W.frame _ s' _ _ hst' (Nat.le_succ _) fun b hb o e => ?_) (by omega) hS2 (fun j => ?_) fun s'' l'' mv'' hS'' hl'' hm'' => ?_⟩
    · exact (sb.2 b fun z : b = a => hSf (z ▸ hb)).trans e
    · rw [hm' j, hm j, List.take_add_one, show x.cps.toList[i]? = some c by rw [Array.getElem?_toList]; exact hc]
      simp only [Option.toList, List.mem_append, List.mem_singleton]
      constructor
      · rintro (h | ⟨d, hd, e⟩)
        · exact ⟨c, .inr rfl, h⟩
        · exact ⟨d, .inl hd, e⟩
      · rintro ⟨d, hd | hd, e⟩
        · exact .inr ⟨d, hd, e⟩
        · exact .inl (hd ▸ e)
    · refine hR s'' l'' (Moved.trans W.gtrans ((mv.mono up).then_heap (Nat.le_succ _) fun b o hb e => ?_) mv'') hS'' hl'' hm''
      exact (sb.2 b fun z : b = a => hb (z ▸ List.mem_cons_self)).trans e
end
end Ver

namespace Ver
open PySem PySem.Spec PyProof.Rows L2
open PySem.Froz (TxOk addTx sObj sing SD tailTx add_x add_ok)
/-- a set as set() lays it -/
abbrev newS (w : World) : Obj := { cls := .type "set", dict := none, data := .set #[] 0 (.fresh 0 0 (!w.params.followText "set-order")) }
theorem setS_fresh {P : Program} {w : World} {h : Heap} {a : Addr} (ho : h.get? a = some (newS w)) : SetS P w h a [] :=
  ⟨(#[], 0, .fresh 0 0 (!w.params.followText "set-order")), ho, TxOk.nil rfl, List.nodup_nil, by decide, List.Pairwise.nil, by
    show _ ∨ (!w.params.followText "set-order") = true
    cases w.params.followText "set-order" <;> simp⟩
section
variable {P : Program} {w : World} {A : Around} {E : Value → Shared → Prop} {s : Shared}
set_option maxHeartbeats 8000000 in
theorem call_set_text {x : Str} {t : Tok} {Q : Value → Shared → Prop} (hh : A.handled = none) (ha : x.cps.all (· < 128) = true) (hb : x.cps.size + 1 < scanBound)
    (h : ∀ (h' : Heap) (tk : Nat) (l : List Str), SetS P w h' s.heap.objs.size l → l.length ≤ x.cps.size → (∀ j, j ∈ l ↔ ∃ c ∈ x.cps.toList, j = sing c) → (∀ b o, s.heap.get? b = some o → h'.get? b = some o) →
      Q (.ref s.heap.objs.size) { s with heap := h', toks := tk }) :
    wpAny (model P w) A (call (.type "set") [.str x t]) Q E s := by
  obtain ⟨c, tl, hmro⟩ := F.called_set.mro
  have m1 := F.called_set.made
  have m2 := F.called_set.sub
  refine wpAny_call (codeAny_of_tree (?_ : wpAny _ _ (callAny (.type "set") _) _ _ _))
  refine wpAny_pure ⟨Code.quiet_builtin _ (by decide +kernel), codeAny_builtin F.entry_type_call (?_ : wpAny _ _ _ _ _ _)⟩
  rw [Around.under_plain (weight_type_call_type "set" [.str x t] []) rfl]
  have m3 := F.called_set.notType
  have m4 := F.called_set.canCreate
  have m5 := F.typeCall_set_1 (.str x t)
  repeat (any_goals (first | assumption | wp_step))
  refine codeAny_mono (code_set_led1 (.str x t) (E := E) (Q₁ := fun obj s₁ => obj = .ref s.heap.objs.size ∧ s₁ = { s with heap := s.heap.push (newS w) }) ⟨rfl, rfl⟩) fun r s₁ hr => ?_
  match r, hr with
  | .error e, hr => exact hr
  | .ok .next, hr => exact hr.elim
  | .ok .brk, hr => exact hr.elim
  | .ok .cont, hr => exact hr.elim
  | .ok (.ret obj), hr =>
    obtain ⟨rfl, rfl⟩ := hr
    have at_ : (s.heap.push (newS w)).get? s.heap.objs.size = some (newS w) := Heap.get?_push_size _ rfl
    have tyS : Shared.TypeIs { s with heap := s.heap.push (newS w) } (.ref s.heap.objs.size) "set" := ⟨_, at_, rfl⟩
    have i1 := F.called_set.init.lookup
    have i2 := F.called_set.init.bind (.ref s.heap.objs.size)
    repeat (any_goals (first | assumption | wp_step))
    refine codeAny_mono (codeAny_call_builtin (R := wants (fun r s₂ => r = .none ∧ ∃ h' tk l, s₂ = { s with heap := h', toks := tk } ∧ SetS P w h' s.heap.objs.size l ∧ l.length ≤ x.cps.size ∧ (∀ j, j ∈ l ↔ ∃ c ∈ x.cps.toList, j = sing c) ∧
        (∀ b o, s.heap.get? b = some o → h'.get? b = some o)) E) F.called_set.init.plain F.entry_set_init (check_set_init_1 tyS ?_)) fun r₂ s₂ hr₂ => ?_
    · have n1 := F.sub_str_set
      have n2 := F.sub_str_frozenset
      have n3 : (Value.type "str" == Value.type "dict") = false := by decide
      have tyX : Shared.TypeIs { s with heap := s.heap.push (newS w) } (.str x t) "str" := typeIs_str _ x t
      unfold Builtin.«set.__init__» noKeywords Builtin.Frozenset.updateFrom
      generalize hPI : pyIter = PI
      wp_walk
      subst hPI
      refine wpAny_pyIter_ascii ha ?_
      refine wpAny_bind (wpAny_runValue ?_)
      have z1 : (s.heap.push (newS w)).objs.size = s.heap.objs.size + 1 := Heap.size_push ..
      have off : s.heap.objs.size ∉ [(s.heap.push (newS w)).objs.size] := by
        rw [z1]
        simp
      refine upd_signs (a := s.heap.objs.size) ((Walks.strAscii (by simp [hh]) (s.heap.push (newS w)).objs.size x t).toS) off hb (x.cps.size - 0) 0 _ [] (by omega) (Nat.zero_le _)
        ⟨_, Heap.get?_push_size _ rfl, rfl, rfl⟩ (Nat.zero_le _) (setS_fresh (Heap.get?_push_of_some _ at_)) (fun j => by simp) fun s' l' mv hS' hl' hm' => ?_
      obtain ⟨h', g2, d', tk', os'⟩ := s'
      have eg : g2 = s.gens := mv.gens
      have ed : d' = s.drawn := mv.drawn
      have eo : os' = s.os := mv.os
      subst eg; subst ed; subst eo
      refine wpAny_bind (wpAny_pure ?_)
      refine wpAny_pure (?_ : wpAny _ _ (ret Value.none) _ _ _)
      refine wpAny_pure ⟨rfl, h', tk', l', rfl, hS', hl', hm', fun b o e => ?_⟩
      have lt := Heap.lt_size e
      refine mv.heap b o ?_ (Heap.get?_push_of_some _ (Heap.get?_push_of_some _ e))
      rw [z1]
      simp only [List.mem_cons, List.not_mem_nil, or_false, not_or]
      exact ⟨Nat.ne_of_lt lt, Nat.ne_of_lt (Nat.lt_succ_of_lt lt)⟩
    · match r₂, hr₂ with
      | .error e, hr₂ => exact hr₂
      | .ok .next, hr₂ => exact hr₂.elim
      | .ok .brk, hr₂ => exact hr₂.elim
      | .ok .cont, hr₂ => exact hr₂.elim
      | .ok (.ret r), hr₂ =>
        obtain ⟨rfl, h', tk, l', rfl, q1, q2, q3, q4⟩ := hr₂
        repeat (any_goals (first | assumption | wp_step))
        exact h _ _ _ q1 q2 q3 q4
end
end Ver

namespace Ver
open PySem PySem.Spec PyProof.Rows L2
open PySem.Froz (TxOk sObj sing SD)
theorem perm_of_nodup {α : Type} [BEq α] [LawfulBEq α] : ∀ {l m : List α}, l.Nodup → (∀ x ∈ l, x ∈ m) → m.length ≤ l.length → m.Perm l
  | [], m, _, _, h => by rw [List.length_eq_zero_iff.mp (Nat.le_zero.mp h)]
  | x :: l, m, nd, hs, h => by
    obtain ⟨h1, h2⟩ := List.nodup_cons.mp nd
    have hx : x ∈ m := hs x List.mem_cons_self
    have p := List.perm_cons_erase hx
    have e := List.length_erase_of_mem hx
    have hp : 0 < m.length := List.length_pos_of_mem hx
    rw [List.length_cons] at h
    refine p.trans ((perm_of_nodup (l := l) (m := m.erase x) h2 (fun y hy => ?_) (by omega)).cons x)
    exact (List.mem_erase_of_ne (show y ≠ x from fun z => h1 (z ▸ hy))).mpr (hs y (List.mem_cons_of_mem _ hy))
theorem strs_of_all : ∀ (vs : List Value), (∀ v ∈ vs, ∃ x t, v = Value.str x t) → ∃ ss, StrsAre vs ss ∧ ∀ v ∈ vs, ∀ x t, v = Value.str x t → x ∈ ss
  | [], _ => ⟨[], .nil, fun v hv => by cases hv⟩
  | v :: vs, h => by
    obtain ⟨x, t, rfl⟩ := h v List.mem_cons_self
    obtain ⟨ss, h1, h2⟩ := strs_of_all vs fun u hu => h u (List.mem_cons_of_mem _ hu)
    refine ⟨x :: ss, .cons x t h1, fun u hu y q e => ?_⟩
    rcases List.mem_cons.mp hu with z | z
    · rw [e] at z
      cases z
      exact List.mem_cons_self
    · exact List.mem_cons_of_mem _ (h2 u z y q e)
section
variable {P : Program} {w : World} {A : Around} {E : Value → Shared → Prop} {s : Shared} {a : Addr} {l : List Str}
theorem setS_items {D : SD} (F : TxOk P w D l) (nd : l.Nodup) {vs : List Value} (pm : vs.Perm (D.1.toList.map (·.2))) : ∃ ss, StrsAre vs ss ∧ ss.Perm l := by
  have all : ∀ v ∈ vs, ∃ x t, v = Value.str x t := fun v hv => by
    obtain ⟨e, he, q⟩ := List.mem_map.mp (pm.mem_iff.mp hv)
    obtain ⟨⟨k, hk, _⟩, _⟩ := F.el e he
    rw [← q]
    have h : Value.isStrOf k e.2 = true := hk
    cases hv2 : e.2 with
    | str x t => exact ⟨x, t, rfl⟩
    | _ => rw [hv2] at h; simp [Value.isStrOf] at h
  obtain ⟨ss, h1, h2⟩ := strs_of_all vs all
  refine ⟨ss, h1, perm_of_nodup nd (fun x hx => ?_) ?_⟩
  · obtain ⟨e, he, q⟩ := (F.mem x).mp hx
    have hv : e.2 ∈ vs := pm.mem_iff.mpr (List.mem_map.mpr ⟨e, he, rfl⟩)
    obtain ⟨y, t, ey⟩ := all _ hv
    have h : Value.isStrOf x e.2 = true := q
    rw [ey] at h
    have xy : y = x := by
      simp [Value.isStrOf] at h
      exact h
    rw [← xy]
    exact h2 _ hv y t ey
  · have e1 := h1.length
    have e2 := pm.length_eq
    rw [List.length_map, Array.length_toList] at e2
    have e3 : D.1.size = l.length := F.sz
    exact Nat.le_of_eq (e1.symm.trans (e2.trans e3))
theorem sorted_setS {Q : Value → Shared → Prop} (R : SetS P w s.heap a l) (hh : A.handled = none) (h64 : l.length < 64)
    (hQ : ∀ s' p (out : Array Value) (c : Nat) (ys : List Str), (∀ b o, s.heap.get? b = some o → s'.heap.get? b = some o) → s'.gens = s.gens → s'.os = s.os → s.heap.objs.size ≤ p →
      s'.heap.get? p = some (seqObj "list" out c) → StrsAre out.toList ys → ys.Perm l → sortedS ys = true → Q (.ref p) s') :
    wpAny (model P w) A (call (.builtin "sorted") [.ref a]) Q E s := by
  obtain ⟨D, ho, F, nd, hb, tw⟩ := R
  have few : D.1.size < scanBound := by
    rw [show D.1.size = l.length from F.sz]
    exact hb
  refine Calls.call_function_entry kind_sorted plain_sorted entry_sorted (args_sorted1 _) ?_
  unfold Builtin.«sorted»
  refine wpAny_bind (m := checkCount "sorted" 1 1 _) (wpAny_pure (wpAny_bind (collect_set (A := A.in1) hh ⟨_, ho, rfl, rfl⟩ F.fit few tw.1 tw.2 fun s1 vs k1 hz g1 o1 pm => ?_)))
  obtain ⟨ss, hS, pl⟩ := setS_items F nd pm
  have vl : vs.length = l.length := by rw [hS.length, pl.length_eq]
  have v64 : vs.length < 64 := by rw [vl]; exact h64
  refine wpAny_bind (wpAny_newList (?_ : wpAny _ _ _ _ _ _) (by rw [sizeLine_eq]; omega))
  have hoL : (s1.heap.push (seqObj "list" vs.toArray 0)).get? s1.heap.objs.size = some (seqObj "list" vs.toArray 0) := Heap.get?_push_size _ rfl
  refine wpAny_bind (wpAny_holding (wpAny_call_entry slot_list_sort ⟨_, hoL, rfl⟩ entry_list_sort (list_sort_treeK strKind_oneLt hoL hS.keysOf (fun v₁ v₂ rest e => keyKind_strs (by rw [← e]; exact hS)) v64 fun st' hp hs => ⟨_, rfl, ?_⟩) (args_list_sort _)))
  obtain ⟨ys, y1, y2, y3⟩ := sorted_out_str hS hp hs
  obtain ⟨c, hc⟩ := sortedHeap_at (vs := vs) (out := (arrOf st').map (·.2)) hoL
  refine wpAny_pure ⟨_, rfl, hQ _ s1.heap.objs.size _ c ys (fun b u e => ?_) g1 o1 hz hc y1 (y2.trans pl) y3⟩
  have q := k1 b u e
  have lt := Heap.lt_size q
  refine (sortedHeap_old (Nat.ne_of_lt lt) (by rw [size_push']; exact Nat.lt_succ_of_lt lt)).trans ?_
  exact Heap.get?_push_of_some _ q
end
/-! ### over the layer -/
/-- the set of the texts l at a -/
def SetTx (P : Program) (w : World) (a : Addr) (l : List Str) : HO := .ext fun h => SetS P w h a l
section
variable {X : Cx}
theorem setTx_new {w : World} {P : Program} {H : Hp} {h : Heap} {a : Addr} {l : List Str} (R : SetS P w h a l) : ObjOk P w H h a (SetTx P w a l) :=
  ⟨R, let ⟨_, ho, _⟩ := R; ⟨_, ho⟩, fun h1 h2 p k => SetS.at p (k · )⟩
/-- set(text) -/
def rSetText (P : Program) (w : World) : List V → Hp → VK → Prop := fun vs H Q => ∃ x : Str, vs = [.str x] ∧ x.cps.all (· < 128) = true ∧ x.cps.size + 1 < scanBound ∧
  ∀ (l : List Str) (p : Addr), l.Nodup → l.length ≤ x.cps.size → (∀ j, j ∈ l ↔ ∃ c ∈ x.cps.toList, j = sing c) → H p = none → Q (.ref p) (upd H p (SetTx P w p l))
theorem cr_setText (hc : X.calm = true) : CallR X (.type "set") (rSetText X.prog X.w) := by
  intro pins s σ H vs us Q I r h
  obtain ⟨x, rfl, ha, hb, q⟩ := h
  obtain ⟨u, rfl, t, rfl⟩ := vals1 r
  refine call_set_text (I.ok.hd hc) ha hb fun h' tk l R hl hm kp => ?_
  have nd : l.Nodup := let ⟨_, _, _, nd, _⟩ := R; nd
  exact ⟨.ref s.heap.objs.size, _, I.laid (t' := tk) kp (Nat.le_refl _) (setTx_new R), rfl, q l _ nd hl hm (I.hok.fresh (Nat.le_refl _))⟩
/-- sorted(set) -/
def rSortedTx (P : Program) (w : World) : List V → Hp → VK → Prop := fun vs H Q => ∃ (a : Addr) (l : List Str), vs = [.ref a] ∧ H a = some (SetTx P w a l) ∧ l.length < 64 ∧
  ∀ (ys : List Str) (p : Addr), ys.Perm l → sortedS ys = true → H p = none → Q (.ref p) (upd H p (.lst (ys.map V.str)))
theorem cr_sortedTx (hc : X.calm = true) : CallR X (.builtin "sorted") (rSortedTx X.prog X.w) := by
  intro pins s σ H vs us Q I r h
  obtain ⟨a, l, rfl, ha, h64, q⟩ := h
  have R : SetS X.prog X.w s.heap a l := (I.hok a _ ha).1
  rw [Vals.ref1 r]
  refine sorted_setS R (I.ok.hd hc) h64 fun s' p out c ys k g o hp hg hi pm hs => ?_
  have hlen : (ys.map V.str).length ≤ sizeLine := by
    rw [List.length_map, pm.length_eq, sizeLine_eq]
    omega
  have hn : H p = none := I.hok.fresh hp
  have J : Inv X pins σ (upd H p (.lst (ys.map V.str))) { s with heap := s'.heap, gens := s'.gens, drawn := s'.drawn, toks := s'.toks } :=
    I.call (ch := []) (Un.laid k hp hn) (I.hok.laid k hp ⟨hlen, out.toList, c, vals_of_strs hi, hg⟩) (by rw [g]; exact I.bare) (fun _ z => nomatch z)
  have e : s' = { s with heap := s'.heap, gens := s'.gens, drawn := s'.drawn, toks := s'.toks } := by
    cases s'
    cases s
    cases o
    rfl
  rw [e]
  exact ⟨.ref p, _, J, rfl, q ys p pm hs hn⟩
end
end Ver

/-! f(.., **d): the keywords out of a dict, into a dict. -/
namespace Ver
open PySem PySem.Spec PyProof.Rows L2
theorem stored_fresh {κ : Type} [DecidableEq κ] {kvs : List (κ × Value)} {k : κ} {v : Value} (h : k ∉ kvs.map (·.1)) : stored kvs k v = kvs ++ [(k, v)] := by
  unfold stored
  refine if_neg fun z => ?_
  obtain ⟨x, hx, e⟩ := List.any_eq_true.mp z
  exact h (List.mem_map.mpr ⟨x, hx, of_decide_eq_true e⟩)
section
variable {P : Program} {w : World} {A : Around} {E : Value → Shared → Prop} {s : Shared} {d a : Addr} {vs : List (Key × Value)}
theorem dict_idx {es : Array DictEntry} {kvs : List (Key × Value)} (hp : Pairs (mixKind P w) es.toList kvs) {k : Key} (h : k ∉ kvs.map (·.1)) : (es.findIdx? fun e => (mixKind P w).is k e.key) = none := by
  have e := hp.findIdx k
  have e2 : (kvs.findIdx? fun kv => decide (kv.1 = k)) = none := by
    rw [List.findIdx?_eq_none_iff]
    exact fun x hx => decide_eq_false fun z => h (List.mem_map.mpr ⟨x, hx, z⟩)
  rw [e2] at e
  obtain ⟨l⟩ := es
  simpa using e
/-- a new key at the end -/
theorem put_fresh {k : Key} {key v : Value} {kvs : List (Key × Value)} {Q : Unit → Shared → Prop} (hkey : (mixKind P w).is k key = true) (hm : s.heap.DictOf (mixKind P w) d kvs) (hn : k ∉ kvs.map (·.1)) (hz : kvs.length ≤ sizeLine)
    (hQ : ∀ h', h'.DictOf (mixKind P w) d (kvs ++ [(k, v)]) → Heap.SameBut d s.heap h' → Q () { s with heap := h' }) :
    wpAny (model P w) A (dictPut d ((mixKind P w).hash k) key v) Q E s := by
  obtain ⟨o, es, ep, ho, hc, hd, hk, hp, hu⟩ := hm
  have hes : es.size ≤ sizeLine := by
    have e := hp.length
    rw [Array.length_toList] at e
    omega
  unfold dictPut
  refine wpAny_bind (wpAny_dictFind_of hkey ho hd hk ?_)
  rw [dict_idx hp hn]
  refine wpAny_updateDictKeys (hz := hes) ho hd (hQ _ ⟨_, _, ep + 1, Heap.get?_update_self _ ho (Obj.isFreed_of_dict (Obj.data_mapDictKeys hd _)), hc.mapDictKeys _, Obj.data_mapDictKeys hd _, hk.push hkey _, ?_, ?_⟩ (Heap.SameBut.update ..))
  · rw [Array.toList_push]
    exact hp.append hkey _ v
  · rw [List.map_append, List.nodup_append]
    refine ⟨hu, by simp, fun x hx y hy => ?_⟩
    rw [show y = k by simpa using hy]
    exact fun e => hn (e ▸ hx)
theorem key_no_ref {es : Array DictEntry} (hk : KeysOf (mixKind P w) es) {e : DictEntry} (he : e ∈ es) (b : Addr) : e.key ≠ .ref b := fun z => by
  obtain ⟨k, hk', _⟩ := hk e he
  rw [z] at hk'
  rcases keyIs_shape hk' with ⟨i, t, _, h⟩ | ⟨x, t, _, h⟩ <;> exact nomatch h
/-- a dict into a new one -/
theorem merge_new {Q : Unit → Shared → Prop} (hd : s.heap.DictOf (mixKind P w) d []) (ha : s.heap.DictOf (mixKind P w) a vs) (ne : d ≠ a) (hs : (a == sysModules) = false) (hz : vs.length ≤ sizeLine)
    (hQ : ∀ h', h'.DictOf (mixKind P w) d vs → Heap.SameBut d s.heap h' → Q () { s with heap := h' }) :
    wpAny (model P w) A (mergeMapping d (.ref a) true) Q E s := by
  obtain ⟨od, esd, epd, hod, hcd, hdd, hkd, hpd, hnd⟩ := id hd
  obtain ⟨oo, eso, epo, hoo, hco, hdo, hko, hpo, hno⟩ := id ha
  have hlen : vs.length = eso.size := by
    rw [← hpo.length, Array.length_toList]
  have esd0 : esd = #[] := by
    have e := hpd.length
    rw [Array.length_toList] at e
    exact Array.eq_empty_of_size_eq_zero e
  have tyA : s.TypeIs (.ref a) "dict" := ⟨oo, hoo, hco.1⟩
  unfold mergeMapping
  refine wpAny_bind (wpAny_isInstance tyA isSubtype_dict_dict ?_)
  simp only [if_true]
  refine wpAny_bind (wpAny_specialOf tyA F.slot_dict_iter.lookup (wpAny_bind (wpAny_pure ?_)))
  rw [beq_self_eq_true]
  dsimp only
  rw [if_neg (by rw [hs]; exact Bool.false_ne_true)]
  refine wpAny_bind (wpAny_dictEntries hod hdd ?_)
  rw [esd0, if_pos (by rfl)]
  refine wpAny_bind (wpAny_dictEntries hoo hdo (wpAny_bind ?_))
  refine PySem.wpAny_forIn_array' _ (fun rest _ s' => s' = s ∧ ∀ e ∈ rest, e ∈ eso) _ ?_ ?_ _ _ ⟨rfl, fun e he => Array.mem_toList_iff.mp he⟩
  · rintro e rest _ s' ⟨rfl, all⟩
    have he := all e List.mem_cons_self
    cases hkey : e.key with
    | ref b => exact absurd hkey (key_no_ref hko he b)
    | _ => exact wpAny_pure ⟨rfl, fun e' he' => all e' (List.mem_cons_of_mem _ he')⟩
  · rintro _ s' ⟨rfl, _⟩
    refine wpAny_bind (wpAny_dictEntries hoo hdo (wpAny_bind (wpAny_dictEpoch hoo hdo (wpAny_bind ?_))))
    rw [List.range_eq_range']
    refine wpAny_forIn_list _ (fun rest _ s2 => ∃ h' i, s2 = { s' with heap := h' } ∧ rest = List.range' i (eso.size - i) ∧ i ≤ eso.size ∧ h'.DictOf (mixKind P w) d (vs.take i) ∧ h'.get? a = some oo ∧ Heap.SameBut d s'.heap h') _ ?_ ?_ _ _
      ⟨s'.heap, 0, rfl, by simp, Nat.zero_le _, by rw [List.take_zero]; exact hd, hoo, Heap.SameBut.refl _ _⟩
    · rintro x rest _ s2 ⟨h', i, rfl, hr, hi, hd', hoo', sb⟩
      have hlt : i < eso.size := Classical.byContradiction fun z => by
        rw [Nat.sub_eq_zero_of_le (Nat.le_of_not_lt z)] at hr
        cases hr
      rw [show eso.size - i = (eso.size - (i + 1)) + 1 by omega, List.range'_succ] at hr
      obtain ⟨rfl, hrest⟩ := List.cons.inj hr
      refine wpAny_bind (wpAny_dictEntries hoo' hdo ?_)
      rw [Array.getElem?_eq_getElem hlt]
      obtain ⟨⟨k, v⟩, hkv⟩ : ∃ kv, vs[x]? = some kv := ⟨vs[x]'(by rw [hlen]; exact hlt), List.getElem?_eq_getElem _⟩
      obtain ⟨hkey, hval⟩ := hpo.get? (e := eso[x]) (by simp [hlt]) hkv
      obtain ⟨k', hkey', hhash⟩ := hko eso[x] (Array.getElem_mem hlt)
      obtain rfl : k' = k := (mixKind P w).inj _ _ _ hkey' hkey
      have fresh : k' ∉ (vs.take x).map (·.1) := fun z => by
        obtain ⟨y, hy, ey⟩ := List.mem_map.mp z
        obtain ⟨j, hj⟩ := List.getElem?_of_mem hy
        have jx : j < x := by
          have := (List.getElem?_eq_some_iff.mp hj).1
          rw [List.length_take] at this
          omega
        rw [List.getElem?_take_of_lt jx] at hj
        have n1 : (vs.map (·.1))[j]? = some k' := by rw [List.getElem?_map, hj]; exact congrArg some ey
        have n2 : (vs.map (·.1))[x]? = some k' := by rw [List.getElem?_map, hkv]; rfl
        exact absurd ((List.getElem?_inj (by rw [List.length_map, hlen]; omega) hno).mp (n1.trans n2.symm)) (Nat.ne_of_lt jx)
      have few : (vs.take x).length ≤ sizeLine := by
        rw [List.length_take]
        omega
      obtain ⟨o2, es2, ep2, ho2, hc2, hd2, hk2, hp2, hu2⟩ := id hd'
      show wpAny _ _ (holding [eso[x].key, eso[x].val] (dictFind d eso[x].key eso[x].hash >>= fun r => _) >>= fun _ => _) _ _ _
      rw [hhash]
      refine wpAny_bind (wpAny_holding (wpAny_bind (wpAny_dictFind_of hkey ho2 hd2 hk2 ?_)))
      rw [dict_idx hp2 fresh]
      simp only [Option.isSome_none, Bool.false_eq_true, if_false]
      rw [hval]
      refine put_fresh (s := { s' with heap := h' }) hkey hd' fresh few fun h'' hd'' sb2 => ?_
      have hoo'' : h''.get? a = some oo := (sb2.2 a (Ne.symm ne)).trans hoo'
      refine wpAny_bind (wpAny_dictEpoch hoo'' hdo ?_)
      rw [if_neg (by simp)]
      refine wpAny_pure ⟨h'', x + 1, rfl, hrest, hlt, ?_, hoo'', sb.trans sb2⟩
      rw [List.take_add_one, hkv]
      exact hd''
    · rintro _ s2 ⟨h', i, rfl, hr, hi, hd', _, sb⟩
      have hin : i = eso.size := Nat.le_antisymm hi (Nat.le_of_not_lt fun z => by
        rw [show eso.size - i = (eso.size - (i + 1)) + 1 by omega, List.range'_succ] at hr
        cases hr)
      rw [hin, ← hlen, List.take_length] at hd'
      exact wpAny_pure (hQ h' hd' sb)
end
end Ver

namespace Ver
open PySem PySem.Spec PyProof.Rows L2
/-- the entries of texts -/
abbrev tks (kws : List (Str × Value)) : List (Key × Value) := kws.map fun p => (Sum.inr p.1, p.2)
section
variable {P : Program} {w : World} {A : Around} {E : Value → Shared → Prop} {s : Shared} {d a : Addr} {vs : List (Key × Value)}
theorem ns_fresh {name : Str} {v : Value} {Q : Unit → Shared → Prop} (hm : s.heap.DictOf (mixKind P w) d vs) (hn : Sum.inr name ∉ vs.map (·.1))
    (hQ : ∀ h', h'.DictOf (mixKind P w) d (vs ++ [(Sum.inr name, v)]) → Heap.SameBut d s.heap h' → Q () { s with heap := h', toks := s.toks + 1 }) : wpAny (model P w) A (nsSet d name v) Q E s := fun Γ p hΓ => by
  obtain ⟨o, es, ep, ho, hc, hd, hk, hp, hu⟩ := hm
  have idx := dict_idx hp hn
  have shape : ∀ e ∈ es, e.key.isStr name = (mixKind P w).is (Sum.inr name) e.key := fun e he => by
    obtain ⟨k, hk', _⟩ := hk e he
    rcases keyIs_shape hk' with ⟨i, t, e1, e2⟩ | ⟨x, t, e1, e2⟩ <;> rw [e2] <;> simp [mixKind_is, keyIs, Value.isStr, Value.isStrOf] <;> exact eq_comm
  have hi : es.findIdx? (·.key.isStr name) = none := by
    rw [Array.findIdx?_eq_none_iff] at idx ⊢
    exact fun e he => (shape e he).trans (idx e he)
  have noref : es.any (·.refKey) = false := by
    rw [Array.any_eq_false']
    intro e he
    obtain ⟨k, hk', _⟩ := hk e he
    rcases keyIs_shape hk' with ⟨i, t, e1, e2⟩ | ⟨x, t, e1, e2⟩ <;> simp [DictEntry.refKey, e2]
  simp only [nsSet, strHash, Sem.wp_bind', Sem.wp_cmd_ask, Sem.wp_pure', Sem.wp_cmd_mkText]
  rw [Sem.wp_loadPart_of _ Γ _ p { s with toks := s.toks + 1 } (o := o) _ ho]
  simp only [hd, aRefKeyMayBeTheName_eq, aRefKeyMayBeTheNameByArray, noref, Bool.and_false, Bool.false_eq_true, if_false, Sem.wp_cmd_updatePart]
  have keyed : (mixKind P w).is (Sum.inr name) (.str name s.toks) = true := mixKind_str P w name _
  refine ⟨by rw [ho]; rfl, hQ _ ?_ (Heap.SameBut.update ..)⟩
  obtain ⟨c, dd, dt, sl⟩ := o
  subst hd
  refine ⟨_, _, ep + 1, Heap.get?_update_self _ ho (by simp only [Obj.putName_eq, Obj.putNameByArray, hi]; rfl), ?_, by simp only [Obj.putName_eq, Obj.putNameByArray, hi]; rfl, hk.push keyed _, ?_, ?_⟩
  · simp only [Obj.putName_eq, Obj.putNameByArray, hi]
    exact hc
  · rw [Array.toList_push]
    exact hp.append keyed _ v
  · rw [List.map_append, List.nodup_append]
    refine ⟨hu, by simp, fun x hx y hy => ?_⟩
    rw [show y = Sum.inr name by simpa using hy]
    exact fun e => hn (e ▸ hx)
/-- a run of them -/
theorem ns_run (f : (Str × Value) → PUnit → Sem (ForInStep PUnit)) (hf : ∀ x u, f x u = (do nsSet d x.1 x.2; pure (.yield ⟨⟩))) (Q : PUnit → Shared → Prop) :
    ∀ (kws done : List (Str × Value)) (s : Shared), s.heap.DictOf (mixKind P w) d (tks done) → ((done ++ kws).map (·.1)).Nodup →
      (∀ h' tk, h'.DictOf (mixKind P w) d (tks (done ++ kws)) → Heap.SameBut d s.heap h' → Q ⟨⟩ { s with heap := h', toks := tk }) → wpAny (model P w) A (forIn kws ⟨⟩ f) Q E s
  | [], done, s, hm, nd, hQ => by
    rw [List.forIn_nil]
    rw [List.append_nil] at hQ
    exact wpAny_pure (hQ s.heap s.toks hm (Heap.SameBut.refl _ _))
  | x :: kws, done, s, hm, nd, hQ => by
    rw [List.forIn_cons, hf]
    have e : done ++ x :: kws = (done ++ [x]) ++ kws := by simp
    have fresh : Sum.inr x.1 ∉ (tks done).map (·.1) := fun z => by
      obtain ⟨y, hy, ey⟩ := List.mem_map.mp z
      obtain ⟨q, hq, eq⟩ := List.mem_map.mp hy
      rw [List.map_append, List.map_cons, List.nodup_append] at nd
      refine nd.2.2 q.1 (List.mem_map.mpr ⟨q, hq, rfl⟩) x.1 List.mem_cons_self ?_
      rw [← eq] at ey
      exact Sum.inr.inj ey
    refine wpAny_bind (wpAny_bind (ns_fresh hm fresh fun h' hm' sb => wpAny_pure ?_))
    rw [e] at nd hQ
    refine ns_run f hf Q kws (done ++ [x]) _ ?_ nd fun h'' tk hm'' sb2 => hQ h'' tk hm'' (sb.trans sb2)
    rw [tks, List.map_append]
    exact hm'
/-- the keywords of one dict -/
theorem kw_merged {f : Value} {x : Sem Value} {Q : Addr → Shared → Prop}
    (h : wpAny (model P w) A x (fun v s1 => ∃ (a : Addr) (kvs : List (Str × Value)), v = .ref a ∧ s1.heap.DictOf (mixKind P w) s.heap.objs.size [] ∧ s1.heap.DictOf (mixKind P w) a (tks kvs) ∧ s.heap.objs.size ≠ a ∧ (a == sysModules) = false ∧ kvs.length ≤ sizeLine ∧
      ∀ h', h'.DictOf (mixKind P w) s.heap.objs.size (tks kvs) → Heap.SameBut s.heap.objs.size s1.heap h' → Q s.heap.objs.size { s1 with heap := h' }) (fun _ _ => False) { s with heap := s.heap.push { cls := .type "dict", data := .dict #[] } }) :
    wpAny (model P w) A (mergedKeywords f [(none, x)]) Q E s := by
  unfold mergedKeywords
  refine wpAny_bind (wpAny_alloc (wpAny_bind (wpAny_holding ?_)))
  dsimp only
  refine wpAny_bind ?_
  rw [List.forIn_cons]
  refine wpAny_bind ?_
  dsimp only
  rw [if_pos (by rfl)]
  refine wpAny_bind (wpAny_pure ?_)
  refine wpAny_bind (wpAny_mono h (fun v s1 z => ?_) fun _ _ z => z.elim)
  obtain ⟨a, kvs, rfl, hd, ha, ne, hs, hz, q⟩ := z
  refine wpAny_bind (wpAny_onRaise (wpAny_holding (wpAny_tryCatch (wpAny_onRaise (merge_new hd ha ne hs (by rw [List.length_map]; exact hz) fun h' hd' sb => ?_)))))
  refine wpAny_pure ?_
  dsimp only
  rw [List.forIn_nil]
  refine wpAny_pure ?_
  rw [if_pos (by rfl)]
  exact wpAny_pure (wpAny_pure (q h' hd' sb))
/-- the keywords in a dict -/
theorem kw_in {f : Value} {kvs : List (Str × Value)} {Q : List (Str × Value) → Shared → Prop} (hd : s.heap.DictOf (mixKind P w) d (tks kvs)) (q : Q kvs s) : wpAny (model P w) A (keywordsIn f d) Q E s := by
  obtain ⟨o, es, ep, ho, hc, hdd, hk, hp, hu⟩ := hd
  unfold keywordsIn
  refine wpAny_bind (wpAny_dictEntries ho hdd (wpAny_bind ?_))
  refine PySem.wpAny_forIn_array' _ (fun rest b s' => s' = s ∧ ∃ done left, kvs = done ++ left ∧ b = done ∧ Pairs (mixKind P w) rest (tks left)) _ ?_ ?_ _ _ ⟨rfl, [], kvs, rfl, rfl, hp⟩
  · rintro e rest b s' ⟨rfl, done, left, e1, rfl, hp'⟩
    cases left with
    | nil => cases hp'
    | cons p left =>
      cases hp' with
      | cons h1 h2 h3 =>
        rcases keyIs_shape (show keyIs (Sum.inr p.1) e.key = true from h1) with ⟨i, t, c, _⟩ | ⟨y, t, c, c2⟩
        · exact nomatch c
        · rw [c2]
          have c3 : p.1 = y := Sum.inr.inj c
          have c4 : e.val = p.2 := h2
          refine wpAny_pure ⟨rfl, b ++ [p], left, by rw [e1, List.append_assoc]; rfl, ?_, h3⟩
          rw [c4, ← c3]
  · rintro b s' ⟨rfl, done, left, e1, rfl, hp'⟩
    cases left with
    | cons p left => cases hp'
    | nil =>
      rw [List.append_nil] at e1
      subst e1
      exact wpAny_pure q
end
end Ver

namespace Ver
open PySem PySem.Spec PyProof.Rows L2
section
variable {P : Program} {w : World} {A : Around} {E : Value → Shared → Prop} {s : Shared} {d a : Addr} {vs : List (Key × Value)}
theorem dict_laid {h : Heap} : (h.push { cls := .type "dict", data := .dict #[] }).DictOf (mixKind P w) h.objs.size [] :=
  ⟨_, #[], 0, Heap.get?_push_size _ rfl, ⟨rfl, rfl, rfl⟩, rfl, fun e he => by simp at he, .nil, .nil⟩
/-- binding for def f(ps, **a) -/
theorem bind_kw {fd : FuncData} {args : List Arg} {ka : Arg} {us : List Value} {kws : List (Str × Value)} {Q : List (Str × Value) → Shared → Prop}
    (hp : fd.params = ⟨[], args, none, [], [], some ka, []⟩) (hdf : fd.defaults = .none) (hl : us.length = (args.map (·.arg)).length)
    (hz : (List.filterMap (fun n => (List.lookup n ((args.map (·.arg)).zip us)).map (n, ·)) (args.map (·.arg))) = (args.map (·.arg)).zip us)
    (hm : ((args.map (·.arg)).filter fun n => (((args.map (·.arg)).zip us).lookup n).isNone) = [])
    (hk : ∀ p ∈ kws, (args.map (·.arg)).contains p.1 = false) (few : kws.length ≤ sizeLine) (nd : (kws.map (·.1)).Nodup)
    (hQ : ∀ h' tk, h'.DictOf (mixKind P w) s.heap.objs.size (tks kws) → (∀ b o, s.heap.get? b = some o → h'.get? b = some o) → Q ((args.map (·.arg)).zip us ++ [(ka.arg, .ref s.heap.objs.size)]) { s with heap := h', toks := tk }) :
    wpAny (model P w) A (bindArgs fd ⟨us, kws⟩) Q E s := by
  unfold bindArgs
  simp only [hp, hdf, List.map_nil, List.nil_append, List.append_nil]
  generalize hps : args.map (·.arg) = ps at hl hz hm hk hQ ⊢
  refine wpAny_bind ?_
  refine wpAny_forIn_list _ (fun rest b s' => s' = s ∧ ∃ done, kws = done ++ rest ∧ b = (ps.zip us, done)) _ ?_ ?_ _ _ ⟨rfl, [], rfl, rfl⟩
  · rintro x rest b s' ⟨rfl, done, e1, rfl⟩
    have hx := hk x (by rw [e1]; exact List.mem_append_right _ List.mem_cons_self)
    rw [hx, if_neg (by simp), if_pos (by rfl)]
    exact wpAny_pure ⟨rfl, done ++ [x], by rw [e1, List.append_assoc]; rfl, rfl⟩
  · rintro b s' ⟨rfl, done, e1, rfl⟩
    rw [List.append_nil] at e1
    subst e1
    dsimp only
    refine wpAny_bind (wpAny_pure ?_)
    have n0 : ¬ us.length > ps.length := by omega
    simp only [Option.getD_none, List.length_nil, List.drop_nil, Nat.sub_zero, List.take_length, hm, List.isEmpty_nil, Bool.not_true, Bool.false_eq_true, if_false, decide_eq_false n0, Bool.false_and, List.drop_length, List.zip_nil_left, List.forIn_nil, pure_bind, hz]
    rw [if_neg (by omega)]
    refine wpAny_bind (wpAny_alloc ?_)
    have n1 : ({ s' with heap := s'.heap.push { cls := .type "dict", data := .dict #[] } } : Shared).heap.DictOf (mixKind P w) s'.heap.objs.size (tks []) := dict_laid
    refine wpAny_bind (ns_run _ (fun x u => rfl) _ kws [] _ n1 nd fun h' tk hm' sb => ?_)
    exact wpAny_pure (hQ h' tk hm' fun b o e => (sb.2 b (Nat.ne_of_lt (Heap.lt_size e))).trans (Heap.get?_push_of_some _ e))
end
/-! ### the promise of a def that takes keywords into a dict -/
/-- what it asks of: the values by place, the keywords, the heap -/
abbrev KSp := List V → List (Str × V) → Hp → VK → XK → Prop
def FnKw (P : Program) (w : World) (K : PySem.W.Frag) (mg : Str → Option Value) (base : Heap) (CX : CXT) (k : Nat) (f : Addr) (sp : KSp) : Prop :=
  ∀ (A : Around) (outer : List Env) (s : Shared) (H : Hp) (us : List Value) (vs : List V) (kws : List (Str × Value)) (kvs : List (Str × V)) (Q : VK) (E : XK), A.guards = some [] → Room k A →
    Env0 P w K mg base A outer s H → Vals vs us → KV kvs kws → sp vs kvs H Q E → codeAny (model P w) A (.call (.ref f) ⟨us, kws⟩) (CR CX outer P w H s Q E) s
theorem FnKw.mono {P : Program} {w : World} {K : PySem.W.Frag} {mg : Str → Option Value} {base : Heap} {CX : CXT} {j k : Nat} {f : Addr} {sp : KSp} (F : FnKw P w K mg base CX j f sp) (h : j ≤ k) : FnKw P w K mg base CX k f sp :=
  fun A outer s H us vs kws kvs Q E g hr e0 r rk q => F A outer s H us vs kws kvs Q E g (hr.mono h) e0 r rk q
/-- new objects ahead of a body: the place of one of them is tracked -/
theorem env0_new {P : Program} {w : World} {K : PySem.W.Frag} {mg : Str → Option Value} {base : Heap} {A : Around} {outer : List Env} {s : Shared} {H : Hp} {h' : Heap} {tk : Nat} {u : HO} (e0 : Env0 P w K mg base A outer s H)
    (kp : ∀ b x, s.heap.get? b = some x → h'.get? b = some x) (sz : s.heap.objs.size ≤ h'.objs.size) (new : ObjOk P w (upd H s.heap.objs.size u) h' s.heap.objs.size u) :
    Env0 P w K mg base A outer { s with heap := h', toks := tk } (upd H s.heap.objs.size u) := by
  refine ⟨e0.frames, e0.mod, fun b x e => ⟨kp b x (e0.bs b x e).1, ?_⟩, Nat.le_trans e0.bsz sz, Heap.FunFrames.of_keeps (fun b x e _ => ⟨x, kp b x e, rfl⟩) e0.funs, fun b hb => ?_, e0.hok.laid kp (Nat.le_refl _) new, e0.bare⟩
  · rw [upd_ne (Nat.ne_of_lt (Heap.lt_size (e0.bs b x e).1))]
    exact (e0.bs b x e).2
  · obtain ⟨_, x, hx, _⟩ := e0.funs.mem hb
    rw [upd_ne (Nat.ne_of_lt (Heap.lt_size hx))]
    exact e0.frf b hb
section
variable {CX : CXT} {P : Program} {w : World} {K : PySem.W.Frag} {mg : Str → Option Value} {base : Heap} {k : Nat} {f : Addr} {fd : FuncData} {name qual : Str} {args : List Arg} {ka : Arg} {body : List Stmt} {scope : Scope} {kws0 : List (Str × V)} {N : List Str} {sp : Sp}
theorem kv_tks {kvs : List (Str × V)} {kws : List (Str × Value)} (h : KV kvs kws) : KV (kvs.map fun p => ((Sum.inr p.1 : Key), p.2)) (tks kws) := by
  induction h with
  | nil => exact .nil
  | cons h1 _ ih => exact .cons ⟨congrArg Sum.inr h1.1, h1.2⟩ ih
theorem kv_names {kvs : List (Str × V)} {kws : List (Str × Value)} (h : KV kvs kws) : kvs.map (·.1) = kws.map (·.1) := by
  induction h with
  | nil => rfl
  | cons h1 _ ih => simp only [List.map_cons, ih, h1.1]
theorem kv_len {kvs : List (Str × V)} {kws : List (Str × Value)} (h : KV kvs kws) : kvs.length = kws.length := by
  have := congrArg List.length (kv_names h)
  simpa using this
/-- by its body: the keywords are a new dict at the last parameter -/
theorem okKw (F : FunD K name qual ⟨[], args, none, [], [], some ka, []⟩ body scope [] kws0 f fd) (S : FnScope N (args.map (·.arg) ++ [ka.arg]) scope) (hCX : StX.CXUp CX)
    (hz : ∀ us : List Value, us.length = (args.map (·.arg)).length → (List.filterMap (fun n => (List.lookup n ((args.map (·.arg)).zip us)).map (n, ·)) (args.map (·.arg))) = (args.map (·.arg)).zip us)
    (hm : ∀ us : List Value, us.length = (args.map (·.arg)).length → ((args.map (·.arg)).filter fun n => (((args.map (·.arg)).zip us).lookup n).isNone) = [])
    (hbody : ∀ (cdv : Value) (A : Around) (outer : List Env) (s : Shared) (H : Hp) (vs : List V) (Q : VK) (E : XK), A.guards = some [] → Room k (A.deeper (envOfC qual scope s.heap.objs.size f cdv)) → sp vs H Q E →
      ∃ t, PSs (cxOf CX P w K mg base N qual scope f cdv A outer s H E) body t ∧ t { nx := fun _ H' => Q .non H', rt := Q } (start N vs) H) :
    FnKw P w K mg base CX (k + 1) f (fun vs kvs H Q E => vs.length = (args.map (·.arg)).length ∧ kvs.length ≤ sizeLine ∧ (kvs.map (·.1)).Nodup ∧ (∀ p ∈ kvs, (args.map (·.arg)).contains p.1 = false) ∧
      ∀ p, H p = none → sp (vs ++ [V.ref p]) (upd H p (.dK (kvs.map fun q => (Sum.inr q.1, q.2)))) Q E) := by
  obtain ⟨⟨oc, od, dV, kV, doc, pm, an, cdv, ct, osl, rfl, lk, hcd, hD, _⟩, _⟩ := F
  intro A outer s H us vs kws kvs Q E hg hr e0 r rk ⟨hl, few, nd, off, hq⟩
  have dv : dV = .none := by
    rcases hD with ⟨_, e⟩ | ⟨e, _⟩
    · exact e
    · exact absurd rfl e
  subst dv
  have hn : H s.heap.objs.size = Option.none := e0.hok.fresh (Nat.le_refl _)
  have ul : us.length = (args.map (·.arg)).length := by rw [← r.length]; exact hl
  have nm := kv_names rk
  refine StX.run_bnd lk hcd S hr e0 (G := fun xs H2 => ∃ p, H p = none ∧ xs = vs ++ [V.ref p] ∧ H2 = upd H p (.dK (kvs.map fun q => (Sum.inr q.1, q.2)))) (fun A' Ex Q' h => ?_) fun s2 H2 xs ⟨p, hp, ex, eH⟩ hr' => ?_
  · refine bind_kw rfl rfl ul (hz us ul) (hm us ul) (fun p hp => ?_) (by rw [← kv_len rk]; exact few) (by rw [← nm]; exact nd) fun h' tk hd' kp => ?_
    · have : p.1 ∈ kvs.map (·.1) := by rw [nm]; exact List.mem_map.mpr ⟨p, hp, rfl⟩
      obtain ⟨q, hq', e⟩ := List.mem_map.mp this
      rw [← e]
      exact off q hq'
    · obtain ⟨o, es, ep, ho, _⟩ := id hd'
      have sz : s.heap.objs.size ≤ h'.objs.size := Nat.le_of_lt (Heap.lt_size ho)
      have big := StX.env0_big e0
      have new : ObjOk P w (upd H s.heap.objs.size (.dK (kvs.map fun q => (Sum.inr q.1, q.2)))) h' s.heap.objs.size (.dK (kvs.map fun q => (Sum.inr q.1, q.2))) :=
        dk_new (by rw [List.length_map]; exact few) (beq_eq_false_iff_ne.mpr (Ne.symm (Nat.ne_of_lt big))) (kv_tks rk) hd'
      have un : Un (frs outer) [] H (upd H s.heap.objs.size (.dK (kvs.map fun q => (Sum.inr q.1, q.2)))) s.heap h' := Un.laid kp (Nat.le_refl _) hn
      have z := h { s with heap := h', toks := tk } _ (vs ++ [V.ref s.heap.objs.size]) (us ++ [Value.ref s.heap.objs.size]) (env0_new e0 kp sz new) un rfl (fun e s' => hCX outer s H _ _ E e s' un kp rfl) (r.append (.cons rfl .nil))
        (by rw [List.length_append, List.length_append, hl] <;> rfl) ⟨_, hn, rfl, rfl⟩
      rw [List.zip_append ul.symm] at z
      exact z
  · subst ex eH
    exact hbody cdv A outer s2 _ _ Q E hg hr' (hq p hp)
end
end Ver

namespace Ver
open PySem PySem.Spec PyProof.Rows L2
section
variable {M : Model} {A : Around} {E : Value → Shared → Prop} {s : Shared} {K : PySem.W.Frag} {env : Env} {pos : Pos} {f : Value} {Q : Value → Shared → Prop} {x y : Sem Value} {args : List (Bool × Sem Value)}
/-- f(.., **x) -/
theorem callWith_dd (hk : PySem.W.keepIn K f = true) (hst : args.any (·.1) = false)
    (h : wpAny M A (spliced ((false, y) :: args)) (fun us s1 => wpAny M A (mergedKeywords f [(none, do let v ← x; standAt pos; pure v)]) (fun d s2 => wpAny M A (keywordsIn f d) (fun kw s3 => K.In s3.heap ∧ wpAny M A (call f us kw) Q E s3) E s2) E s1) E s) :
    wpAny M A (callWith pos f [] ((false, y) :: args) [(none, do let v ← x; standAt pos; pure v)]) Q E s := by
  unfold callWith evalArgs
  refine wpAny_bind (wpAny_holding ?_)
  dsimp only
  refine wpAny_bind (wpAny_mono h (fun us s1 z => wpAny_bind (wpAny_pure ?_)) fun _ _ z => z)
  refine wpAny_holding ?_
  dsimp only
  rw [if_neg (by simp)]
  refine wpAny_bind (wpAny_mono z (fun d s2 z2 => wpAny_bind (wpAny_pure ?_)) fun _ _ z => z)
  refine wpAny_bind (wpAny_holding (wpAny_mono z2 (fun kw s3 z3 => ?_) fun _ _ z => z))
  refine wpAny_pure (wpAny_bind (wpAny_standAt ?_))
  obtain ⟨k, hk', L⟩ := PySem.W.keeps_K (M := M) hk _ z3.1
  have st : (((false, y) :: args).any (·.1) || ([(none, do let v ← x; standAt pos; pure v)] : List (Option Str × Sem Value)).any (·.1.isNone)) = true := by simp
  dsimp only
  rw [st]
  refine wpAny_bind (L.here ?_)
  have tail : ∀ {t : Sem Value}, wpAny M A t Q E s3 → wpAny M A (t >>= fun r => holding [r] point >>= fun _ => pure r) Q E s3 :=
    fun ht => wpAny_bind (wpAny_mono ht (fun r s4 hr => wpAny_bind (wpAny_holding (wpAny_point (wpAny_pure hr)))) fun _ _ z => z)
  have z4 : wpAny M A (call f ([] ++ us) kw) Q E s3 := z3.2
  rcases hk' with rfl | rfl | rfl <;> dsimp only <;> first
    | exact tail (by unfold callMarked; exact Calls.wpAny_keep z4)
    | exact tail (wpAny_operating z4)
end
/-! ### C(e, .., **x) -/
/-- its reading: the values; a new dict for the keywords; x; then __init__ at the new instance -/
def tMakeD (C : Addr) (sp : KSp) (E : XK) (t : TA) (te : TE) : TE := fun σ H Q => t σ H fun vs H1 => ∀ d, H1 d = none → te σ (upd H1 d (.dK [])) fun y H2 => ∃ (a : Addr) (kvs : List (Str × V)), y = .ref a ∧ H2 d = some (.dK []) ∧
  H2 a = some (.dK (kvs.map fun q => (Sum.inr q.1, q.2))) ∧ d ≠ a ∧
  ∀ x dx, upd H2 d (.dK (kvs.map fun q => ((Sum.inr q.1 : Key), q.2))) x = none → upd H2 d (.dK (kvs.map fun q => ((Sum.inr q.1 : Key), q.2))) dx = none → dx ≠ x →
    sp (V.ref x :: vs) kvs (upd (upd (upd H2 d (.dK (kvs.map fun q => (Sum.inr q.1, q.2)))) dx (.own x)) x (.ins C dx [])) (fun v H3 => v = .non ∧ Q (.ref x) H3) E
theorem kv_untks : ∀ {kvs : List (Str × V)} {ws : List (Key × Value)}, KV (kvs.map fun q => ((Sum.inr q.1 : Key), q.2)) ws → ∃ kws, ws = tks kws ∧ KV kvs kws
  | [], ws, h => by
    cases h
    exact ⟨[], rfl, .nil⟩
  | p :: kvs, ws, h => by
    cases h with
    | cons h1 h2 =>
      rename_i q ws'
      obtain ⟨kws, e, r⟩ := kv_untks h2
      obtain ⟨q1, q2⟩ := q
      have e1 : Sum.inr p.1 = q1 := h1.1
      subst e1
      exact ⟨(p.1, q2) :: kws, by rw [e] <;> rfl, .cons ⟨rfl, h1.2⟩ r⟩
section
variable {X : Cx} {CX : CXT} {k : Nat} {f C : Addr} {sp : KSp} {E : XK} {x : Str} {p pos kpos : Pos} {e y : Expr} {es : List Expr} {t : TA} {te : TE}
theorem made_guards_kw {A : Around} (h : A.guards = some []) (C : Addr) (us : List Value) (kw : List (Str × Value)) : (A.under (.builtin "type.__call__" ⟨.ref C :: us, kw⟩)).guards = some [] := by
  show pushGuards (Code.builtin "type.__call__" ⟨.ref C :: us, kw⟩).guards A.guards = some []
  rw [h]
  first
    | rfl
    | decide +kernel
theorem run_makeKw {pins : List (Addr × Obj)} {σ : L2.St} {H : Hp} {s : Shared} {Q : VK} {us : List Value} {vs : List V} {kws : List (Str × Value)} {kvs : List (Str × V)} (M : Mk X.K C f) (F : FnKw X.prog X.w X.K X.mg X.base CX k f sp) (hr : Room (k + 1) X.A) (hgd : X.A.guards = some []) (hx : Passes CX X E)
    (I : Inv X pins σ H s) (r : Vals vs us) (rk : KV kvs kws)
    (h : ∀ x dx, H x = none → H dx = none → dx ≠ x → sp (V.ref x :: vs) kvs (upd (upd H dx (.own x)) x (.ins C dx [])) (fun v H2 => v = .non ∧ Q (.ref x) H2) E) :
    wpAny (model X.prog X.w) X.A (call (.ref C) us kws) (EP X pins σ Q) X.xe s := by
  have hq := h (s.heap.objs.size + 1) s.heap.objs.size (I.hok.fresh (Nat.le_succ _)) (I.hok.fresh (Nat.le_refl _)) (Nat.ne_of_lt (Nat.lt_succ_self _))
  have I2 := Inv.made (C := C) I
  refine wpAny_call (make_map (f := f) I.kIn M.makes M.init (beq_iff_eq.mp M.fn) (codeAny_mono (F _ X.stack _ _ (Value.ref (s.heap.objs.size + 1) :: us) (V.ref (s.heap.objs.size + 1) :: vs) kws kvs _ E (made_guards_kw hgd C us kws) (hr.make C us kws) (I2.env0.make C us kws) (.cons rfl r) rk hq) fun r s' hq' => ?_))
  match r, hq' with
  | .error e, hq' => exact hx pins σ _ _ e s' I2 hq'
  | .ok (.ret u), hq' =>
    obtain ⟨v, H', I3, rv, ev, q3⟩ := I2.after hq'
    subst ev
    exact ⟨rv, ⟨V.ref (s.heap.objs.size + 1), H', I3, rfl, q3⟩⟩
  | .ok .next, hq' => exact hq'.elim
  | .ok .brk, hq' => exact hq'.elim
  | .ok .cont, hq' => exact hq'.elim
theorem pe_makeD (M : Mk X.K C f) (F : FnKw X.prog X.w X.K X.mg X.base CX k f sp) (hr : Room (k + 1) X.A) (hgd : X.A.guards = some []) (hg : Gl X x) (hm : X.mg x = some (.ref C)) (hx : Passes CX X E) (ha : PA X (e :: es) t) (hy : PE X.nox y te)
    (hkw : backToKw pos (keywordEach [⟨none, y, kpos⟩] X.env) = [(none, do let v ← eval y X.env; standAt pos; pure v)] := by rfl)
    (hdb : (x == ("__debug__" : Str)) = false := by decide) (he : starEach (e :: es) X.env = (false, eval e X.env) :: starEach es X.env := by rfl) (hpl : (backTo pos (starEach es X.env)).any (·.1) = false := by rfl) :
    PE X (.Call (.Name x p) (e :: es) [⟨none, y, kpos⟩] pos) (tMakeD C sp E t te) := by
  refine ⟨fun pins s σ H Q I h => wpAny_Call_Name_kw (ld_glob I hg hm ?_ hdb)⟩
  have run := ha.run pos pins s σ H _ I h
  rw [he] at run
  rw [hkw, he]
  refine callWith_dd M.kp hpl (thn run fun us s1 ⟨vs, H1, I1, r, q⟩ => ?_)
  have n1 : H1 s1.heap.objs.size = none := I1.hok.fresh (Nat.le_refl _)
  have J1 : Inv X pins σ (upd H1 s1.heap.objs.size (.dK [])) { s1 with heap := s1.heap.push { cls := .type "dict", data := .dict #[] } } :=
    I1.laid (a := s1.heap.objs.size) (o := .dK []) (t' := s1.toks) (fun _ _ q => Heap.get?_push_of_some _ q) (Nat.le_refl _) (dk_empty s1.heap I1.big)
  refine kw_merged (wpAny_bind (wpAny_mono (hy.run pins _ σ _ _ (J1.wish _) (q _ n1)) (fun v s2 z => wpAny_bind (wpAny_standAt (wpAny_pure ?_))) fun _ _ z => z))
  obtain ⟨y', H2, I2', ry, a, kvs, rfl, hd2, ha2, ne, q2⟩ := z
  have I2 := I2'.unwish
  obtain rfl : v = Value.ref a := ry
  obtain ⟨z1, m1, ws1, r1, dd1⟩ := dk_of I2.hok hd2
  obtain ⟨z2, m2, ws2, r2, dd2⟩ := dk_of I2.hok ha2
  cases r1
  obtain ⟨kws, rfl, rk⟩ := kv_untks r2
  rw [List.length_map] at z2
  refine ⟨a, kws, rfl, dd1, dd2, ne, m2, by rw [← kv_len rk]; exact z2, fun h' hd' sb => ?_⟩
  obtain ⟨o', es', ep', ho', _⟩ := id hd'
  have I3 : Inv X pins σ (upd H2 s1.heap.objs.size (.dK (kvs.map fun q => (Sum.inr q.1, q.2)))) { s2 with heap := h' } :=
    d_write (t' := s2.toks) I2 (by rw [hd2]; exact True.intro) sb ⟨_, ho'⟩ (dk_new (by rw [List.length_map]; exact z2) m1 (kv_tks rk) hd')
  refine kw_in hd' ⟨I3.kIn, ?_⟩
  exact run_makeKw M F hr hgd hx I3 r rk q2
end
end Ver

namespace Ver
open PySem PySem.Spec PyProof.Rows L2
theorem kv_zip : ∀ (ks : List Str) {zs : List V} {ws : List Value}, Vals zs ws → KV (ks.zip zs) (ks.zip ws)
  | [], _, _, _ => .nil
  | _ :: _, _, _, .nil => .nil
  | k :: ks, _, _, .cons h1 h2 => .cons ⟨rfl, h1⟩ (kv_zip ks h2)
/-- C(e, .., k = v, ..) of an __init__ that takes its keywords into a dict -/
def tMakeW (C : Addr) (ks : List Str) (sp : KSp) (E : XK) (t tk : TA) : TE := fun σ H Q => t σ H fun vs H1 => tk σ H1 fun zs H2 =>
  ∀ x dx, H2 x = none → H2 dx = none → dx ≠ x → sp (V.ref x :: vs) (ks.zip zs) (upd (upd H2 dx (.own x)) x (.ins C dx [])) (fun v H3 => v = .non ∧ Q (.ref x) H3) E
section
variable {X : Cx} {CX : CXT} {k : Nat} {f C : Addr} {sp : KSp} {E : XK} {x : Str} {p pos : Pos} {e : Expr} {es : List Expr} {kws : List Keyword} {ks : List Str} {t tk : TA}
theorem pe_makeW (M : Mk X.K C f) (F : FnKw X.prog X.w X.K X.mg X.base CX k f sp) (hr : Room (k + 1) X.A) (hgd : X.A.guards = some []) (hg : Gl X x) (hm : X.mg x = some (.ref C)) (hx : Passes CX X E) (ha : PA X (e :: es) t) (hkw : PK X kws tk)
    (hall : (backToKw pos (keywordEach kws X.env)).all (·.1.isSome) = true := by rfl) (hks : (backToKw pos (keywordEach kws X.env)).filterMap (·.1) = ks := by rfl)
    (hdb : (x == ("__debug__" : Str)) = false := by decide) (he : starEach (e :: es) X.env = (false, eval e X.env) :: starEach es X.env := by rfl)
    (hpl : ((backTo pos (starEach (e :: es) X.env)).any (·.1) || (backToKw pos (keywordEach kws X.env)).any (·.1.isNone)) = false := by rfl) :
    PE X (.Call (.Name x p) (e :: es) kws pos) (tMakeW C ks sp E t tk) := by
  refine ⟨fun pins s σ H Q I h => wpAny_Call_Name_kw (ld_glob I hg hm ?_ hdb)⟩
  refine PySem.W.callWith_KW (h₀ := X.base) I.ok.mod.kin M.kp hall (thn (ha.run pos pins s σ H _ I h) fun us s1 ⟨vs, H1, I1, r, q⟩ => ?_) hpl he
  refine thn (hkw.run pos pins s1 σ H1 _ I1 q) fun ws s2 ⟨zs, H2, I2, rz, q2⟩ => ⟨I2.kIn, ?_⟩
  rw [hks]
  exact run_makeKw M F hr hgd hx I2 r (kv_zip ks rz) q2
end
end Ver

namespace Ver
open PySem PySem.Spec PyProof.Rows L2 ClX
/-- C.m(e, ..), m a class method -/
def tCMethG (C : Addr) (sp : Sp) (E : XK) (t : TA) : TE := fun σ H Q => t σ H fun vs H2 => sp (.ref C :: vs) H2 Q E
section
variable {X : Cx} {CX : CXT} {k : Nat} {C p g : Addr} {mc : Value} {sp : Sp} {E : XK} {e : Expr} {es : List Expr} {x m : Str} {xp pos apos : Pos} {t : TA} {pl : Sem Bool}
theorem pe_cmethG (hg : Gl X x) (hm : X.mg x = some (.ref C)) (r : CRead X.K C mc) (c : CMet X.K C mc m p g) (F : FnG X.prog X.w X.K X.mg X.base CX k g sp) (hr : Room k X.A) (hgd : X.A.guards = some []) (hx : Passes CX X E) (ha : PA X (e :: es) t)
    (hst : starEach (e :: es) X.env = (false, eval e X.env) :: starEach es X.env := by rfl) (hpl : (backTo pos (starEach es X.env)).any (·.1) = false := by rfl)
    (ht : eval (.Call (.Attribute (.Name x xp) m apos) (e :: es) [] pos) X.env = (do
      let ov ← eval (.Name x xp) X.env
      standAt apos.atName
      let (f, first) ← holding [ov] (getMethod ov m pl)
      callWith pos f first (backTo pos (starEach (e :: es) X.env)) (backToKw pos (keywordEach [] X.env))) := by rfl) (hdb : (x == ("__debug__" : Str)) = false := by decide) :
    PE X (.Call (.Attribute (.Name x xp) m apos) (e :: es) [] pos) (tCMethG C sp E t) := by
  refine ⟨fun pins s σ H Q I h => PySem.W.methodCall_KW (pl := pl) (ld_glob I hg hm ?_ hdb) ht⟩
  refine getmethcm_ok I r c fun s2 I2 => ?_
  refine callwith_cm I2 (base_none I (Nat.le_refl _)) c.fi (thn (ha.run pos _ s2 σ H _ I2 h) fun us s3 ⟨vs, H2, I3, rv, q2⟩ => ⟨⟨pin_at I3, I3.kIn⟩, ?_⟩) hst hpl
  exact thn (wpAny_call (PySem.W.method_call (pin_at I3) (codeAny_mono (F X.A X.stack s3 H2 (.ref C :: us) (.ref C :: vs) Q E hgd hr I3.env0 (.cons rfl rv) q2) fun rs s' hq => by
    match rs, hq with
    | .error e', hq => exact hx _ σ H2 s3 e' s' I3 hq
    | .ok (.ret u), hq => exact I3.after hq
    | .ok .next, hq => exact hq.elim
    | .ok .brk, hq => exact hq.elim
    | .ok .cont, hq => exact hq.elim))) fun _ _ y => unpinE y
end
end Ver

namespace K10
open PySem PySem.Spec PyProof.Rows L2 Ver Num
/-- the names of the text's own defs and classes; the built-in names that it reads -/
def gl : List Str := (["is_integer", "is_between", "is_letters", "is_word", "divisor_of", "few_costs", "_law_pen", "_law_draw", "_law_pick", "_law_shuffled", "_law_letters", "_law_costs", "_law_first_words", "_law_cost_of", "_law_lettered", "_law_made_order", "_law_far_right", "law", "Order"] : List Str)
def fr : List Str := ["isinstance", "int", "bool", "str", "dict", "set", "sorted", "all", "any", "sum", "len", "abs", "list", "range", "min", "max", "zip", "repr"]
def fa : List He.Fa := gl.map He.Fa.glo ++ fr.map He.Fa.free
/-- the order's methods that the text asks -/
def oms : List Str := ["after", "before", "place_of", "count_words", "words", "spread", "_check", "_cost_of", "_next_count", "_counts", "_ways", "_has_words", "_neighbour", "_outermost"]
def ofs : List Str := ["_letters", "_costs", "_divisor", "_few"]
abbrev OC (K : PySem.W.Frag) : Addr := He.ga K "Order"
/-- the class of orders -/
structure OrdC (K : PySem.W.Frag) : Prop where
  cl : Cls K (OC K)
  na : ∀ f ∈ ofs, NoAttr K (OC K) f
  me : ∀ m ∈ oms, Meth K (OC K) m (He.ma K (OC K) m)
  bm : BMeth K (OC K) "_check" (He.ma K (OC K) "_check")
  mkr : Mk K (OC K) (He.ma K (OC K) "__init__")
  rd : ClX.CRead K (OC K) (.type "type")
  oc : ∃ p g fd, ClX.CMet K (OC K) (.type "type") "of_costs" p g ∧ FunD K "of_costs" "Order.of_costs" (defArgs s_Order_of_costs) (defBody s_Order_of_costs) (defScope s_Order_of_costs) [] [] g fd
/-- what the top has left -/
structure Tx (K : PySem.W.Frag) (mg : Str → Option Value) : Prop where
  d : He.SaysD fa fn K
  g : ∀ x ∈ gl, mg x = some (.ref (He.ga K x))
  z : ∀ x ∈ fr, mg x = none
  ml : ∃ t, mg "MOST_LETTERS" = some (.int 4 t)
  gc : ∃ t, mg "GREATEST_COST" = some (.int 9 t)
  lw : ∃ t, mg "LONGEST_WORD" = some (.int 160 t)
  gn : ∃ t, mg "GREATEST_COUNT" = some (.int 1000 t)
  st : ∃ t, mg "SETTLED" = some (.int 56 t)
  gcd : mg "gcd" = some (.builtin "math.gcd")
  sm : Sm K
  o : OrdC K
  lt : ∃ p g fd, PropOf K (OC K) "latest" p g ∧ FunD K "latest" "Order.latest" (defArgs s_Order_latest) (defBody s_Order_latest) (defScope s_Order_latest) [] [] g fd
theorem ifT {c : Bool} {A B : Prop} (h : c = true) (q : A) : if c = true then A else B := by
  rw [if_pos h]
  exact q
theorem ifF {c : Bool} {A B : Prop} (h : c = false) (q : B) : if c = true then A else B := by
  rw [if_neg (by rw [h]; exact Bool.false_ne_true)]
  exact q
theorem iEq (a b : Int) : decide (V.int a = V.int b) = decide (a = b) := by
  by_cases h : a = b
  · rw [decide_eq_true h, decide_eq_true (by rw [h])]
  · rw [decide_eq_false h, decide_eq_false fun z => h (V.int.inj z)]
theorem sEq (a b : Str) : decide (V.str a = V.str b) = decide (a = b) := by
  by_cases h : a = b
  · rw [decide_eq_true h, decide_eq_true (by rw [h])]
  · rw [decide_eq_false h, decide_eq_false fun z => h (V.str.inj z)]
theorem same_up {H : Hp} {p : Addr} {o : HO} (h : H p = none) : Same H (upd H p o) := fun b x e => by
  rw [upd_ne (ne_of_none e h)]
  exact e
end K10

namespace K10
open PySem PySem.Spec PyProof.Rows L2 Ver Num
/-! ### the head: what it tells -/
abbrev R : PySem.W.OpenRow := PySem.W.OpenLaw.row PySem.Challenge.rw_firstanswers_k10_whole_words_in_order
def ads (g : Addr → Option Obj) : List Addr := (PySem.cStatics :: sysModules :: He.asD g 5).eraseDups
def KF (g : Addr → Option Obj) : PySem.W.Frag := He.frG g (ads g)
/-- the module table -/
def smTB (K : PySem.W.Frag) : Bool := match K.lookup sysModules with
  | some o => match o.cls with
    | .type s => decide (s = "dict")
    | _ => false
  | none => false
theorem smTB_ok {K : PySem.W.Frag} (h : smTB K = true) : Sm K := by
  unfold smTB at h
  split at h
  · rename_i o e
    split at h
    · rename_i s e2
      exact ⟨o, e, by rw [e2, of_decide_eq_true h]⟩
    · cases h
  · cases h
/-- what stands at g, a def -/
def fnA (K : PySem.W.Frag) (g : Addr) : He.FnW := match K.lookup g with
  | some ⟨_, _, .func u, _⟩ => some (u.name, u.qualname, u.params, u.body, u.scope, u.globals, u.closure, u.builtins)
  | _ => none
def okA (K : PySem.W.Frag) (g : Addr) (q : Str) : Bool := PySem.W.keepIn K (.ref g) && match K.lookup g with
  | some ⟨_, _, .func u, _⟩ => (PySem.W.codeIn K u.code q && He.dflB K u.defaults []) && He.kwdB K u.kwdefaults []
  | _ => false
theorem fun_at {K : PySem.W.Frag} {g : Addr} {x q : Str} {st : Stmt} (e : fnA K g = (⟨("Field", some x), x, q, defArgs st, defBody st, defScope st, [], []⟩ : He.DefD).val) (c : okA K g q = true) : ∃ fd, FunD K x q (defArgs st) (defBody st) (defScope st) [] [] g fd := by
  obtain ⟨kp, c2⟩ := He.ba c
  unfold fnA at e
  split at c2
  · rename_i oc od u osl hl
    rw [hl] at e
    obtain ⟨u1, u2, u3, u4, u5, u6, u7, u8, u9, u10, u11, u12, u13, u14, u15⟩ := u
    obtain ⟨c3, k4⟩ := He.ba c2
    obtain ⟨k1, k3⟩ := He.ba c3
    have e2 := Option.some.inj e
    simp only [Prod.mk.injEq] at e2
    obtain ⟨rfl, rfl, rfl, rfl, rfl, rfl, rfl, rfl⟩ := e2
    exact ⟨_, ⟨oc, od, u8, u9, u10, u11, u12, u13, u14, osl, rfl, hl, k1, He.dflB_ok k3, He.kwdB_ok k4⟩, kp⟩
  · cases c2
/-- a property -/
def pA (K : PySem.W.Frag) : Addr := He.ma K (OC K) "latest"
def gA (K : PySem.W.Frag) (p : Addr) (k : String) : Addr := match PySem.W.recIn K p k with
  | some (.ref g :: _) => g
  | _ => 0
def gOk (K : PySem.W.Frag) (p : Addr) (k : String) : Bool := match PySem.W.recIn K p k with
  | some (.ref _ :: _) => true
  | _ => false
theorem gOk_ex {K : PySem.W.Frag} {p : Addr} {k : String} (h : gOk K p k = true) : ∃ rest, PySem.W.recIn K p k = some (.ref (gA K p k) :: rest) := by
  unfold gOk at h
  split at h
  · rename_i g rest e
    refine ⟨rest, ?_⟩
    have eg : gA K p k = g := by
      unfold gA
      rw [e]
    rw [eg]
    exact e
  · cases h
def xp (K : PySem.W.Frag) : List Bool := [He.eqO (PySem.W.findIn K (.ref (OC K)) "latest") (some (some (.ref (pA K)))),
  He.eqO (PySem.W.specialIn K (.ref (pA K)) "__get__") (some (some (.builtin "property.__get__"))), decide (PySem.W.takesIn K (.ref (pA K)) = some true), gOk K (pA K) "property", okA K (gA K (pA K) "property") "Order.latest"]
/-- the class of orders -/
def ofA (K : PySem.W.Frag) : Addr := He5.wf K (OC K) "classmethod" "of_costs"
def xo (K : PySem.W.Frag) : List Bool := [(He.Fa.cls "Order").ok K, ofs.all fun f => (He.Fa.noat "Order" f).ok K,
  oms.all fun m => He.eqO (PySem.W.findIn K (.ref (OC K)) m) (some (some (.ref (He.ma K (OC K) m)))) && (PySem.W.isFn K (.ref (He.ma K (OC K) m)) && PySem.W.keepIn K (.ref (He.ma K (OC K) m))),
  (He.Fa.mkr "Order").ok K, PySem.W.readsIn K (OC K) (.type "type"), He.eqO (PySem.W.specialIn K (.ref (OC K)) "__getattribute__") (some (some (.builtin "type.__getattribute__"))),
  He5.wrapB K (OC K) "classmethod" "classmethod.__get__" "of_costs", PySem.W.fnIn K (ofA K), okA K (ofA K) "Order.of_costs",
  He.eqO (PySem.W.specialIn K (.ref (He.ma K (OC K) "_check")) "__get__") (some (some (.builtin "function.__get__"))), decide (PySem.W.takesIn K (.ref (He.ma K (OC K) "_check")) = some false), PySem.W.fnIn K (He.ma K (OC K) "_check")]
def x1 (K : PySem.W.Frag) : List Bool := [(He.Fa.int "MOST_LETTERS" 4).ok K, (He.Fa.int "GREATEST_COST" 9).ok K, (He.Fa.int "LONGEST_WORD" 160).ok K, (He.Fa.int "SETTLED" 56).ok K,
  He.eqO (PySem.W.nsIn K mainGlobals "gcd") (some (some (.builtin "math.gcd"))), smTB K, (He.Fa.int "GREATEST_COUNT" 1000).ok K]
def ex (K : PySem.W.Frag) : Bool := (x1 K).all id && ((xo K).all id && (xp K).all id)
abbrev W2 : Type := He.FnW × He.FnW
def f1 (K : PySem.W.Frag) : W2 := (fnA K (ofA K), fnA K (gA K (pA K) "property"))
def v1 : W2 := ((⟨("Order", some "of_costs"), "of_costs", "Order.of_costs", defArgs s_Order_of_costs, defBody s_Order_of_costs, defScope s_Order_of_costs, [], []⟩ : He.DefD).val,
  (⟨("Order", some "latest"), "latest", "Order.latest", defArgs s_Order_latest, defBody s_Order_latest, defScope s_Order_latest, [], []⟩ : He.DefD).val)
def hook : PySem.W.Hook where
  α := He.AlD × Bool × W2
  obs := fun s => (He.obsD fa fn (KF s.heap.get?), ex (KF s.heap.get?), f1 (KF s.heap.get?))
  val := fun _ => (He.valD fn, true, v1)
  says := fun _ h => ∃ K : PySem.W.Frag, K.In h ∧ He.SaysD fa fn K ∧ ex K = true ∧ f1 K = v1
  of := fun _ _ e => ⟨_, He.frG_in, congrArg (fun z : He.AlD × Bool × W2 => z.1) e, congrArg (fun z : He.AlD × Bool × W2 => z.2.1) e, congrArg (fun z : He.AlD × Bool × W2 => z.2.2) e⟩
  keeps := fun _ _ _ ⟨K, hK, c⟩ k => ⟨K, PySem.W.Frag.In.keeps hK k, c⟩
def ob (s : PySem.W.SharedT) : He.AlD × Bool × W2 := (He.obsD fa fn (KF (HandSHeadRun.getT s)), ex (KF (HandSHeadRun.getT s)), f1 (KF (HandSHeadRun.getT s)))
theorem ob_eq (s : PySem.W.SharedT) : ob s = hook.obs s.abs := by
  have e : HandSHeadRun.getT s = s.abs.heap.get? := funext (HandSHeadRun.getT_eq s)
  unfold ob
  rw [e]
  rfl
def lo : List Str := (["_wall", "LONGEST_WORD", "MOST_LETTERS", "is_integer", "is_between", "is_letters", "is_word", "InvalidLetters", "InvalidCost", "InvalidWord", "InvalidCount", "GREATEST_COST", "GREATEST_COUNT", "SETTLED", "Order", "divisor_of"] : List Str) ++
  (["few_costs", "_law_pen", "_law_draw", "_law_pick", "_law_shuffled", "_law_letters", "_law_costs", "_law_first_words", "_law_cost_of", "_law_lettered", "_law_made_order", "_law_far_right"] : List Str)
abbrev qv : Program := PySem.W.view R.prog [0, 33]
end K10

namespace K10
open PySem PySem.Spec PyProof.Rows L2 Ver Num
/-! ### the run, part by part -/
theorem run1 (w : World) : (HandSHeadRun.wholeF (fun p => HandSHeadRun.stepQ (HandSHeadRun.denQ HandSHeadRun.tabQ) p w) HandSHeadRun.fenceQ 8000 R.prog).map (fun x => HandSHeadRun.looksF R.prog x.1.heap x.2.abs) = some true := by
  kernel_rfl
theorem run2 (w : World) : (HandSHeadRun.wholeF (fun p => HandSHeadRun.stepQ (HandSHeadRun.denQ HandSHeadRun.tabQ) p w) HandSHeadRun.fenceQ 8000 R.prog).map (fun x => HandSHeadRun.seenQ qv lo (importedModules R.prog.main.body) (fun s => PySem.W.xlAt qv [] s && PySem.W.recOk R.toRowW.records s) x.2.abs) = some (PySem.W.openGood qv lo) := by
  kernel_rfl
theorem run3 (w : World) : (HandSHeadRun.wholeF (fun p => HandSHeadRun.stepQ (HandSHeadRun.denQ HandSHeadRun.tabQ) p w) HandSHeadRun.fenceQ 8000 R.prog).map (fun x => ((fa.all fun f => f.ok (KF (HandSHeadRun.getT x.2))) && fn.all fun d => d.ok (KF (HandSHeadRun.getT x.2)))) = some true := by
  kernel_rfl
theorem run4 (w : World) : (HandSHeadRun.wholeF (fun p => HandSHeadRun.stepQ (HandSHeadRun.denQ HandSHeadRun.tabQ) p w) HandSHeadRun.fenceQ 8000 R.prog).map (fun x => fn.map fun d => He.fnW (KF (HandSHeadRun.getT x.2)) d.at_) = some (fn.map He.DefD.val) := by
  kernel_rfl
theorem run5 (w : World) : (HandSHeadRun.wholeF (fun p => HandSHeadRun.stepQ (HandSHeadRun.denQ HandSHeadRun.tabQ) p w) HandSHeadRun.fenceQ 8000 R.prog).map (fun x => ex (KF (HandSHeadRun.getT x.2))) = some true := by
  kernel_rfl
theorem run6 (w : World) : (HandSHeadRun.wholeF (fun p => HandSHeadRun.stepQ (HandSHeadRun.denQ HandSHeadRun.tabQ) p w) HandSHeadRun.fenceQ 8000 R.prog).map (fun x => f1 (KF (HandSHeadRun.getT x.2))) = some v1 := by
  kernel_rfl
theorem map6 {α β γ δ ε ζ η : Type} {o : Option α} {f : α → β} {g : α → γ} {h : α → δ} {i : α → ε} {j : α → ζ} {k : α → η} {a : β} {b : γ} {c : δ} {d : ε} {e : ζ} {e' : η} (h1 : o.map f = some a) (h2 : o.map g = some b) (h3 : o.map h = some c) (h4 : o.map i = some d) (h5 : o.map j = some e) (h6 : o.map k = some e') :
    o.map (fun x => (f x, g x, ((h x, i x), j x, k x))) = some (a, b, ((c, d), e, e')) := by
  cases o with
  | none => cases h1
  | some x =>
    have e1 : f x = a := Option.some.inj h1
    have e2 : g x = b := Option.some.inj h2
    have e3 : h x = c := Option.some.inj h3
    have e4 : i x = d := Option.some.inj h4
    have e5 : j x = e := Option.some.inj h5
    have e6 : k x = e' := Option.some.inj h6
    show some (f x, g x, ((h x, i x), j x, k x)) = some (a, b, ((c, d), e, e'))
    rw [e1, e2, e3, e4, e5, e6]
theorem run (w : World) : HandSHeadRun.RunEqI R qv hook ob 8000 lo w := map6 (run1 w) (run2 w) (run3 w) (run4 w) (run5 w) (run6 w)
end K10

namespace K10
open PySem PySem.Spec PyProof.Rows L2 Ver Num
/-! ### the pen: a dict of the script's cells, a place, a rest -/
def penL (c : Addr) (b l : Int) : List (Key × V) := [(.inr "cells", .ref c), (.inr "begun", .int b), (.inr "left", .int l)]
structure PenAt (H : Hp) (d : Addr) (k : Int) : Prop where
  ex : ∃ (c : Addr) (cells : List Int) (b l : Int), H d = some (.dK (penL c b l)) ∧ H c = some (.lst (cells.map V.int)) ∧ cells.length ≤ 63 ∧ 0 ≤ b ∧ b ≤ k ∧ 0 ≤ l
/-- all but what stands at d is kept; the pen's list of cells is the same object -/
def But (d : Addr) (H H' : Hp) : Prop := (∀ b o, H b = some o → b ≠ d → H' b = some o) ∧ ∀ c b l, H d = some (.dK (penL c b l)) → ∃ b' l', H' d = some (.dK (penL c b' l'))
theorem But.refl {d : Addr} {H : Hp} : But d H H := ⟨fun _ _ e _ => e, fun c b l e => ⟨b, l, e⟩⟩
theorem But.trans {d : Addr} {H H1 H2 : Hp} (a : But d H H1) (b : But d H1 H2) : But d H H2 := ⟨fun c o e n => b.1 c o (a.1 c o e n) n, fun c x l e => by
  obtain ⟨b1, l1, e1⟩ := a.2 c x l e
  exact b.2 c b1 l1 e1⟩
theorem But.same {d : Addr} {H H1 : Hp} (s : Same H H1) : But d H H1 := ⟨fun c o e _ => s c o e, fun c b l e => ⟨b, l, s _ _ e⟩⟩
theorem pen_inj {c c2 : Addr} {b b2 l l2 : Int} (h : penL c b l = penL c2 b2 l2) : c = c2 := by
  have h1 := (List.cons.inj h).1
  exact V.ref.inj (congrArg Prod.snd h1)
theorem but_up {d c : Addr} {H : Hp} {b l b' l' : Int} (h : H d = some (.dK (penL c b l))) : But d H (upd H d (.dK (penL c b' l'))) := ⟨fun b u e n => by rw [upd_ne n]; exact e, fun c2 b2 l2 e => by
  rw [h] at e
  have e2 : penL c b l = penL c2 b2 l2 := HO.dK.inj (Option.some.inj e)
  have ec := pen_inj e2
  subst ec
  exact ⟨b', l', upd_same⟩⟩
/-- the pen with its list of cells told -/
structure PenC (H : Hp) (d c : Addr) (k : Int) : Prop where
  ex : ∃ (cells : List Int) (b l : Int), H d = some (.dK (penL c b l)) ∧ H c = some (.lst (cells.map V.int)) ∧ cells.length ≤ 63 ∧ 0 ≤ b ∧ b ≤ k ∧ 0 ≤ l
theorem PenAt.c {H : Hp} {d : Addr} {k : Int} (p : PenAt H d k) : ∃ c, PenC H d c k := by
  obtain ⟨c, cells, b, l, h⟩ := p.ex
  exact ⟨c, cells, b, l, h⟩
theorem PenC.at_ {H : Hp} {d c : Addr} {k : Int} (p : PenC H d c k) : PenAt H d k := by
  obtain ⟨cells, b, l, h⟩ := p.ex
  exact ⟨c, cells, b, l, h⟩
theorem PenC.on {H H' : Hp} {d c : Addr} {k k' : Int} (p : PenC H d c k) (bt : But d H H') (q : PenAt H' d k') : PenC H' d c k' := by
  obtain ⟨cells, b, l, h1, _⟩ := p.ex
  obtain ⟨b1, l1, e1⟩ := bt.2 c b l h1
  obtain ⟨c2, cells2, b2, l2, g1, g⟩ := q.ex
  have e2 : penL c b1 l1 = penL c2 b2 l2 := HO.dK.inj (Option.some.inj (e1.symm.trans g1))
  have ec := pen_inj e2
  subst ec
  exact ⟨cells2, b2, l2, g1, g⟩
theorem PenC.up {H : Hp} {d c D : Addr} {k : Int} {o : HO} (p : PenC H d c k) (n1 : d ≠ D) (n2 : c ≠ D) : PenC (upd H D o) d c k := by
  obtain ⟨cells, b, l, h1, h2, h⟩ := p.ex
  exact ⟨cells, b, l, by rw [upd_ne n1]; exact h1, by rw [upd_ne n2]; exact h2, h⟩
theorem PenAt.same {H H' : Hp} {d : Addr} {k : Int} (p : PenAt H d k) (s : Same H H') : PenAt H' d k := by
  obtain ⟨c, cells, b, l, h1, h2, r⟩ := p.ex
  exact ⟨c, cells, b, l, s _ _ h1, s _ _ h2, r⟩
theorem PenAt.mono {H : Hp} {d : Addr} {j k : Int} (p : PenAt H d j) (h : j ≤ k) : PenAt H d k := by
  obtain ⟨c, cells, b, l, h1, h2, h3, h4, h5, h6⟩ := p.ex
  exact ⟨c, cells, b, l, h1, h2, h3, h4, by omega, h6⟩
theorem ks1 : ¬ (("cells" : Str) = "begun") := by decide +kernel
theorem ks2 : ¬ (("cells" : Str) = "left") := by decide +kernel
theorem ks3 : ¬ (("begun" : Str) = "left") := by decide +kernel
theorem nk {a b : Str} (h : ¬ a = b) : ¬ ((Sum.inr a : Key) = (Sum.inr b : Key)) := fun z => h (Sum.inr.inj z)
theorem pen_cells (c : Addr) (b l : Int) : valV (penL c b l) (.inr "cells") = some (.ref c) := valV_pos rfl
theorem pen_begun (c : Addr) (b l : Int) : valV (penL c b l) (.inr "begun") = some (.int b) := (valV_neg (nk ks1)).trans (valV_pos rfl)
theorem pen_left (c : Addr) (b l : Int) : valV (penL c b l) (.inr "left") = some (.int l) := (valV_neg (nk ks2)).trans ((valV_neg (nk ks3)).trans (valV_pos rfl))
theorem put_begun (c : Addr) (b l b' : Int) : putK (penL c b l) (.inr "begun") (.int b') = penL c b' l := by
  have n1 := nk ks1
  have n2 := nk (Ne.symm ks3)
  simp [putK, penL, n1, n2]
theorem put_left (c : Addr) (b l l' : Int) : putK (penL c b l) (.inr "left") (.int l') = penL c b l' := by
  have n1 := nk ks2
  have n2 := nk ks3
  simp [putK, penL, n1, n2]
theorem get_cells {H : Hp} {d c : Addr} {b l : Int} (h : H d = some (.dK (penL c b l))) : DGet H d (.str "cells") (some (.ref c)) := by
  have z := DGet.k (k := Sum.inr "cells") h
  rwa [pen_cells] at z
theorem get_begun {H : Hp} {d c : Addr} {b l : Int} (h : H d = some (.dK (penL c b l))) : DGet H d (.str "begun") (some (.int b)) := by
  have z := DGet.k (k := Sum.inr "begun") h
  rwa [pen_begun] at z
theorem get_left {H : Hp} {d c : Addr} {b l : Int} (h : H d = some (.dK (penL c b l))) : DGet H d (.str "left") (some (.int l)) := by
  have z := DGet.k (k := Sum.inr "left") h
  rwa [pen_left] at z
theorem dput_begun {H : Hp} {d c : Addr} {b l b' : Int} (h : H d = some (.dK (penL c b l))) : DPut H d (.str "begun") (.int b') (upd H d (.dK (penL c b' l))) := by
  have z := DPut.k (k := Sum.inr "begun") (v := .int b') h (by show 3 < sizeLine; decide)
  rwa [put_begun] at z
theorem dput_left {H : Hp} {d c : Addr} {b l l' : Int} (h : H d = some (.dK (penL c b l))) : DPut H d (.str "left") (.int l') (upd H d (.dK (penL c b l'))) := by
  have z := DPut.k (k := Sum.inr "left") (v := .int l') h (by show 3 < sizeLine; decide)
  rwa [put_left] at z
theorem merge_pen (c : Addr) (b l : Int) : mergeK [] (penL c b l) = penL c b l := by
  have n1 := nk ks1
  have n2 := nk ks2
  have n3 := nk ks3
  simp [mergeK, putK, penL, n1, n2, n3]
/-! ### lists of ints as data -/
theorem dp_ints {K : PySem.W.Frag} {H : Hp} : ∀ ns : List Int, DpAll K H (ns.map V.int) (ns.map PyData.int)
  | [] => .nil
  | n :: ns => .cons (.int n) (dp_ints ns)
theorem ints_depth : ∀ ns : List Int, PyData.depthAll (ns.map PyData.int) ≤ 1
  | [] => by simp [PyData.depthAll]
  | n :: ns => by
    have := ints_depth ns
    simp only [List.map_cons, PyData.depthAll, PyData.depth]
    omega
theorem ints_can : ∀ ns : List Int, PyData.canLayAll0 (ns.map PyData.int) = true
  | [] => by simp [PyData.canLayAll0]
  | n :: ns => by simp only [List.map_cons, PyData.canLayAll0, PyData.canLay0, ints_can ns, Bool.and_true]
theorem ints_shaped (ns : List Int) : SeqAt.shaped (.list (ns.map PyData.int)) = true := by
  unfold SeqAt.shaped
  have h1 := ints_depth ns
  have h2 := ints_can ns
  have e1 : (PyData.list (ns.map PyData.int)).canLay0 = true := by simp only [PyData.canLay0, h2]
  have e2 : (PyData.list (ns.map PyData.int)).depth ≤ 64 := by
    simp only [PyData.depth]
    omega
  rw [e1, decide_eq_true e2]
  rfl
theorem ints_empty : ∀ ns : List Int, PyData.eqv (.list (ns.map PyData.int)) (.list []) = decide (ns = [])
  | [] => by simp [PyData.eqv, PyData.eqvAll]
  | n :: ns => by simp [PyData.eqv, PyData.eqvAll]
end K10

namespace K10
open PySem PySem.Spec PyProof.Rows L2 Ver Num
section
variable {P : Program} {w : World} {K : PySem.W.Frag} {mg : Str → Option Value} {base : Heap}
/-! ### _law_pen -/
theorem cut_ints (ns : List Int) (lo hi : Option Int) : cutV (ns.map V.int) lo hi = ((ns.drop (HT.sIx ns.length 0 lo)).take (HT.sIx ns.length ns.length hi - HT.sIx ns.length 0 lo)).map V.int := by
  unfold cutV
  rw [List.length_map, List.map_take, List.map_drop]
def spPen (K : PySem.W.Frag) : Sp := fun vs H Q _ => ∃ (a : Addr) (ns : List Int), vs = [.ref a] ∧ SqL K H a (ns.map V.int) ∧ ns.length ≤ 63 ∧ ∀ (d : Addr) (H' : Hp), Same H H' → H d = none → PenAt H' d 0 → Q (.ref d) H'
theorem ok_pen (T : Tx K mg) : FnG P w K mg base CX0 1 (He.ga K "_law_pen") (spPen K) := by
  refine mk__law_pen T.d (fun vs H Q E h => ?_) (fun cdv A outer s H vs Q E hg hr h => ?_)
  · obtain ⟨a, ns, rfl, _⟩ := h
    rfl
  · obtain ⟨a, ns, rfl, hs, hl, q⟩ := h
    refine ⟨_, pss_one (ps_ret (pe_disp (pps_cons pe_str (pe_callTy call_list_of (by rfl) (T.z "list" (by decide +kernel)) (by decide +kernel) (pa_cons (pe_slice sl_list (pv 0) po_none (po_some pe_int)) pa_nil))
      (pps_cons pe_str pe_int (pps_cons pe_str pe_int pps_nil))) (by rfl) (by rfl) (fun z => by cases z) (by decide))), ?_⟩
    intro d nd
    have s0 := same_up (o := .dK []) nd
    refine ⟨_, rfl, 63, rfl, a, _, rfl, s0.seq hs, fun m nm => ?_⟩
    have s1 := same_up (o := .lst (cutV (ns.map V.int) none (some 63))) nm
    refine ⟨m, _, rfl, .inl (.inl (.inl upd_same)), fun c nc => ?_⟩
    have s2 := same_up (o := .lst (cutV (ns.map V.int) none (some 63))) nc
    have sa := (s0.trans s1).trans s2
    have dd : H d = none := nd
    have dm : d ≠ m := ne_of_none upd_same nm
    have dc : d ≠ c := fun z => by
      rw [← z, upd_ne dm, upd_same] at nc
      cases nc
    refine ⟨?_, penL c 0 0, rfl, by show 3 ≤ 15; decide, ?_⟩
    · rw [upd_ne dc, upd_ne dm, upd_same]
    · rw [merge_pen]
      refine q d _ (fun b o e => ?_) nd ⟨c, (ns.drop (HT.sIx ns.length 0 none)).take (HT.sIx ns.length ns.length (some 63) - HT.sIx ns.length 0 none), 0, 0, upd_same, ?_, ?_, by omega, by omega, by omega⟩
      · rw [upd_ne (ne_of_none e nd)]
        exact sa _ _ e
      · rw [upd_ne (Ne.symm dc), upd_same, cut_ints]
      · rw [List.length_take, List.length_drop]
        omega
/-! ### _law_draw -/
theorem em1 {X m : Int} (h : 0 < m) (h2 : m ≤ 2 ^ 64) : -(2 ^ 64) < X % m ∧ X % m < 2 ^ 64 := by
  have a := Int.emod_nonneg X (show m ≠ 0 by omega)
  have b := Int.emod_lt_of_pos X h
  omega
def spDraw : Sp := fun vs H Q _ => ∃ (d : Addr) (k n : Int), vs = [.ref d, .int n] ∧ PenAt H d k ∧ k < 1000000000000 ∧ 0 < n ∧ n < 1073741824 ∧
  ∀ (i : Int) (H' : Hp), But d H H' → PenAt H' d (k + 1) → 0 ≤ i → i < n → Q (.int i) H'
theorem ok_draw (T : Tx K mg) : FnG P w K mg base CX0 1 (He.ga K "_law_draw") spDraw := by
  refine mk__law_draw T.d (fun vs H Q E h => ?_) (fun cdv A outer s H vs Q E hg hr h => ?_)
  · obtain ⟨d, k, n, rfl, _⟩ := h
    rfl
  · obtain ⟨d, k, n, rfl, pen, k9, n0, n9, q⟩ := h
    have hu := hu_of hr
    have nd := sc__law_draw.nd
    have zi := T.z "int" (by decide +kernel)
    have zl := T.z "len" (by decide +kernel)
    have za := T.z "abs" (by decide +kernel)
    have bi : bootBuiltins "int" = some (.type "int") := by decide +kernel
    have bl : bootBuiltins "len" = some (.builtin "len") := by decide +kernel
    have ba : bootBuiltins "abs" = some (.builtin "abs") := by decide +kernel
    obtain ⟨c, cells, b, l, hd, hc, cl, b0, bk, l0⟩ := pen.ex
    have dc : d ≠ c := ne_of hd hc (by intro z; cases z)
    refine ⟨_, pss_cons (ps_if (pt_cmpR op_gt (pe_dget hu (pv 0) pe_str (fun _ _ => rfl)) pe_int (nomark _))
        (pss_cons (ps_set (i := 2) nd rfl (Or.inl rfl) (pe_op op_mod (pe_callTy call_int1 (by rfl) zi bi (pa_cons (pe_dget hu (pv 0) pe_str (fun _ _ => rfl)) pa_nil)) (pv 1)))
        (pss_cons (ps_dput hu (pv 0) pe_str (pe_op op_fdiv (pe_dget hu (pv 0) pe_str (fun _ _ => rfl)) (pv 1)) rfl)
        (pss_one (ps_ret (pv 2))))) pss_nil)
      (pss_cons (ps_set (i := 3) nd rfl (Or.inl rfl) (pe_dget hu (pv 0) pe_str (fun _ _ => rfl)))
      (pss_cons (ps_dput hu (pv 0) pe_str (pe_op op_add (pv 3) pe_int) rfl)
      (pss_cons (ps_set (i := 4) nd rfl (Or.inl rfl) (pe_op op_add (pe_op op_mul pe_int (pv 3)) pe_int))
      (pss_cons (ps_if (pt_cmpR (op_neD hr.units) (pe_dget hu (pv 0) pe_str (fun _ _ => rfl)) (pe_lst pa_nil) (nomark _))
        (pss_one (ps_set (i := 4) nd rfl (Or.inl rfl) (pe_ix ix_list (pe_dget hu (pv 0) pe_str (fun _ _ => rfl))
          (pe_op op_mod (pe_callTy call_int1 (by rfl) zi bi (pa_cons (pv 3) pa_nil)) (pe_callB call_len_seq (by rfl) zl bl (pa_cons (pe_dget hu (pv 0) pe_str (fun _ _ => rfl)) pa_nil))) (fun _ _ => rfl)))) pss_nil)
      (pss_cons (ps_if (PW.pt (pw_and (pt_cmpR op_lt (pv 3) (pe_callB call_len_seq (by rfl) zl bl (pa_cons (pe_dget hu (pv 0) pe_str (fun _ _ => rfl)) pa_nil)) (nomark _))
          (pw_and1 (pt_cmpR op_ge (pe_callB call_abs (by rfl) za ba (pa_cons (pv 4) pa_nil)) (pe_op op_pow pe_int pe_int) (nomark _)))))
        (pss_cons (ps_dput hu (pv 0) pe_str (pe_op op_fdiv (pe_op op_sub (pe_callB call_abs (by rfl) za ba (pa_cons (pv 4) pa_nil)) (pe_op op_pow pe_int pe_int)) (pv 1)) rfl)
        (pss_one (ps_ret (pe_op op_mod (pe_callTy call_int1 (by rfl) zi bi (pa_cons (pe_op op_sub (pe_callB call_abs (by rfl) za ba (pa_cons (pv 4) pa_nil)) (pe_op op_pow pe_int pe_int)) pa_nil)) (pv 1))))) pss_nil)
      (pss_cons (ps_set (i := 5) nd rfl (Or.inl rfl) (pe_op op_mul (pe_op op_mod (pe_callTy call_int1 (by rfl) zi bi (pa_cons (pv 4) pa_nil)) pe_int) pe_int))
      (pss_cons (ps_set (i := 6) nd rfl (Or.inl rfl) (pe_op op_mod (pe_callTy call_int1 (by rfl) zi bi (pa_cons (pe_op op_add (pe_op op_add (pv 5) (pe_op op_mul (pv 3) (pe_op op_add (pe_op op_mul pe_int (pv 3)) pe_int))) pe_int) pa_nil)) pe_int))
      (pss_cons (ps_set (i := 6) nd rfl (Or.inl rfl) (pe_op op_mod (pe_callTy call_int1 (by rfl) zi bi (pa_cons (pe_op op_add (pe_op op_add (pe_op op_add (pe_op op_mul (pv 6) (pv 6)) (pe_op op_mul pe_int (pv 6))) (pe_op op_mul pe_int (pv 3))) pe_int) pa_nil)) pe_int))
      (pss_one (ps_ret (pe_op op_mod (pe_callTy call_int1 (by rfl) zi bi (pa_cons (pe_op op_fdiv (pe_op op_mod (pe_callTy call_int1 (by rfl) zi bi (pa_cons (pe_op op_mul (pv 6) (pe_op op_add (pv 6) pe_int)) pa_nil)) pe_int) pe_int) pa_nil)) (pv 1)))))))))))), ?_⟩
    refine ⟨_, rfl, d, _, rfl, get_left hd, _, _, rfl, rfl, _, rfl, ?_⟩
    refine ite2 (fun hz => ?_) (fun hz => ?_)
    · -- the rest of a great cell
      refine ⟨_, rfl, d, _, rfl, get_left hd, .inl ⟨_, rfl, _, rfl, _, _, rfl, rfl, (by show 0 < n; omega), ?_⟩⟩
      refine ⟨_, rfl, d, _, rfl, get_left hd, _, rfl, _, _, rfl, rfl, ⟨by show 0 < n; omega, by show n < 1073741824; omega⟩, _, rfl, d, _, rfl, dput_left hd, ?_⟩
      refine ⟨_, rfl, q _ _ (but_up hd) ⟨c, cells, b, l / n, upd_same, by rw [upd_ne (Ne.symm dc)]; exact hc, cl, b0, by omega, Int.ediv_nonneg l0 (by omega)⟩ (Int.emod_nonneg _ (by omega)) (Int.emod_lt_of_pos _ n0)⟩
    · -- a new cell
      have hd1 : (upd H d (.dK (penL c (b + 1) l))) d = some (.dK (penL c (b + 1) l)) := upd_same
      have hc1 : (upd H d (.dK (penL c (b + 1) l))) c = some (.lst (cells.map V.int)) := by rw [upd_ne (Ne.symm dc)]; exact hc
      refine ⟨_, rfl, d, _, rfl, get_begun hd, ?_⟩
      refine ⟨_, rfl, _, _, rfl, rfl, _, rfl, d, _, rfl, dput_begun hd, ?_⟩
      refine ⟨_, rfl, _, _, rfl, rfl, .inl ⟨by decide, by decide⟩, _, _, rfl, rfl, ?_⟩
      refine ⟨_, rfl, d, _, rfl, get_cells hd1, Nat.zero_le _, fun z nz => ?_⟩
      have sz := same_up (o := .lst []) nz
      have hd2 := sz _ _ hd1
      have hc2 := sz _ _ hc1
      have bt : But d H (upd (upd H d (.dK (penL c (b + 1) l))) z (.lst [])) := (but_up hd).trans (But.same sz)
      refine ⟨.list (cells.map PyData.int), .list [], .lst (SqL.of hc2) (dp_ints cells), .lst (SqL.of upd_same) .nil, ints_shaped cells, ints_shaped [], _, rfl, ?_⟩
      rw [ints_empty]
      generalize upd (upd H d (.dK (penL c (b + 1) l))) z (.lst []) = H2 at hd2 hc2 bt
      have pen2 : ∀ l' : Int, 0 ≤ l' → PenAt (upd H2 d (.dK (penL c (b + 1) l'))) d (k + 1) := fun l' z0 => ⟨c, cells, b + 1, l', upd_same, by rw [upd_ne (Ne.symm dc)]; exact hc2, cl, by omega, by omega, z0⟩
      have pen0 : PenAt H2 d (k + 1) := ⟨c, cells, b + 1, l, hd2, hc2, cl, by omega, by omega, l0⟩
      by_cases he : cells = []
      all_goals
        first
        | (refine ifF (by rw [decide_eq_true he]; rfl) ?_)
        | (have hlen : 0 < (cells.map V.int).length := by
            rw [List.length_map]
            exact List.length_pos_iff.mpr he
           have hm0 := Int.emod_nonneg b (show (((cells.map V.int).length : Nat) : Int) ≠ 0 by omega)
           have hm1 := Int.emod_lt_of_pos b (show (0 : Int) < (((cells.map V.int).length : Nat) : Int) by omega)
           obtain ⟨j, hj⟩ : ∃ j : Nat, b % (((cells.map V.int).length : Nat) : Int) = (j : Int) := ⟨(b % (((cells.map V.int).length : Nat) : Int)).toNat, by omega⟩
           have jl : j < cells.length := by
            rw [hj, List.length_map] at hm1
            omega
           have hat : atI (cells.map V.int) (b % (((cells.map V.int).length : Nat) : Int)) = some (V.int cells[j]) := by
            rw [hj]
            exact atI_nat (by rw [List.getElem?_map, List.getElem?_eq_getElem jl]; rfl)
           refine ifT (by rw [decide_eq_false he]; rfl) ?_
           refine ⟨_, rfl, d, _, rfl, get_cells hd2, _, rfl, .inl ⟨_, rfl, _, rfl, d, _, rfl, get_cells hd2, c, _, rfl, .inl (SqL.of hc2), _, _, rfl, rfl, (by show (0 : Int) < (((cells.map V.int).length : Nat) : Int); omega), c, _, _, _, rfl, rfl, SqL.of hc2, hat, ?_⟩⟩)
        refine ⟨_, rfl, _, rfl, d, _, rfl, get_cells hd2, c, _, rfl, .inl (SqL.of hc2), _, _, rfl, rfl, _, rfl, ?_⟩
        refine ite2 (fun h1 => ?_) (fun h1 => iteF ?_)
        all_goals
          first
          | (refine ⟨_, rfl, _, rfl, _, _, rfl, rfl, ⟨by decide, by decide, by decide⟩, _, _, rfl, rfl, _, rfl, ?_⟩
             refine ite2 (fun h2 => ?_) (fun h2 => ?_))
          | skip
        all_goals
          first
          | (have h3 := of_decide_eq_true h2
             refine ⟨_, rfl, _, rfl, _, _, rfl, rfl, ⟨by decide, by decide, by decide⟩, _, _, rfl, rfl, _, rfl, _, _, rfl, rfl, ⟨by show 0 < n; omega, by show n < 1073741824; omega⟩, _, rfl, d, _, rfl, dput_left hd2, ?_⟩
             refine ⟨_, rfl, _, rfl, _, _, rfl, rfl, ⟨by decide, by decide, by decide⟩, _, _, rfl, rfl, .inl ⟨_, rfl, _, rfl, _, _, rfl, rfl, (by show 0 < n; omega), ?_⟩⟩
             exact q _ _ (bt.trans (but_up hd2)) (pen2 _ (Int.ediv_nonneg (Int.sub_nonneg.mpr h3) (by omega))) (Int.emod_nonneg _ (by omega)) (Int.emod_lt_of_pos _ n0))
          | (refine ⟨_, rfl, .inl ⟨_, rfl, _, _, rfl, rfl, (by show (0 : Int) < 4294967197; decide), _, _, rfl, rfl, .inr ⟨by decide, by decide⟩, ?_⟩⟩
             refine ⟨_, rfl, _, rfl, _, rfl, _, _, rfl, rfl, .inl ⟨by decide, by decide⟩, _, _, rfl, rfl, _, _, rfl, rfl, .inl ⟨by show -(2 ^ 64) < b; omega, by show b < 2 ^ 64; omega⟩, _, _, rfl, rfl, _, _, rfl, rfl, .inl ⟨_, rfl, _, _, rfl, rfl, (by show (0 : Int) < 4294967189; decide), ?_⟩⟩
             refine ⟨_, rfl, _, rfl, _, _, rfl, rfl, .inl (em1 (by decide) (by decide)), _, rfl, _, _, rfl, rfl, .inl ⟨by decide, by decide⟩, _, _, rfl, rfl, _, rfl, _, _, rfl, rfl, .inl ⟨by decide, by decide⟩, _, _, rfl, rfl, _, _, rfl, rfl, .inl ⟨_, rfl, _, _, rfl, rfl, (by show (0 : Int) < 4294967161; decide), ?_⟩⟩
             refine ⟨_, rfl, _, rfl, _, _, rfl, rfl, _, _, rfl, rfl, .inl (em1 (by decide) (by decide)), .inl ⟨_, rfl, _, _, rfl, rfl, (by show (0 : Int) < 4294967143; decide), _, _, rfl, rfl, ⟨by decide, by decide⟩, .inl ⟨_, rfl, _, rfl, _, _, rfl, rfl, (by show 0 < n; omega), ?_⟩⟩⟩
             exact q _ _ bt pen0 (Int.emod_nonneg _ (by omega)) (Int.emod_lt_of_pos _ n0))
end
end K10

namespace K10
open PySem PySem.Spec PyProof.Rows L2 Ver Num
section
variable {P : Program} {w : World} {K : PySem.W.Frag} {mg : Str → Option Value} {base : Heap}
theorem pen_ne {H : Hp} {d a : Addr} {k : Int} {xs : List V} (p : PenAt H d k) (h : H a = some (.lst xs)) : a ≠ d := by
  obtain ⟨c, cells, b, l, h1, _⟩ := p.ex
  exact ne_of h h1 (by intro z; cases z)
/-! ### _law_pick, _law_prime, _law_number -/
def spPick : Sp := fun vs H Q _ => ∃ (d a : Addr) (k : Int) (xs : List V), vs = [.ref d, .ref a] ∧ PenAt H d k ∧ k < 1000000000000 ∧ H a = some (.lst xs) ∧ 0 < xs.length ∧ xs.length < 1000 ∧
  ∀ (x : V) (H' : Hp), x ∈ xs → But d H H' → PenAt H' d (k + 1) → Q x H'
theorem ok_pick (T : Tx K mg) : FnG P w K mg base CX0 2 (He.ga K "_law_pick") spPick := by
  refine mk__law_pick T.d (fun vs H Q E h => ?_) (fun cdv A outer s H vs Q E hg hr h => ?_)
  · obtain ⟨d, a, k, xs, rfl, _⟩ := h
    rfl
  · obtain ⟨d, a, k, xs, rfl, pen, k9, ha, l0, l9, q⟩ := h
    refine ⟨_, pss_one (ps_ret (pe_ix ix_list (pv 1) (pe_callG (ok_draw T) hr hg (by rfl) (T.g "_law_draw" (by decide +kernel)) (kp__law_draw T.d) pass0
      (pa_cons (pv 0) (pa_cons (pe_callB call_len_seq (by rfl) (T.z "len" (by decide +kernel)) (by decide +kernel) (pa_cons (pv 1) pa_nil)) pa_nil))) (fun _ _ => rfl))), ?_⟩
    refine ⟨_, rfl, _, rfl, _, rfl, a, xs, rfl, .inl (SqL.of ha), d, k, _, rfl, pen, k9, by omega, by omega, fun i H1 bt pen1 i0 i1 => ?_⟩
    have ha1 := bt.1 a _ ha (pen_ne pen ha)
    obtain ⟨j, rfl⟩ : ∃ j : Nat, i = (j : Int) := ⟨i.toNat, by omega⟩
    have jl : j < xs.length := by omega
    refine ⟨a, xs, _, xs[j], rfl, rfl, SqL.of ha1, atI_nat (List.getElem?_eq_getElem jl), q _ H1 (List.getElem_mem jl) bt pen1⟩
end
end K10

namespace Ver
open PySem PySem.Spec PyProof.Rows L2
section
variable {X : Cx}
/-! ### == and != and in of data without dicts, any texts -/
def rEqP (K : PySem.W.Frag) : R2 := fun x y H Q => ∃ d e, Do K H x d ∧ Do K H y e ∧ d.plain = true ∧ e.plain = true ∧ d.depth ≤ 64 ∧ Q (.bl (PyData.eqv d e)) H
def rNeP (K : PySem.W.Frag) : R2 := fun x y H Q => ∃ d e, Do K H x d ∧ Do K H y e ∧ d.plain = true ∧ e.plain = true ∧ d.depth ≤ 64 ∧ Q (.bl (!PyData.eqv d e)) H
theorem op_eqP (sm : Sm X.K) (hu : X.A.units + 64 < cLine) : OpR X (compareOp .Eq) (rEqP X.K) := by
  intro pins s σ H x y v u Q I rx ry h
  obtain ⟨d, e, hd, he, sd, se, dd, q⟩ := h
  obtain ⟨as, r1, _⟩ := Do.reads sm I d x v hd rx
  obtain ⟨bs, r2, _⟩ := Do.reads sm I e y u he ry
  exact SeqAt.eq_plain r1 r2 sd se (by omega) ⟨.bl _, H, I, rfl, q⟩
theorem op_neP (sm : Sm X.K) (hu : X.A.units + 64 < cLine) : OpR X (compareOp .NotEq) (rNeP X.K) := by
  intro pins s σ H x y v u Q I rx ry h
  obtain ⟨d, e, hd, he, sd, se, dd, q⟩ := h
  obtain ⟨as, r1, _⟩ := Do.reads sm I d x v hd rx
  obtain ⟨bs, r2, _⟩ := Do.reads sm I e y u he ry
  exact SeqAt.ne_plain r1 r2 sd se (by omega) ⟨.bl _, H, I, rfl, q⟩
end
end Ver
namespace K10
open PySem PySem.Spec PyProof.Rows L2 Ver Num
/-! ### lists of texts and ints -/
def flatD : V → Option PyData
  | .int i => some (.int i)
  | .str s => some (.str s)
  | _ => none
def FlatL (xs : List V) : Prop := ∀ x ∈ xs, (flatD x).isSome = true
def datL (xs : List V) : List PyData := xs.filterMap flatD
theorem flat_int (ns : List Int) : FlatL (ns.map V.int) := fun x hx => by
  obtain ⟨i, _, rfl⟩ := List.mem_map.mp hx
  rfl
theorem flat_str (ss : List Str) : FlatL (ss.map V.str) := fun x hx => by
  obtain ⟨i, _, rfl⟩ := List.mem_map.mp hx
  rfl
theorem datL_cons {x : V} {xs : List V} (h : FlatL (x :: xs)) : ∃ d, flatD x = some d ∧ datL (x :: xs) = d :: datL xs ∧ d.plain = true ∧ d.depth = 0 ∧ ∀ {K : PySem.W.Frag} {H : Hp}, Do K H x d := by
  have hx := h x List.mem_cons_self
  cases x with
  | int i => exact ⟨.int i, rfl, rfl, rfl, by simp [PyData.depth], fun {K H} => .int i⟩
  | str s => exact ⟨.str s, rfl, rfl, rfl, by simp [PyData.depth], fun {K H} => .str s⟩
  | _ => cases hx
theorem flat_tail {x : V} {xs : List V} (h : FlatL (x :: xs)) : FlatL xs := fun y hy => h y (List.mem_cons_of_mem _ hy)
theorem do_flat {K : PySem.W.Frag} {H : Hp} : ∀ {xs : List V}, FlatL xs → DoAll K H xs (datL xs)
  | [], _ => .nil
  | x :: xs, h => by
    obtain ⟨d, _, e, _, _, hd⟩ := datL_cons h
    rw [e]
    exact .cons hd (do_flat (flat_tail h))
theorem plain_flat : ∀ {xs : List V}, FlatL xs → PyData.plainAll (datL xs) = true
  | [], _ => rfl
  | x :: xs, h => by
    obtain ⟨d, _, e, p, _, _⟩ := datL_cons h
    rw [e]
    show (d.plain && PyData.plainAll (datL xs)) = true
    rw [p, plain_flat (flat_tail h)]
    rfl
theorem depth_flat : ∀ {xs : List V}, FlatL xs → PyData.depthAll (datL xs) ≤ 1
  | [], _ => by simp [datL, PyData.depthAll]
  | x :: xs, h => by
    obtain ⟨d, _, e, _, z, _⟩ := datL_cons h
    have := depth_flat (flat_tail h)
    rw [e]
    simp only [PyData.depthAll]
    omega
theorem eqv_flat {xs : List V} (h : FlatL xs) : PyData.eqv (.list (datL xs)) (.list []) = xs.isEmpty := by
  cases xs with
  | nil => exact SeqAt.eqv_refl_plain _ rfl
  | cons x xs =>
    obtain ⟨d, _, e, _⟩ := datL_cons h
    rw [e]
    simp [PyData.eqv, PyData.eqvAll]
theorem flat_erase {xs : List V} (h : FlatL xs) (k : Nat) : FlatL (xs.eraseIdx k) := fun x hx => h x (List.mem_of_mem_eraseIdx hx)
theorem perm_erase {α : Type} : ∀ {xs : List α} {k : Nat} {y : α}, xs[k]? = some y → (y :: xs.eraseIdx k).Perm xs
  | x :: xs, 0, y, h => by
    cases h
    exact List.Perm.refl _
  | x :: xs, k + 1, y, h => by
    have ih := perm_erase (xs := xs) (k := k) (y := y) h
    rw [List.eraseIdx_cons_succ]
    exact (List.Perm.swap x y _).trans (ih.cons x)
  | [], k, y, h => by simp at h
theorem seq_at {i : Int} {n : Nat} (h0 : 0 ≤ i) (h1 : i < (n : Int)) : seqIndex? i n = some i.toNat := by
  unfold seqIndex?
  simp
  omega
section
variable {P : Program} {w : World} {K : PySem.W.Frag} {mg : Str → Option Value} {base : Heap}
theorem PenC.same {H H' : Hp} {d c : Addr} {k : Int} (p : PenC H d c k) (s : Same H H') : PenC H' d c k := p.on (But.same s) (p.at_.same s)
theorem PenC.mono {H : Hp} {d c : Addr} {j k : Int} (p : PenC H d c j) (h : j ≤ k) : PenC H d c k := by
  obtain ⟨cells, b, l, h1, h2, h3, h4, h5, h6⟩ := p.ex
  exact ⟨cells, b, l, h1, h2, h3, h4, by omega, h6⟩
theorem But.up {d D : Addr} {H H' : Hp} {o : HO} (b : But d H H') (n : H D = none) (nd : d ≠ D) : But d H (upd H' D o) :=
  ⟨fun x u e ne => by rw [upd_ne (ne_of_none e n)]; exact b.1 x u e ne, fun c b0 l e => by
    obtain ⟨b', l', e'⟩ := b.2 c b0 l e
    exact ⟨b', l', by rw [upd_ne nd]; exact e'⟩⟩
/-! ### _law_shuffled -/
def spShuf (K : PySem.W.Frag) : Sp := fun vs H Q _ => ∃ (d a : Addr) (k : Int) (xs : List V), vs = [.ref d, .ref a] ∧ PenAt H d k ∧ k < 1000000000 ∧ SqL K H a xs ∧ FlatL xs ∧ xs.length ≤ 100 ∧
  ∀ (p : Addr) (ys : List V) (H' : Hp), ys.Perm xs → H' p = some (.lst ys) → But d H H' → PenAt H' d (k + (xs.length : Int)) → Q (.ref p) H'
theorem ok_shuf (T : Tx K mg) : FnG P w K mg base CX0 2 (He.ga K "_law_shuffled") (spShuf K) := by
  refine mk__law_shuffled T.d (fun vs H Q E h => ?_) (fun cdv A outer s H vs Q E hg hr h => ?_)
  · obtain ⟨d, a, k, xs, rfl, _⟩ := h
    rfl
  · obtain ⟨d, a, k, xs, rfl, pen, k9, ha, fx, lx, q⟩ := h
    have nd := sc__law_shuffled.nd
    have hu := hr.units
    refine ⟨_, pss_cons (ps_par (i := 2) (j := 3) rfl nd rfl rfl (by decide) rfl rfl (pa_cons (pe_callTy call_list_of (by rfl) (T.z "list" (by decide +kernel)) (by decide +kernel) (pa_cons (pv 1) pa_nil)) (pa_cons (pe_lst pa_nil) pa_nil)) rfl)
      (pss_cons (ps_while PassesOwn.never (pt_cmpR (op_neP T.sm hu) (pv 2) (pe_lst pa_nil) (nomark _))
        (pss_one (ps_expr (pe_bm PySem.F.plainAttrs_list PySem.F.slot_list_append PySem.F.type_list_append mt_append (pv 3) (pa_cons
          (pe_bm PySem.F.plainAttrs_list PySem.F.slot_list_pop PySem.F.type_list_pop mt_popAt (pv 2) (pa_cons (pe_callG (ok_draw T) hr hg (by rfl) (T.g "_law_draw" (by decide +kernel)) (kp__law_draw T.d) pass0
            (pa_cons (pv 0) (pa_cons (pe_callB call_len_seq (by rfl) (T.z "len" (by decide +kernel)) (by decide +kernel) (pa_cons (pv 2) pa_nil)) pa_nil))) pa_nil)) pa_nil)))))
      (pss_one (ps_ret (pv 3)))), ?_⟩
    refine ⟨_, rfl, a, xs, rfl, .inl ha, fun r nr => ⟨by show 0 ≤ sizeLine; decide, fun f nf => ⟨_, _, rfl, ?_⟩⟩⟩
    obtain ⟨c, penC⟩ := pen.c
    obtain ⟨cells, b0, l0, hd, hc, _⟩ := id penC.ex
    have s1 := same_up (o := .lst xs) nr
    have s2 := same_up (o := .lst []) nf
    have dr : d ≠ r := ne_of_none hd nr
    have cr : c ≠ r := ne_of_none hc nr
    have nf0 : H f = none := by
      cases e : H f with
      | none => rfl
      | some o =>
        have := s1 _ _ e
        rw [nf] at this
        cases this
    have df : d ≠ f := ne_of_none hd nf0
    have cf : c ≠ f := ne_of_none hc nf0
    have rf : r ≠ f := ne_of_none (upd_same (a := r)) nf
    refine ⟨fun n σ H' => ∃ (xs' ys : List V), n = xs'.length ∧ H' r = some (.lst xs') ∧ H' f = some (.lst ys) ∧ FlatL xs' ∧ (ys ++ xs').Perm xs ∧ But d H H' ∧ PenC H' d c (k + (ys.length : Int)) ∧ σ = [some (.ref d), some (.ref a), some (.ref r), some (.ref f)],
      ⟨xs.length, xs, [], rfl, s2 _ _ upd_same, upd_same, fx, List.Perm.refl _, But.same (s1.trans s2), PenC.mono (PenC.same penC (s1.trans s2)) (by simp), rfl⟩, ?_⟩
    rintro n σ H' ⟨xs', ys, rfl, hr', hf', fx', pm, bt, pc, rfl⟩
    refine ⟨_, rfl, by show 0 ≤ sizeLine; decide, fun z nz => ?_⟩
    have s3 := same_up (o := .lst []) nz
    have dep := depth_flat fx'
    refine ⟨.list (datL xs'), .list [], .lst (SqL.of (s3 _ _ hr')) (do_flat fx'), .lst (SqL.of upd_same) .nil, by show PyData.plainAll _ = true; exact plain_flat fx', rfl, by simp only [PyData.depth]; omega, _, rfl, ?_⟩
    rw [eqv_flat fx']
    cases xs' with
    | nil =>
      refine ifF rfl ⟨_, rfl, ?_⟩
      rw [List.append_nil] at pm
      exact q f ys _ pm (s3 _ _ hf') (bt.trans (But.same s3)) (((PenC.same pc s3).at_).mono (by rw [pm.length_eq]; omega))
    | cons x0 xr =>
      refine ifT rfl ?_
      have hr3 := s3 _ _ hr'
      have hf3 := s3 _ _ hf'
      have lxs := pm.length_eq
      rw [List.length_append, List.length_cons] at lxs
      refine ⟨fun σ' H'' => ∃ (xs2 ys2 : List V), xs2.length < (x0 :: xr).length ∧ H'' r = some (.lst xs2) ∧ H'' f = some (.lst ys2) ∧ FlatL xs2 ∧ (ys2 ++ xs2).Perm xs ∧ But d H H'' ∧ PenC H'' d c (k + (ys2.length : Int)) ∧ σ' = [some (.ref d), some (.ref a), some (.ref r), some (.ref f)], ?_, ?_⟩
      · rintro σ' H'' ⟨xs2, ys2, hlt, e1, e2, e3, e4, e5, e6, e7⟩
        exact ⟨_, hlt, xs2, ys2, rfl, e1, e2, e3, e4, e5, e6, e7⟩
      · refine ⟨_, rfl, .inl ⟨rfl, _, SqL.of hf3⟩, ?_⟩
        refine ⟨_, rfl, .inl ⟨rfl, _, SqL.of hr3⟩, ?_⟩
        refine ⟨_, rfl, _, rfl, r, _, rfl, .inl (SqL.of hr3), ?_⟩
        have pc3 := PenC.same pc s3
        refine ⟨d, _, _, rfl, pc3.at_, by omega, by rw [List.length_cons]; omega, by rw [List.length_cons]; omega, fun i H4 bt4 pen4 i0 i1 => ?_⟩
        have pc4 := pc3.on bt4 pen4
        have hr4 := bt4.1 r _ hr3 (Ne.symm dr)
        have hf4 := bt4.1 f _ hf3 (Ne.symm df)
        obtain ⟨y, hy⟩ : ∃ y, (x0 :: xr)[i.toNat]? = some y := ⟨_, List.getElem?_eq_getElem (by omega)⟩
        refine ⟨r, x0 :: xr, i, i.toNat, y, rfl, rfl, hr4, by omega, by rw [List.length_cons] at i1; omega, seq_at i0 i1, hy, ?_⟩
        refine ⟨f, ys, y, rfl, rfl, by rw [upd_ne (Ne.symm rf)]; exact hf4, by rw [sizeLine_eq]; omega, ?_⟩
        have pm2 : ((ys ++ [y]) ++ (x0 :: xr).eraseIdx i.toNat).Perm xs := by
          rw [List.append_assoc]
          exact ((perm_erase hy).append_left ys).trans pm
        have le := pm2.length_eq
        rw [List.length_append, List.length_append] at le
        have l1 : [y].length = 1 := rfl
        refine ⟨_, _, ?_, by rw [upd_ne rf, upd_same], upd_same, flat_erase fx' _, pm2, ?_, ?_, rfl⟩
        · rw [List.length_cons]
          omega
        · exact ((bt.trans (But.same s3)).trans bt4 |>.up (by exact nr) dr).up nf0 df
        · exact PenC.mono ((pc4.up dr cr).up df cf) (by rw [List.length_append]; omega)
end
end K10

namespace Ver
open PySem PySem.Spec PyProof.Rows L2
/-- list(e.values()) -/
def tListVals (te : TE) : TE := fun σ H Q => te σ H fun x H1 => ∃ (d : Addr) (kvs : List (Key × V)), x = .ref d ∧ H1 d = some (.dK kvs) ∧ ∀ q, H1 q = none → Q (.ref q) (upd H1 q (.lst (kvs.map (·.2))))
section
variable {X : Cx} {e : Expr} {te : TE} {p apos cpos pos : Pos}
theorem pe_listVals (hc : X.calm = true) (he : PE X e te) (hg : Gl X "list") (hm : X.mg "list" = none) (hv : bootBuiltins "list" = some (.type "list")) (hbase : attributeBase e "values" X.env (eval e X.env) = eval e X.env := by rfl) (hline : (apos.endLine == cpos.line) = true := by rfl)
    (hs : starEach [.Call (.Attribute e "values" apos) [] [] cpos] X.env = (false, eval (.Call (.Attribute e "values" apos) [] [] cpos) X.env) :: starEach [] X.env := by rfl) :
    PE X (.Call (.Name "list" p) [.Call (.Attribute e "values" apos) [] [] cpos] [] pos) (tListVals te) := by
  refine ⟨fun pins s σ H Q I hq => wpAny_Call_Name_kw (ld_blt I hg hm hv (PyProof.Rows.callWith_type1 ?_ hs rfl))⟩
  rw [hs]
  refine (Calls.spliced_cons ?_ : wpAny _ _ (spliced ((false, eval (.Call (.Attribute e "values" apos) [] [] cpos) X.env) :: backTo pos (starEach [] X.env))) _ _ s)
  refine wpAny_Call_method (T := "dict") (id := "dict.values") hbase rfl hline F.plainAttrs_dict F.slot_dict_values F.type_dict_values (thn (he.run pins s σ H _ I hq) fun u s1 ⟨x, H1, I1, rx, d, kvs, ex, hd, q⟩ => ?_)
  subst ex
  obtain rfl : u = Value.ref d := rx
  obtain ⟨hz, lo, vs, rk, hdo⟩ := dk_of I1.hok hd
  obtain ⟨ep, hat⟩ := hdo.dictAt
  have hl : kvs.length = vs.length := Paired.length rk
  refine ⟨hdo.typeIs, hdo.mapOf.noDict, ?_⟩
  refine (method_meetsIn F.slot_dict_values F.entry_dict_values rfl (PySem.evalArgs_none ⟨rfl, hdo.typeIs, F.args_dict_values_1 _, _, meets_dict_values (mixKind X.prog X.w) d lo, ⟨vs, hdo⟩, ?_⟩) : wpAny _ _ (callWith cpos (.builtin "dict.values") [.ref d] [] []) _ X.xe s1)
  refine Calls.spliced_nil ?_
  have I2 : Inv X pins σ H1 { s1 with heap := s1.heap.push { cls := .type "dict_values", data := .fields #[.ref d] } } := I1.kept (t' := s1.toks) fun b ob q => Heap.get?_push_of_some _ q
  refine PySem.W.kdl_call (PySem.W.kdl_values (knd := mixKind X.prog X.w) (kvs := vs) (ep := ep)) (I1.ok.hd hc) ⟨⟨_, Heap.get?_push_size _ rfl, rfl, rfl⟩, hat.push _⟩ (by rw [← hl]; exact hz) fun h' tk acc' c' kp hS hacc => ?_
  refine ⟨.ref _, upd H1 _ (.lst (kvs.map (·.2))), I2.laid kp (Nat.le_refl _) (show ObjOk X.prog X.w _ _ _ (.lst (kvs.map (·.2))) from ⟨by rw [List.length_map]; exact hz, acc'.toList, c', ?_, ?_⟩), rfl, q _ (I2.hok.fresh (Nat.le_refl _))⟩
  · have el : acc'.toList.length = acc'.size := Array.length_toList
    refine vals_of_at (by rw [List.length_map, el, hacc.1, hl]) fun j x v h1 h2 => ?_
    obtain ⟨k, hky⟩ := hacc.2 j v (by rw [← Array.getElem?_toList]; exact h2)
    rw [List.getElem?_map] at h1
    cases hj : kvs[j]? with
    | none =>
      rw [hj] at h1
      cases h1
    | some q =>
      rw [hj] at h1
      cases h1
      obtain ⟨y, e1, e2⟩ := LiI.paired_get rk hj
      rw [hky] at e1
      cases e1
      exact e2.2
  · rw [Array.toArray_toList]
    exact hS
/-- sorted of texts, as many as there are -/
def rSortedSA (K : PySem.W.Frag) : List V → Hp → VK → Prop := fun vs H Q => ∃ (a : Addr) (xs : List Str), vs = [V.ref a] ∧ SqL K H a (xs.map V.str) ∧
  ∀ (ys : List Str) (p : Addr), ys.Perm xs → sortedS ys = true → H p = none → Q (.ref p) (upd H p (.lst (ys.map V.str)))
theorem cr_sortedSA : CallR X (.builtin "sorted") (rSortedSA X.K) := by
  intro pins s σ H vs us Q I r h
  obtain ⟨a, xs, rfl, hs, q⟩ := h
  obtain ⟨its, rv, hl, hz⟩ := I.list hs
  rw [Vals.ref1 r]
  have len := rv.length
  rw [List.length_map] at len
  refine PyProof.Rows.sorted_strsAny hl.isList rv.strs (by rw [← len, ← List.length_map (f := V.str)]; exact hz) fun out ys h1 h2 h3 => ?_
  obtain ⟨ep, hat⟩ := PyProof.Rows.sortedAll_at s.heap its out
  have few : (ys.map V.str).length ≤ sizeLine := by
    rw [List.length_map, h2.length_eq, ← List.length_map (f := V.str)]
    exact hz
  exact ⟨.ref _, upd H (s.heap.objs.size + 1) (.lst (ys.map V.str)), I.laid (t' := s.toks) (fun _ _ => PyProof.Rows.sortedAll_old) (Nat.le_succ _) ⟨few, out.toList, ep, vals_of_strs h1, hat⟩, rfl, q ys _ h2 h3 (I.hok.fresh (Nat.le_succ _))⟩
end
end Ver
namespace Ver
open PySem PySem.Spec PyProof.Rows L2
/-- list(text) -/
def rListText : List V → Hp → VK → Prop := fun vs H Q => ∃ x : Str, vs = [.str x] ∧ x.cps.size ≤ 16000000 ∧ ∀ q, H q = none → Q (.ref q) (upd H q (.lst (x.cps.toList.map fun c => V.str ⟨#[c]⟩)))
theorem cr_listText {X : Cx} (hc : X.calm = true) : CallR X (.type "list") rListText := by
  intro pins s σ H vs us Q I r h
  obtain ⟨x, rfl, hz, q⟩ := h
  obtain ⟨u, rfl, t, rfl⟩ := vals1 r
  have few : x.cps.size ≤ sizeLine := by rw [sizeLine_eq]; omega
  refine PySem.call_list_str (I.ok.hd hc) x t (fun h' tk acc c kp hS hacc => ?_) few
  refine ⟨.ref s.heap.objs.size, upd H s.heap.objs.size (.lst (x.cps.toList.map fun c => V.str ⟨#[c]⟩)), I.laid kp (Nat.le_refl _) (show ObjOk X.prog X.w _ _ _ (.lst _) from ⟨by rw [List.length_map, Array.length_toList]; exact few, acc.toList, c, ?_, ?_⟩), rfl, q _ (I.hok.fresh (Nat.le_refl _))⟩
  · refine vals_of_at (by rw [List.length_map, Array.length_toList, Array.length_toList, hacc.1]) fun j y v h1 h2 => ?_
    obtain ⟨k, tk2, e1, e2⟩ := hacc.2 j v (by rw [← Array.getElem?_toList]; exact h2)
    rw [List.getElem?_map, Array.getElem?_toList, e1] at h1
    cases h1
    exact ⟨tk2, e2⟩
  · rw [Array.toArray_toList]
    exact hS
end Ver

/-! Lists of numbers, of texts of one sign, in order. -/
namespace Ver
open PySem PySem.Spec PyProof.Rows L2 SX
theorem perm_map {α β : Type} {f : α → β} (g : β → α) (hg : ∀ a, g (f a) = a) {ys : List β} {zs : List α} (h : ys.Perm (zs.map f)) : ∃ zs' : List α, ys = zs'.map f ∧ zs'.Perm zs := by
  refine ⟨ys.map g, ?_, ?_⟩
  · rw [List.map_map]
    refine (List.map_id ys).symm.trans (List.map_congr_left fun y hy => ?_)
    obtain ⟨z, _, rfl⟩ := List.mem_map.mp (h.mem_iff.mp hy)
    show f z = f (g (f z))
    rw [hg]
  · have e := h.map g
    rw [List.map_map] at e
    have e2 : zs.map (g ∘ f) = zs := by
      conv => rhs; rw [← List.map_id zs]
      exact List.map_congr_left fun z _ => hg z
    rwa [e2] at e
def unI : V → Int
  | .int i => i
  | _ => 0
def unS : V → Str
  | .str s => s
  | _ => S []
def un1 (s : Str) : Nat := s.cps.toList.headD 0
theorem ints_perm {ys : List V} {ns : List Int} (h : ys.Perm (ns.map V.int)) : ∃ ns' : List Int, ys = ns'.map V.int ∧ ns'.Perm ns := perm_map unI (fun _ => rfl) h
theorem strs_perm {ys : List V} {ns : List Str} (h : ys.Perm (ns.map V.str)) : ∃ ns' : List Str, ys = ns'.map V.str ∧ ns'.Perm ns := perm_map unS (fun _ => rfl) h
abbrev ones (cs : List Nat) : List Str := cs.map fun c => S [c]
theorem ones_perm {ys : List Str} {cs : List Nat} (h : ys.Perm (ones cs)) : ∃ ds : List Nat, ys = ones ds ∧ ds.Perm cs := perm_map un1 (fun _ => rfl) h
theorem le_of_rising : ∀ (ds : List Nat) (p : Nat), risingS (S [p]) (ones ds) = true → (p :: ds).Pairwise (· ≤ ·)
  | [], p, _ => List.pairwise_singleton _ _
  | d :: ds, p, h => by
    have h : (!ltCps [d] [p] && risingS (S [d]) (ones ds)) = true := h
    rw [Bool.and_eq_true] at h
    have ih := le_of_rising ds d h.2
    have e : p ≤ d := by
      have h1 := h.1
      simp [ltCps] at h1
      exact h1
    refine List.pairwise_cons.mpr ⟨fun x hx => ?_, ih⟩
    rcases List.mem_cons.mp hx with rfl | hx
    · exact e
    · exact Nat.le_trans e ((List.pairwise_cons.mp ih).1 x hx)
theorem le_of_sorted {ds : List Nat} (h : sortedS (ones ds) = true) : ds.Pairwise (· ≤ ·) := by
  cases ds with
  | nil => exact List.Pairwise.nil
  | cons d ds => exact le_of_rising ds d h
theorem asc_eq {ds cs : List Nat} (p : ds.Perm cs) (h : ds.Pairwise (· ≤ ·)) (h2 : cs.Pairwise (· < ·)) : ds = cs :=
  List.Perm.eq_of_pairwise (fun a b _ _ h1 h2 => Nat.le_antisymm h1 h2) h (h2.imp Nat.le_of_lt) p
theorem asc_nodup {cs : List Nat} (h : cs.Pairwise (· < ·)) : cs.Nodup := h.imp (S := fun a b => a ≠ b) fun h => Nat.ne_of_lt h
theorem lt_of_le_nodupN : ∀ {l : List Nat}, l.Pairwise (· ≤ ·) → l.Nodup → l.Pairwise (· < ·)
  | [], _, _ => List.Pairwise.nil
  | x :: l, h, d => by
    obtain ⟨h1, h2⟩ := List.pairwise_cons.mp h
    obtain ⟨d1, d2⟩ := List.nodup_cons.mp d
    exact List.pairwise_cons.mpr ⟨fun y hy => Nat.lt_of_le_of_ne (h1 y hy) fun e => d1 (e ▸ hy), lt_of_le_nodupN h2 d2⟩
/-- texts of one sign in order, from any arrangement -/
theorem ones_sorted {ys : List Str} {cs : List Nat} (p : ys.Perm (ones cs)) (h : sortedS ys = true) (asc : cs.Pairwise (· < ·)) : ys = ones cs := by
  obtain ⟨ds, rfl, pd⟩ := ones_perm p
  rw [asc_eq pd (le_of_sorted h) asc]
theorem joinL_ones : ∀ cs : List Nat, TL.joinL [] (cs.map fun c => [c]) = cs
  | [] => rfl
  | [c] => rfl
  | c :: d :: cs => by
    have ih := joinL_ones (d :: cs)
    show [c] ++ ([] ++ TL.joinL [] ((d :: cs).map fun c => [c])) = c :: d :: cs
    rw [ih]
    rfl
theorem join_ones (cs : List Nat) : Txt.join (S []) (ones cs) = S cs := by
  have e : ones cs = (cs.map fun c => [c]).map S := by
    rw [List.map_map]
    rfl
  rw [e, join_S, joinL_ones]
theorem ones_len (cs : List Nat) : ((ones cs).map (·.length)).sum = cs.length := by
  induction cs with
  | nil => rfl
  | cons c cs ih =>
    show (S [c]).length + ((ones cs).map (·.length)).sum = _
    rw [ih, S_len, List.length_cons, List.length_cons, List.length_nil]
    omega
theorem chars_S (cs : List Nat) : (S cs).cps.toList = cs := by simp
end Ver

/-! Comprehensions whose parts only read. -/
namespace Ver
open PySem PySem.Spec PyProof.Rows L2
section
variable {J : It} {n : Nat} {G : Hp → Prop} {Y : Nat → V → Prop}
theorem same_new {Hb H : Hp} {D : Addr} {o : HO} (nD : Hb D = none) (s : Same Hb H) : Same Hb (upd H D o) := fun b u e => by
  rw [upd_ne (ne_of_none e nD)]
  exact s b u e
/-- [e for x in ..]: x in slot j, the i-th result is y i -/
theorem lc_one (w : Walk J n G (fun i H x H' => H' = H ∧ Y i x)) {te : TE} {j : Nat} {σ : L2.St} {Hb : Hp} {D : Addr} {Qd : Hp → Prop} (y : Nat → V) (nD : Hb D = none) (few : n ≤ 20000) (hG : ∀ H, Same Hb H → G H)
    (hs : ∀ i x H (R : V → Hp → Prop), i < n → Same Hb H → Y i x → R (y i) H → te ((wipe σ [j]).set j (some x)) H R)
    (hd : ∀ H, Same Hb H → H D = some (.lst ((List.range n).map y)) → Qd H) (hw : ∀ x : V, wipe ((wipe σ [j]).set j (some x)) [j] = wipe σ [j] := by intro _; rfl) :
    ∃ W : Nat → Nat → Hp → Prop, (∃ m, W 0 m (upd Hb D (.lst []))) ∧ ∀ i m H, W i m H →
      (J.stop i H ∧ Qd H) ∨ (J.go i H ∧ ∃ Nx : Hp → Prop, (∀ H', Nx H' → ∃ m', m' < m ∧ W (i + 1) m' H') ∧ ∀ x H', J.yld i H x H' → gName j x (wipe σ [j]) H' fun σ2 H2 => wipe σ2 [j] = wipe σ [j] ∧ tYes σ2 H2 fun b H3 =>
        if b = true then te σ2 H3 fun y H4 => ∃ acc, H4 D = some (.lst acc) ∧ acc.length < sizeLine ∧ Nx (upd H4 D (.lst (acc ++ [y]))) else Nx H3) := by
  refine lc_it w (fun i H => Same Hb H ∧ H D = some (.lst ((List.range i).map y))) ⟨same_new nD (fun _ _ e => e), upd_same⟩ (fun i H _ p => hG H p.1) (fun i x H H' hi p hy => ?_) fun H p => hd H p.1 p.2
  obtain ⟨rfl, hy⟩ := hy
  refine ⟨hw x, ?_⟩
  unfold tYes
  dsimp only
  rw [if_pos rfl]
  refine hs i x _ _ hi p.1 hy ⟨_, p.2, ?_, same_new nD p.1, ?_⟩
  · rw [List.length_map, List.length_range, sizeLine_eq]
    omega
  · rw [upd_same, List.range_succ, List.map_append]
    rfl
/-- [e for x in .. if t] -/
theorem lc_some (w : Walk J n G (fun i H x H' => H' = H ∧ Y i x)) {tt : TT} {te : TE} {j : Nat} {σ : L2.St} {Hb : Hp} {D : Addr} {Qd : Hp → Prop} (y : Nat → V) (keep : Nat → Bool) (nD : Hb D = none) (few : n ≤ 20000) (hG : ∀ H, Same Hb H → G H)
    (ht : ∀ i x H (R : Bool → Hp → Prop), i < n → Same Hb H → Y i x → R (keep i) H → tt ((wipe σ [j]).set j (some x)) H R)
    (hs : ∀ i x H (R : V → Hp → Prop), i < n → keep i = true → Same Hb H → Y i x → R (y i) H → te ((wipe σ [j]).set j (some x)) H R)
    (hd : ∀ H, Same Hb H → H D = some (.lst (((List.range n).filter keep).map y)) → Qd H) (hw : ∀ x : V, wipe ((wipe σ [j]).set j (some x)) [j] = wipe σ [j] := by intro _; rfl) :
    ∃ W : Nat → Nat → Hp → Prop, (∃ m, W 0 m (upd Hb D (.lst []))) ∧ ∀ i m H, W i m H →
      (J.stop i H ∧ Qd H) ∨ (J.go i H ∧ ∃ Nx : Hp → Prop, (∀ H', Nx H' → ∃ m', m' < m ∧ W (i + 1) m' H') ∧ ∀ x H', J.yld i H x H' → gName j x (wipe σ [j]) H' fun σ2 H2 => wipe σ2 [j] = wipe σ [j] ∧ tt σ2 H2 fun b H3 =>
        if b = true then te σ2 H3 fun y H4 => ∃ acc, H4 D = some (.lst acc) ∧ acc.length < sizeLine ∧ Nx (upd H4 D (.lst (acc ++ [y]))) else Nx H3) := by
  refine lc_it w (fun i H => Same Hb H ∧ H D = some (.lst (((List.range i).filter keep).map y))) ⟨same_new nD (fun _ _ e => e), upd_same⟩ (fun i H _ p => hG H p.1) (fun i x H H' hi p hy => ?_) fun H p => hd H p.1 p.2
  obtain ⟨rfl, hy⟩ := hy
  refine ⟨hw x, ht i x _ _ hi p.1 hy ?_⟩
  have r1 : List.range (i + 1) = List.range i ++ [i] := List.range_succ
  cases hk : keep i with
  | true =>
    rw [if_pos rfl]
    refine hs i x _ _ hi hk p.1 hy ⟨_, p.2, ?_, same_new nD p.1, ?_⟩
    · have l1 := List.length_filter_le keep (List.range i)
      rw [List.length_range] at l1
      rw [List.length_map, sizeLine_eq]
      omega
    · rw [upd_same, r1, List.filter_append, List.map_append, show List.filter keep [i] = [i] by simp [hk]]
      rfl
  | false =>
    rw [if_neg Bool.false_ne_true]
    refine ⟨p.1, ?_⟩
    rw [r1, List.filter_append, show List.filter keep [i] = [] by simp [hk], List.append_nil]
    exact p.2
end
section
variable {K : PySem.W.Frag} {a d : Addr} {xs : List V} {o : Obj}
theorem wk_list : Walk (Itl K a) xs.length (fun H => SqL K H a xs) (fun i H x H' => H' = H ∧ xs[i]? = some x) := walk_list
theorem wk_tup : Walk (Itt K a) xs.length (fun H => SqT K H a xs) (fun i H x H' => H' = H ∧ xs[i]? = some x) := walk_tup
theorem wk_range {n : Nat} : Walk (Itr 0 n) n (fun _ => True) (fun i H x H' => H' = H ∧ x = .int (0 + (i : Int))) := walk_range
theorem wk_str {z : Str} : Walk (Its z) z.cps.size (fun _ => True) (fun i H x H' => H' = H ∧ ∃ c, z.cps[i]? = some c ∧ x = .str ⟨#[c]⟩) := walk_str
theorem wk_keys {kvs : List (Key × V)} : Walk (Itk d o kvs) kvs.length (fun H => H d = some (.frz o (.dK kvs))) (fun i H x H' => H' = H ∧ ∃ k v, kvs[i]? = some (k, v) ∧ x = kV k) := walk_keys
end
theorem range_map {α β : Type} [Inhabited α] (xs : List α) (f : α → β) (y : Nat → β) (h : ∀ i x, xs[i]? = some x → y i = f x) : (List.range xs.length).map y = xs.map f := by
  refine List.ext_getElem (by rw [List.length_map, List.length_map, List.length_range]) fun i h1 h2 => ?_
  rw [List.length_map] at h2
  rw [List.getElem_map, List.getElem_map, List.getElem_range]
  exact h i _ (List.getElem?_eq_getElem h2)
end Ver
namespace Ver
open PySem PySem.Spec PyProof.Rows L2
theorem valV_no {κ : Type} [DecidableEq κ] : ∀ {kvs : List (κ × V)} {k : κ}, k ∉ kvs.map (·.1) → valV kvs k = none
  | [], _, _ => rfl
  | p :: kvs, k, h => by
    rw [List.map_cons, List.mem_cons, not_or] at h
    exact (valV_neg fun z => h.1 z.symm).trans (valV_no h.2)
/-- {k: v for x in ..}, new keys -/
theorem dc_one {J : It} {n : Nat} {G : Hp → Prop} {Y : Nat → V → Prop} (w : Walk J n G (fun i H x H' => H' = H ∧ Y i x)) {tk tv : TE} {j : Nat} {σ : L2.St} {Hb : Hp} {D : Addr} {Qd : Hp → Prop} (kf : Nat → Key) (y : Nat → V) (inj : ∀ a b, a < n → b < n → kf a = kf b → a = b) (nD : Hb D = none) (few : n ≤ 20000) (hG : ∀ H, Same Hb H → G H)
    (hs : ∀ i x H (R : V → Hp → Prop), i < n → Same Hb H → Y i x → R (kV (kf i)) H → tk ((wipe σ [j]).set j (some x)) H R)
    (hv : ∀ i x H (R : V → Hp → Prop), i < n → Same Hb H → Y i x → R (y i) H → tv ((wipe σ [j]).set j (some x)) H R)
    (hd : ∀ H, Same Hb H → H D = some (.dK ((List.range n).map fun i => (kf i, y i))) → Qd H) (hw : ∀ x : V, wipe ((wipe σ [j]).set j (some x)) [j] = wipe σ [j] := by intro _; rfl) :
    ∃ W : Nat → Nat → Hp → Prop, (∃ m, W 0 m (upd Hb D (.dK []))) ∧ ∀ i m H, W i m H →
      (J.stop i H ∧ Qd H) ∨ (J.go i H ∧ ∃ Nx : Hp → Prop, (∀ H', Nx H' → ∃ m', m' < m ∧ W (i + 1) m' H') ∧ ∀ x H', J.yld i H x H' → gName j x (wipe σ [j]) H' fun σ2 H2 => wipe σ2 [j] = wipe σ [j] ∧ tYes σ2 H2 fun b H3 =>
        if b = true then tk σ2 H3 fun y H4 => tv σ2 H4 fun z H5 => ∃ kvs k, y = kV k ∧ H5 D = some (.dK kvs) ∧ kvs.length < sizeLine ∧ Nx (upd H5 D (.dK (putK kvs k z))) else Nx H3) := by
  refine ⟨fun i m H => m = n - i ∧ i ≤ n ∧ Same Hb H ∧ H D = some (.dK ((List.range i).map fun i => (kf i, y i))), ⟨n, by simp, Nat.zero_le _, same_new nD (fun _ _ e => e), upd_same⟩, ?_⟩
  rintro i m H ⟨rfl, hi, p⟩
  by_cases hlt : i < n
  · refine .inr ⟨w.goes i H hlt (hG H p.1), fun H => Same Hb H ∧ H D = some (.dK ((List.range (i + 1)).map fun i => (kf i, y i))), fun H' p' => ⟨n - (i + 1), by omega, rfl, hlt, p'⟩, fun x H' yy => ?_⟩
    obtain ⟨rfl, hy⟩ := w.yields i H x H' hlt (hG H p.1) yy
    refine ⟨hw x, ?_⟩
    unfold tYes
    dsimp only
    rw [if_pos rfl]
    refine hs i x _ _ hlt p.1 hy (hv i x _ _ hlt p.1 hy ⟨_, kf i, rfl, p.2, ?_, same_new nD p.1, ?_⟩)
    · rw [List.length_map, List.length_range, sizeLine_eq]
      omega
    · rw [upd_same, putK_new, List.range_succ, List.map_append]
      · rfl
      · refine valV_no fun z => ?_
        rw [List.map_map] at z
        obtain ⟨m, hm, e⟩ := List.mem_map.mp z
        have hm := List.mem_range.mp hm
        exact absurd (inj m i (by omega) hlt e) (by omega)
  · have e : i = n := by omega
    subst e
    exact .inl ⟨w.stops H (hG H p.1), hd H p.1 p.2⟩
end Ver
namespace Ver
open PySem PySem.Spec PyProof.Rows L2
/-- [(a, b) for x in ..]: the i-th result is a new pair -/
theorem lc_pair {J : It} {n : Nat} {G : Hp → Prop} {Y : Nat → V → Prop} (w : Walk J n G (fun i H x H' => H' = H ∧ Y i x)) {te : TE} {j : Nat} {σ : L2.St} {Hb : Hp} {D : Addr} {Qd : Hp → Prop} (a b : Nat → V) (nD : Hb D = none) (few : n ≤ 20000) (hG : ∀ H, Same Hb H → G H)
    (hs : ∀ i x H (R : V → Hp → Prop), i < n → Same Hb H → Y i x → (∀ t, H t = none → R (.ref t) (upd H t (.tup [a i, b i]))) → te ((wipe σ [j]).set j (some x)) H R)
    (hd : ∀ H (ts : List Addr), Same Hb H → H D = some (.lst (ts.map V.ref)) → ts.length = n → (∀ i t, ts[i]? = some t → H t = some (.tup [a i, b i]) ∧ Hb t = none) → Qd H) (hw : ∀ x : V, wipe ((wipe σ [j]).set j (some x)) [j] = wipe σ [j] := by intro _; rfl) :
    ∃ W : Nat → Nat → Hp → Prop, (∃ m, W 0 m (upd Hb D (.lst []))) ∧ ∀ i m H, W i m H →
      (J.stop i H ∧ Qd H) ∨ (J.go i H ∧ ∃ Nx : Hp → Prop, (∀ H', Nx H' → ∃ m', m' < m ∧ W (i + 1) m' H') ∧ ∀ x H', J.yld i H x H' → gName j x (wipe σ [j]) H' fun σ2 H2 => wipe σ2 [j] = wipe σ [j] ∧ tYes σ2 H2 fun b H3 =>
        if b = true then te σ2 H3 fun y H4 => ∃ acc, H4 D = some (.lst acc) ∧ acc.length < sizeLine ∧ Nx (upd H4 D (.lst (acc ++ [y]))) else Nx H3) := by
  refine lc_it w (fun i H => Same Hb H ∧ ∃ ts : List Addr, H D = some (.lst (ts.map V.ref)) ∧ ts.length = i ∧ ∀ j t, ts[j]? = some t → H t = some (.tup [a j, b j]) ∧ Hb t = none) ⟨same_new nD (fun _ _ e => e), [], upd_same, rfl, fun j t h => by simp at h⟩ (fun i H _ p => hG H p.1) (fun i x H H' hi p hy => ?_) fun H ⟨p, ts, h1, h2, h3⟩ => hd H ts p h1 h2 h3
  obtain ⟨rfl, hy⟩ := hy
  obtain ⟨sm, ts, h1, h2, h3⟩ := p
  refine ⟨hw x, ?_⟩
  unfold tYes
  dsimp only
  rw [if_pos rfl]
  refine hs i x _ _ hi sm hy fun t nt => ?_
  have tD : D ≠ t := ne_of_none h1 nt
  refine ⟨_, by rw [upd_ne tD]; exact h1, ?_, ?_, ts ++ [t], ?_, ?_, ?_⟩
  · rw [List.length_map, h2, sizeLine_eq]
    omega
  · exact fun c u e => by
      rw [upd_ne (ne_of_none e nD), upd_ne (ne_of_none (sm c u e) nt)]
      exact sm c u e
  · rw [upd_same, List.map_append]
    rfl
  · rw [List.length_append, h2]
    rfl
  · intro k u hk
    by_cases hkl : k < ts.length
    · rw [List.getElem?_append_left hkl] at hk
      obtain ⟨e1, e2⟩ := h3 k u hk
      have uD : u ≠ D := fun z => by
        rw [z, h1] at e1
        cases e1
      exact ⟨by rw [upd_ne uD, upd_ne (ne_of_none e1 nt)]; exact e1, e2⟩
    · have hk2 : k = ts.length := by
        have := (List.getElem?_eq_some_iff.mp hk).1
        rw [List.length_append, List.length_cons, List.length_nil] at this
        omega
      subst hk2
      have : u = t := by
        rw [List.getElem?_append_right (Nat.le_refl _)] at hk
        simp at hk
        exact hk.symm
      subst this
      refine ⟨?_, ?_⟩
      · rw [upd_ne (Ne.symm tD), upd_same, h2]
      · cases e : Hb u with
        | none => rfl
        | some o =>
          have := sm u o e
          rw [nt] at this
          cases this
end Ver

namespace K10
open PySem PySem.Spec PyProof.Rows L2 Ver Num SX
/-! ### letters with costs -/
abbrev LC := List (Nat × Int)
structure LOk (L : LC) : Prop where
  pos : 1 ≤ L.length
  few : L.length ≤ 4
  asc : (L.map (·.1)).Pairwise (· < ·)
  rng : ∀ p ∈ L, 97 ≤ p.1 ∧ p.1 ≤ 122
  cost : ∀ p ∈ L, 1 ≤ p.2 ∧ p.2 ≤ 9
/-- letters -/
structure CsOk (cs : List Nat) : Prop where
  pos : 1 ≤ cs.length
  few : cs.length ≤ 4
  asc : cs.Pairwise (· < ·)
  rng : ∀ c ∈ cs, 97 ≤ c ∧ c ≤ 122
theorem LOk.cs {L : LC} (o : LOk L) : CsOk (L.map (·.1)) := ⟨by rw [List.length_map]; exact o.pos, by rw [List.length_map]; exact o.few, o.asc, fun c hc => by
  obtain ⟨p, hp, rfl⟩ := List.mem_map.mp hc
  exact o.rng p hp⟩
/-- the dict from letters to costs -/
abbrev dOf (L : LC) : List (Key × V) := L.map fun p => (Sum.inr (S [p.1]), V.int p.2)
/-- the value at a letter -/
theorem valV_mem : ∀ {L : LC}, (L.map (·.1)).Nodup → ∀ {p : Nat × Int}, p ∈ L → valV (dOf L) (.inr (S [p.1])) = some (.int p.2)
  | q :: L, nd, p, hp => by
    obtain ⟨n1, n2⟩ := List.nodup_cons.mp nd
    rcases List.mem_cons.mp hp with rfl | h
    · exact valV_pos rfl
    · refine (valV_neg fun z => ?_).trans (valV_mem n2 h)
      have e : S [q.1] = S [p.1] := Sum.inr.inj z
      have e2 : q.1 = p.1 := (List.cons.inj (S_inj e)).1
      exact n1 (List.mem_map.mpr ⟨p, h, e2.symm⟩)
theorem keys_dOf (L : LC) : ((dOf L).map fun kv => kV kv.1) = (ones (L.map (·.1))).map V.str := by
  rw [List.map_map, List.map_map, List.map_map]
  rfl
theorem valV_off : ∀ {L : LC} {c : Nat}, c ∉ L.map (·.1) → valV (dOf L) (.inr (S [c])) = none
  | [], _, _ => rfl
  | q :: L, c, h => by
    rw [List.map_cons, List.mem_cons, not_or] at h
    exact (valV_neg fun z => h.1 (List.cons.inj (S_inj (Sum.inr.inj z))).1.symm).trans (valV_off h.2)
theorem merge_fresh : ∀ (M L : LC), ((L ++ M).map (·.1)).Nodup → mergeK (dOf L) (dOf M) = dOf (L ++ M)
  | [], L, _ => by
    rw [List.append_nil]
    rfl
  | p :: M, L, nd => by
    have e : L ++ p :: M = (L ++ [p]) ++ M := by simp
    have hp : putK (dOf L) (.inr (S [p.1])) (.int p.2) = dOf (L ++ [p]) := by
      rw [putK_new _ ?_]
      · rw [dOf, dOf, List.map_append]
        rfl
      · refine valV_off fun z => ?_
        rw [List.map_append, List.map_cons, List.nodup_append] at nd
        exact nd.2.2 p.1 z p.1 List.mem_cons_self rfl
    show mergeK (putK (dOf L) (.inr (S [p.1])) (.int p.2)) (dOf M) = _
    rw [hp, e]
    exact merge_fresh M (L ++ [p]) (by rw [← e]; exact nd)
section
variable {P : Program} {w : World} {K : PySem.W.Frag} {mg : Str → Option Value} {base : Heap}
/-! ### _law_pick out of a text -/
def spPickS : Sp := fun vs H Q _ => ∃ (d : Addr) (k : Int) (cs : List Nat), vs = [.ref d, .str (S cs)] ∧ PenAt H d k ∧ k < 1000000000000 ∧ 0 < cs.length ∧ cs.length < 1000 ∧
  ∀ (c : Nat) (H' : Hp), c ∈ cs → But d H H' → PenAt H' d (k + 1) → Q (.str (S [c])) H'
theorem sl_of {n : Nat} (h : n ≤ 20000) : n ≤ sizeLine := by rw [sizeLine_eq]; omega
theorem ok_pickS (T : Tx K mg) : FnG P w K mg base CX0 2 (He.ga K "_law_pick") spPickS := by
  refine mk__law_pick T.d (fun vs H Q E h => ?_) (fun cdv A outer s H vs Q E hg hr h => ?_)
  · obtain ⟨d, k, cs, rfl, _⟩ := h
    rfl
  · obtain ⟨d, k, cs, rfl, pen, k9, l0, l9, q⟩ := h
    refine ⟨_, pss_one (ps_ret (pe_ix ix_str (pv 1) (pe_callG (ok_draw T) hr hg (by rfl) (T.g "_law_draw" (by decide +kernel)) (kp__law_draw T.d) pass0
      (pa_cons (pv 0) (pa_cons (pe_callB call_len_str (by rfl) (T.z "len" (by decide +kernel)) (by decide +kernel) (pa_cons (pv 1) pa_nil)) pa_nil))) (fun _ _ => rfl))), ?_⟩
    have ls := S_len cs
    have sl : (S cs).length ≤ sizeLine := by rw [ls]; exact sl_of (by omega)
    refine ⟨_, rfl, _, rfl, _, rfl, _, rfl, sl, d, k, _, rfl, pen, k9, by omega, by omega, fun i H1 bt pen1 i0 i1 => ?_⟩
    obtain ⟨j, rfl⟩ : ∃ j : Nat, i = (j : Int) := ⟨i.toNat, by omega⟩
    have jl : j < cs.length := by omega
    refine ⟨_, _, _, rfl, rfl, sl, ?_, q _ H1 (List.getElem_mem jl) bt pen1⟩
    rw [chars_S]
    exact atI_nat (List.getElem?_eq_getElem jl)
/-! ### _law_letters -/
def alpha : Str := "abcdefghijklmnopqrstuvwxyz"
theorem alpha_eq : alpha.cps.toList = (List.range 26).map (97 + ·) := by decide +kernel
theorem alpha_at {j : Nat} (h : j < 26) : atI alpha.cps.toList (j : Int) = some (97 + j) := by
  refine atI_nat ?_
  rw [alpha_eq, List.getElem?_map, List.getElem?_range h]
  rfl
def codeI (i : Int) : Nat := 97 + i.toNat
theorem cs_of {ns ms ms' : List Int} {i : Int} (pn : ns.Perm ((List.range 26).map fun i : Nat => (i : Int))) (i0 : 0 ≤ i) (i1 : i < 4) (em : ms = ns.take (1 + i).toNat) (pm : ms'.Perm ms) (srt : ms'.Pairwise (· ≤ ·)) :
    (∀ x ∈ ms', 0 ≤ x ∧ x < 26) ∧ ms'.length ≤ 4 ∧ CsOk (ms'.map codeI) := by
  have nl : ns.length = 26 := by rw [pn.length_eq, List.length_map, List.length_range]
  have ml : ms'.length = (1 + i).toNat := by
    rw [pm.length_eq, em, List.length_take]
    omega
  have rg : ∀ x ∈ ms', 0 ≤ x ∧ x < 26 := fun x hx => by
    have h := pm.mem_iff.mp hx
    rw [em] at h
    obtain ⟨j, hj, rfl⟩ := List.mem_map.mp (pn.mem_iff.mp (List.mem_of_mem_take h))
    have := List.mem_range.mp hj
    omega
  have nd0 : ((List.range 26).map fun i : Nat => (i : Int)).Nodup := by decide
  have nd : ms'.Nodup := by
    rw [pm.nodup_iff, em]
    exact (List.take_sublist _ _).nodup ((pn.nodup_iff).mpr nd0)
  refine ⟨rg, by omega, ⟨by rw [List.length_map]; omega, by rw [List.length_map]; omega, ?_, fun c hc => ?_⟩⟩
  · rw [List.pairwise_map]
    refine List.Pairwise.imp_of_mem (fun {a b} ha hb h => ?_) (srt.and nd)
    have h1 := rg a ha
    have h2 := rg b hb
    have h3 := h.1
    have h4 : a ≠ b := h.2
    unfold codeI
    omega
  · obtain ⟨x, hx, rfl⟩ := List.mem_map.mp hc
    have := rg x hx
    unfold codeI
    omega
def spLetters : Sp := fun vs H Q _ => ∃ (d : Addr) (k : Int), vs = [.ref d, .int 4] ∧ PenAt H d k ∧ k < 100000000 ∧
  ∀ (cs : List Nat) (H' : Hp), CsOk cs → But d H H' → PenAt H' d (k + 27) → Q (.str (S cs)) H'
theorem ok_letters (T : Tx K mg) : FnG P w K mg base CX0 3 (He.ga K "_law_letters") spLetters := by
  refine mk__law_letters T.d (fun vs H Q E h => ?_) (fun cdv A outer s H vs Q E hg hr h => ?_)
  · obtain ⟨d, k, rfl, _⟩ := h
    rfl
  · obtain ⟨d, k, rfl, pen, k9, q⟩ := h
    have nd := sc__law_letters.nd
    refine ⟨_, pss_cons (ps_set (i := 2) nd rfl (Or.inl rfl) (pe_callB cr_sorted (by rfl) (T.z "sorted" (by decide +kernel)) (by decide +kernel) (pa_cons
        (pe_slice sl_list (pe_callG (ok_shuf T) hr hg (by rfl) (T.g "_law_shuffled" (by decide +kernel)) (kp__law_shuffled T.d) pass0 (pa_cons (pv 0) (pa_cons (pe_listRg rfl (by rfl) (T.z "list" (by decide +kernel)) (prg_1 (by rfl) (T.z "range" (by decide +kernel)) pe_int)) pa_nil)))
          po_none (po_some (pe_op op_add pe_int (pe_callG (ok_draw T) (hr.mono (by decide)) hg (by rfl) (T.g "_law_draw" (by decide +kernel)) (kp__law_draw T.d) pass0 (pa_cons (pv 0) (pa_cons (pv 1) pa_nil)))))) pa_nil)))
      (pss_one (ps_ret (pe_join pe_str (pe_lc (own := [("_law_place", 3)]) (g := gName 3) (tt := tYes) rfl nd (pi_list (pv 2)) (blkOk_by (N := n__law_letters) (sc := defScope s__law_letters) (by decide +kernel)) (fun _ _ _ _ _ => pg_name (i := 3) nd rfl (Or.inl rfl)) (fun _ _ _ _ _ => pts_nil)
        (fun _ _ _ _ _ => pe_ix ix_str pe_str (pv 3) (fun _ _ => rfl)))))), ?_⟩
    have e26 : rgV 0 26 = ((List.range 26).map fun i : Nat => (i : Int)).map V.int := by
      unfold rgV
      rw [List.map_map]
      refine List.map_congr_left fun i _ => ?_
      show V.int (0 + (i : Int)) = V.int (i : Int)
      rw [Int.zero_add]
    have l26 : (rgV 0 26).length = 26 := by rw [rgV_length]; rfl
    refine ⟨_, rfl, 26, rfl, ⟨by decide, by decide, by decide, by decide, by decide⟩, fun q0 nq => ?_⟩
    have s1 := same_up (o := .lst (rgV 0 26)) nq
    refine ⟨d, q0, k, rgV 0 26, rfl, pen.same s1, by omega, SqL.of upd_same, by rw [e26]; exact flat_int _, by omega, fun p ys H1 pm hp bt1 pen1 => ?_⟩
    rw [l26] at pen1
    have pm' := pm
    rw [e26] at pm'
    obtain ⟨ns, rfl, pn⟩ := ints_perm pm'
    refine ⟨_, rfl, _, rfl, d, _, 4, rfl, pen1, by omega, by decide, by decide, fun i H2 bt2 pen2 i0 i1 => ?_⟩
    have hp2 := bt2.1 p _ hp (pen_ne pen1 hp)
    refine ⟨_, _, rfl, rfl, _, rfl, p, _, rfl, .inl (.inl hp2), fun r nr => ?_⟩
    have ec : cutV (ns.map V.int) none (some (1 + i)) = (ns.take (1 + i).toNat).map V.int := by
      have nl : ns.length = 26 := by rw [pn.length_eq, List.length_map, List.length_range]
      rw [cut_ints, HT.sIx_none, List.drop_zero, Nat.sub_zero]
      have e : HT.sIx ns.length ns.length (some (1 + i)) = (1 + i).toNat := by
        obtain ⟨j, hj⟩ : ∃ j : Nat, 1 + i = (j : Int) := ⟨(1 + i).toNat, by omega⟩
        rw [hj, HT.sIx_nat]
        omega
      rw [e]
    have s2 := same_up (o := .lst (cutV (ns.map V.int) none (some (1 + i)))) nr
    rw [ec] at s2 ⊢
    refine ⟨r, _, rfl, SqL.of upd_same, by rw [List.length_take]; omega, fun ms' p2 pm2 srt np2 => ?_⟩
    obtain ⟨rg, ml, co⟩ := cs_of pn i0 i1 rfl pm2 srt
    have s3 := same_up (o := .lst (ms'.map V.int)) np2
    refine ⟨⟨_, rfl⟩, _, rfl, p2, rfl, ⟨_, SqL.of upd_same⟩, fun D nD => lc_one wk_list (fun i => .str (S [codeI (ms'.getD i 0)])) nD (by rw [List.length_map]; omega) (fun H' s' => s'.seq (SqL.of upd_same)) (fun j x H' R hj s' hx hR => ?_) (fun H' s' hD => ?_)⟩
    · rw [List.getElem?_map] at hx
      cases hm : ms'[j]? with
      | none =>
        rw [hm] at hx
        cases hx
      | some m =>
        rw [hm] at hx
        cases hx
        have hmm := rg m (List.mem_of_getElem? hm)
        refine ⟨_, rfl, _, m, 97 + m.toNat, rfl, rfl, by decide, ?_, ?_⟩
        · obtain ⟨u, rfl⟩ : ∃ u : Nat, m = (u : Int) := ⟨m.toNat, by omega⟩
          exact alpha_at (by omega)
        · have e : ms'.getD j 0 = m := by
            rw [List.getD_eq_getElem?_getD, hm]
            rfl
          rw [e] at hR
          exact hR
    · have e : ((List.range (ms'.map V.int).length).map fun i => V.str (S [codeI (ms'.getD i 0)])) = (ones (ms'.map codeI)).map V.str := by
        rw [List.length_map, range_map ms' (fun m => V.str (S [codeI m])) _ fun i x hx => by rw [List.getD_eq_getElem?_getD, hx]; rfl]
        rw [List.map_map, List.map_map]
        rfl
      rw [e] at hD
      refine ⟨_, D, _, rfl, rfl, .inl (SqL.of hD), ?_, ?_⟩
      · rw [ones_len, List.length_map, List.length_map, List.length_map]
        rw [show ("" : Str).length = 0 from rfl, Nat.mul_zero]
        omega
      · rw [show ("" : Str) = S [] from rfl, Ver.join_ones]
        have bt := (((But.same s1).trans bt1).trans bt2).trans (But.same ((s2.trans s3).trans s'))
        exact q _ _ co bt ((pen2.same ((s2.trans s3).trans s')).mono (by omega))
/-! ### _law_costs, _law_lettered -/
theorem paired_snoc {α β : Type} {R : α → β → Prop} : ∀ {xs : List α} {ys : List β} {x : α} {y : β}, Paired R xs ys → R x y → Paired R (xs ++ [x]) (ys ++ [y])
  | [], _, _, _, .nil, h => .cons h .nil
  | _ :: _, _, _, _, .cons a r, h => .cons a (paired_snoc r h)
theorem paired_mono {α β : Type} {R R' : α → β → Prop} (hR : ∀ a b, R a b → R' a b) : ∀ {xs : List α} {ys : List β}, Paired R xs ys → Paired R' xs ys
  | [], _, .nil => .nil
  | _ :: _, _, .cons a r => .cons (hR _ _ a) (paired_mono hR r)
theorem dOf_snoc (L : LC) (p : Nat × Int) : dOf (L ++ [p]) = dOf L ++ [(Sum.inr (S [p.1]), V.int p.2)] := by
  rw [dOf, List.map_append]
  rfl
theorem But.keeps {d D : Addr} {H H' : Hp} {o : HO} (b : But d H H') (h : H D = some o) (ne : D ≠ d) : H' D = some o := b.1 D o h ne
def spCosts : Sp := fun vs H Q _ => ∃ (d : Addr) (k : Int) (cs : List Nat), vs = [.ref d, .str (S cs)] ∧ PenAt H d k ∧ k < 100000000 ∧ CsOk cs ∧
  ∀ (p : Addr) (L : LC) (H' : Hp), LOk L → H' p = some (.dK (dOf L)) → H p = none → But d H H' → PenAt H' d (k + 4) → Q (.ref p) H'
theorem ok_costs (T : Tx K mg) : FnG P w K mg base CX0 3 (He.ga K "_law_costs") spCosts := by
  refine mk__law_costs T.d (fun vs H Q E h => ?_) (fun cdv A outer s H vs Q E hg hr h => ?_)
  · obtain ⟨d, k, cs, rfl, _⟩ := h
    rfl
  · obtain ⟨d, k, cs, rfl, pen, k9, co, q⟩ := h
    have nd := sc__law_costs.nd
    refine ⟨_, pss_one (ps_ret (pe_callTy (call_dictP rfl) (by rfl) (T.z "dict" (by decide +kernel)) (by decide +kernel) (pa_cons
      (pe_lc (own := [("_law_letter", 2)]) (g := gName 2) (tt := tYes) rfl nd (pi_str (pv 1)) (blkOk_by (N := n__law_costs) (sc := defScope s__law_costs) (by decide +kernel)) (fun _ _ _ _ _ => pg_name (i := 2) nd rfl (Or.inl rfl)) (fun _ _ _ _ _ => pts_nil)
        (fun _ _ _ _ _ => pe_tup (pa_cons (pv 2) (pa_cons (pe_callG (ok_pick T) hr hg (by rfl) (T.g "_law_pick" (by decide +kernel)) (kp__law_pick T.d) pass0
          (pa_cons (pv 0) (pa_cons (pe_lst (pa_cons pe_int (pa_cons pe_int (pa_cons pe_int (pa_cons pe_int (pa_cons pe_int (pa_cons pe_int (pa_cons pe_int pa_nil)))))))) pa_nil))) pa_nil)))) pa_nil))), ?_⟩
    obtain ⟨c0, penC⟩ := pen.c
    obtain ⟨cells, b0, l0, hd, hc, _⟩ := id penC.ex
    have lcs : (S cs).cps.size = cs.length := by simp
    refine ⟨_, rfl, S cs, rfl, fun D nD => lc_it wk_str (fun i H' => ∃ (ps : List Addr) (L : LC), L.map (·.1) = cs.take i ∧ (∀ p ∈ L, 1 ≤ p.2 ∧ p.2 ≤ 9) ∧ H' D = some (.lst (ps.map V.ref)) ∧
      Paired (fun (t : Addr) (kv : Key × V) => H' t = some (.tup [kV kv.1, kv.2])) ps (dOf L) ∧ But d H H' ∧ PenC H' d c0 (k + (i : Int))) ?_ (fun _ _ _ _ => trivial) ?_ ?_⟩
    · have s1 := same_up (o := .lst []) nD
      exact ⟨[], [], by simp, fun _ h => (by cases h), upd_same, .nil, But.same s1, (penC.same s1).mono (by omega)⟩
    · rintro i x H1 H1' hi ⟨ps, L, e1, cst, hD, pr, bt, pc⟩ ⟨rfl, c, hcc, rfl⟩
      rw [lcs] at hi
      have dD : d ≠ D := ne_of_none hd nD
      have cD : c0 ≠ D := ne_of_none hc nD
      refine ⟨rfl, ?_⟩
      unfold tYes
      dsimp only
      rw [if_pos rfl]
      have pl : L.length = i := by
        have := congrArg List.length e1
        rw [List.length_map, List.length_take] at this
        omega
      have psl : ps.length = L.length := by
        have := pr.length
        rw [List.length_map] at this
        exact this
      refine ⟨_, rfl, _, rfl, by show 7 ≤ sizeLine; decide, fun l nl => ?_⟩
      have s1 := same_up (o := .lst [.int 1, .int 1, .int 1, .int 2, .int 2, .int 3, .int 9]) nl
      have pc1 := pc.same s1
      have few4 := co.few
      refine ⟨d, l, _, _, rfl, pc1.at_, by omega, upd_same, by show 0 < 7; decide, by show 7 < 1000; decide, fun y H2 hy bt2 pen2 => ?_⟩
      obtain ⟨v, rfl, v1, v9⟩ : ∃ v : Int, y = .int v ∧ 1 ≤ v ∧ v ≤ 9 := by
        simp only [List.mem_cons, List.not_mem_nil, or_false] at hy
        rcases hy with rfl | rfl | rfl | rfl | rfl | rfl | rfl <;> exact ⟨_, rfl, by decide, by decide⟩
      have pc2 := pc1.on bt2 pen2
      have hD2 : H2 D = some (.lst (ps.map V.ref)) := bt2.keeps (s1 _ _ hD) (Ne.symm dD)
      refine ⟨by show 2 ≤ sizeLine; decide, fun t nt => ⟨_, (same_up (o := .tup [.str ⟨#[c]⟩, .int v]) nt) _ _ hD2, ?_, ?_⟩⟩
      · rw [List.length_map, psl, pl, sizeLine_eq]
        omega
      · have s3 := same_up (o := .tup [.str ⟨#[c]⟩, .int v]) nt
        have tD : t ≠ D := fun z => by
          rw [z, hD2] at nt
          cases nt
        refine ⟨ps ++ [t], L ++ [(c, v)], ?_, ?_, ?_, ?_, ?_, ?_⟩
        · rw [List.map_append, e1]
          rw [← Array.getElem?_toList, chars_S] at hcc
          rw [List.take_add_one, hcc]
          rfl
        · intro p hp
          rcases List.mem_append.mp hp with h | h
          · exact cst p h
          · rw [List.mem_singleton.mp h]
            exact ⟨v1, v9⟩
        · rw [upd_same, List.map_append]
          rfl
        · rw [dOf_snoc]
          refine paired_snoc (paired_mono (fun a b h => ?_) pr) ?_
          · have ad : a ≠ d := fun z => by
              rw [z] at h
              obtain ⟨_, _, _, h2, _⟩ := pc.ex
              rw [h2] at h
              cases h
            have aD : a ≠ D := fun z => by
              rw [z, hD] at h
              cases h
            rw [upd_ne aD]
            exact s3 _ _ (bt2.keeps (s1 _ _ h) ad)
          · rw [upd_ne tD, upd_same]
            rfl
        · exact (((bt.trans (But.same s1)).trans bt2).trans (But.same s3)).up nD dD
        · exact ((pc2.same s3).up dD cD).mono (by omega)
    · rintro H1 ⟨ps, L, e1, cst, hD, pr, bt, pc⟩
      rw [lcs] at e1 pc
      rw [List.take_length] at e1
      have okL : LOk L := by
        have ll : L.length = cs.length := by
          have := congrArg List.length e1
          rwa [List.length_map] at this
        refine ⟨by rw [ll]; exact co.pos, by rw [ll]; exact co.few, by rw [e1]; exact co.asc, fun p hp => ?_, cst⟩
        exact co.rng p.1 (by rw [← e1]; exact List.mem_map.mpr ⟨p, hp, rfl⟩)
      refine ⟨D, ps, dOf L, rfl, SqL.of hD, paired_mono (fun a b h => SqT.of h) pr, fun p np => ?_⟩
      have mg0 : mergeK [] (dOf L) = dOf L := merge_fresh L [] (by rw [List.nil_append]; exact asc_nodup okL.asc)
      rw [mg0]
      have s4 := same_up (o := .dK (dOf L)) np
      have few4 := co.few
      refine q p L _ okL upd_same ?_ (bt.trans (But.same s4)) ((pc.same s4).at_.mono (by omega))
      cases hp : H p with
      | none => rfl
      | some o =>
        have pd : p ≠ d := fun z => by
          obtain ⟨_, _, _, h2, _⟩ := pc.ex
          rw [z, h2] at np
          cases np
        rw [bt.keeps hp pd] at np
        cases np
def spLettered : Sp := fun vs H Q _ => ∃ (d : Addr) (k : Int), vs = [.ref d, .int 4] ∧ PenAt H d k ∧ k < 10000000 ∧
  ∀ (p : Addr) (L : LC) (H' : Hp), LOk L → H' p = some (.dK (dOf L)) → But d H H' → PenAt H' d (k + 31) → H p = none → Q (.ref p) H'
theorem ok_lettered (T : Tx K mg) : FnG P w K mg base CX0 4 (He.ga K "_law_lettered") spLettered := by
  refine mk__law_lettered T.d (fun vs H Q E h => ?_) (fun cdv A outer s H vs Q E hg hr h => ?_)
  · obtain ⟨d, k, rfl, _⟩ := h
    rfl
  · obtain ⟨d, k, rfl, pen, k9, q⟩ := h
    refine ⟨_, pss_one (ps_ret (pe_callG (ok_costs T) hr hg (by rfl) (T.g "_law_costs" (by decide +kernel)) (kp__law_costs T.d) pass0
      (pa_cons (pv 0) (pa_cons (pe_callG (ok_letters T) hr hg (by rfl) (T.g "_law_letters" (by decide +kernel)) (kp__law_letters T.d) pass0 (pa_cons (pv 0) (pa_cons (pv 1) pa_nil))) pa_nil)))), ?_⟩
    refine ⟨_, rfl, _, rfl, _, rfl, d, k, rfl, pen, by omega, fun cs H1 co bt1 pen1 => ?_⟩
    refine ⟨d, _, cs, rfl, pen1, by omega, co, fun p L H2 ok hp np bt2 pen2 => q p L H2 ok hp (bt1.trans bt2) (pen2.mono (by omega)) ?_⟩
    cases e : H p with
    | none => rfl
    | some o =>
      have pd : p ≠ d := fun z => by
        obtain ⟨c, cells, b, l, h1, _⟩ := pen1.ex
        rw [z, h1] at np
        cases np
      rw [bt1.keeps e pd] at np
      cases np
end
end K10

namespace K10
open PySem PySem.Spec PyProof.Rows L2 Ver Num
section
variable {P : Program} {w : World} {K : PySem.W.Frag} {mg : Str → Option Value} {base : Heap}
/-- an int that is no bool -/
def isI : PyData → Bool
  | .int _ => true
  | _ => false
theorem isI_is (d : PyData) : (is_int d && !is_bool d) = isI d := by cases d <;> rfl
def spInt (K : PySem.W.Frag) : Sp := fun vs H Q _ => ∃ (x : V) (d : PyData), vs = [x] ∧ Do K H x d ∧ Q (.bl (isI d)) H
theorem ok_is_integer (T : Tx K mg) : FnG P w K mg base CX0 1 (He.ga K "is_integer") (spInt K) := by
  refine mk_is_integer T.d (fun vs H Q E h => ?_) (fun cdv A outer s H vs Q E hg hr h => ?_)
  · obtain ⟨x, d, rfl, _⟩ := h
    rfl
  · obtain ⟨x, d, rfl, hd, q⟩ := h
    have zi := T.z "isinstance" (by decide +kernel)
    rw [← isI_is] at q
    refine ⟨_, pss_one (ps_ret (pe_and (pe_callB call_isi (by rfl) zi (by decide +kernel) (pa_cons (pv 0) (pa_cons (pe_bltn (v := .ty "int") (by rfl) (T.z "int" (by decide +kernel)) (by decide +kernel) rfl) pa_nil)))
      (pe_one (pe_not (pe_callB call_isi (by rfl) zi (by decide +kernel) (pa_cons (pv 0) (pa_cons (pe_bltn (v := .ty "bool") (by rfl) (T.z "bool" (by decide +kernel)) (by decide +kernel) rfl) pa_nil))))))), ?_⟩
    refine ⟨_, rfl, _, _, _, _, _, rfl, .ty "int", hd.ty, kit_int d, _, rfl, ?_⟩
    cases e : is_int d with
    | false =>
      rw [e] at q
      exact ifF rfl q
    | true =>
      rw [e] at q
      exact ifT rfl ⟨_, rfl, _, _, _, _, _, rfl, .ty "bool", hd.ty, kit_bool d, _, rfl, q⟩
def btw (lo hi : Int) : PyData → Bool
  | .int i => decide (lo ≤ i) && decide (i ≤ hi)
  | _ => false
def spBtw (K : PySem.W.Frag) : Sp := fun vs H Q _ => ∃ (x : V) (d : PyData) (lo hi : Int), vs = [x, .int lo, .int hi] ∧ Do K H x d ∧ Q (.bl (btw lo hi d)) H
theorem btw_not {lo hi : Int} {d : PyData} (h : isI d = false) : btw lo hi d = false := by cases d <;> first | rfl | cases h
theorem ok_is_between (T : Tx K mg) : FnG P w K mg base CX0 2 (He.ga K "is_between") (spBtw K) := by
  refine mk_is_between T.d (fun vs H Q E h => ?_) (fun cdv A outer s H vs Q E hg hr h => ?_)
  · obtain ⟨x, d, lo, hi, rfl, _⟩ := h
    rfl
  · obtain ⟨x, d, lo, hi, rfl, hd, q⟩ := h
    refine ⟨_, pss_one (ps_ret (pe_and (pe_callG (ok_is_integer T) hr hg (by rfl) (T.g "is_integer" (by decide +kernel)) (kp_is_integer T.d) pass0 (pa_cons (pv 0) pa_nil))
      (pe_one (pe_chain op_le op_le (pv 1) (pv 0) (pv 2))))), ?_⟩
    refine ⟨_, rfl, x, d, rfl, hd, _, rfl, ?_⟩
    cases e : isI d with
    | false =>
      rw [btw_not e] at q
      exact ifF rfl q
    | true =>
      cases hd with
      | int i =>
        refine ifT rfl ⟨_, rfl, _, rfl, _, _, rfl, rfl, _, rfl, ?_⟩
        have q : Q (.bl (decide (lo ≤ i) && decide (i ≤ hi))) H := q
        by_cases h : lo ≤ i
        · rw [decide_eq_true h] at q
          exact ifT (decide_eq_true h) ⟨_, rfl, _, _, rfl, rfl, q⟩
        · rw [decide_eq_false h] at q
          exact ifF (decide_eq_false h) q
      | _ => cases e
end
end K10

namespace K10
open PySem PySem.Spec PyProof.Rows L2 Ver Num SX
section
variable {P : Program} {w : World} {K : PySem.W.Frag} {mg : Str → Option Value} {base : Heap}
/-! ### is_letters -/
theorem eqv_same {d : PyData} (h : d.plain = true) : PyData.eqv d d = true := SeqAt.eqv_refl_plain d h
def spIsL : Sp := fun vs H Q _ => ∃ cs : List Nat, vs = [.str (S cs)] ∧ CsOk cs ∧ ∀ H', Same H H' → Q (.bl true) H'
theorem sing_in {cs : List Nat} {j : Str} : (∃ c ∈ (S cs).cps.toList, j = PySem.Froz.sing c) ↔ j ∈ ones cs := by
  rw [chars_S, List.mem_map]
  exact ⟨fun ⟨c, hc, e⟩ => ⟨c, hc, e.symm⟩, fun ⟨c, hc, e⟩ => ⟨c, hc, e.symm⟩⟩
theorem one_lt {a b : Nat} : ([a] : List Nat) < [b] ↔ a < b := by
  rw [List.cons_lt_cons_iff]
  constructor
  · rintro (h | ⟨_, h⟩)
    · exact h
    · exact absurd h (List.not_lt_nil _)
  · exact .inl
theorem ones_nodup {cs : List Nat} (h : cs.Nodup) : (ones cs).Nodup := by
  rw [List.nodup_iff_pairwise_ne, List.pairwise_map]
  exact (List.nodup_iff_pairwise_ne.mp h).imp fun h e => h (List.cons.inj (S_inj e)).1
theorem ok_is_letters (T : Tx K mg) : FnG P w K mg base CX0 1 (He.ga K "is_letters") spIsL := by
  refine mk_is_letters T.d (fun vs H Q E h => ?_) (fun cdv A outer s H vs Q E hg hr h => ?_)
  · obtain ⟨cs, rfl, _⟩ := h
    rfl
  · obtain ⟨cs, rfl, co, q⟩ := h
    have nd := sc_is_letters.nd
    have hu := hr.units
    obtain ⟨tm, gm⟩ := T.ml
    refine ⟨_, pss_cons (ps_if (PW.pt (pw_or (pt_not (pt_val (pe_callB call_isi (by rfl) (T.z "isinstance" (by decide +kernel)) (by decide +kernel) (pa_cons (pv 0) (pa_cons (pe_bltn (v := .ty "str") (by rfl) (T.z "str" (by decide +kernel)) (by decide +kernel) rfl) pa_nil)))))
        (pw_or1 (pt_not (pt_chain op_le op_le pe_int (pe_callB call_len_str (by rfl) (T.z "len" (by decide +kernel)) (by decide +kernel) (pa_cons (pv 0) pa_nil)) (pe_glob (v := .int 4) (by rfl) gm ⟨_, rfl⟩)))))) (pss_one (ps_ret pe_bl)) pss_nil)
      (pss_one (ps_ret (pe_and (pe_cmpR (op_eqP T.sm hu) (pe_callTy (cr_listText rfl) (by rfl) (T.z "list" (by decide +kernel)) (by decide +kernel) (pa_cons (pv 0) pa_nil))
          (pe_callB (cr_sortedTx rfl) (by rfl) (T.z "sorted" (by decide +kernel)) (by decide +kernel) (pa_cons (pe_callTy (cr_setText rfl) (by rfl) (T.z "set" (by decide +kernel)) (by decide +kernel) (pa_cons (pv 0) pa_nil)) pa_nil)) (nomark _))
        (pe_one (pe_callB (cr_all rfl) (by rfl) (T.z "all" (by decide +kernel)) (by decide +kernel) (pa_cons
          (pe_lc (own := [("letter", 1)]) (g := gName 1) (tt := tYes) rfl nd (pi_str (pv 0)) (blkOk_by (N := n_is_letters) (sc := defScope s_is_letters) (by decide +kernel)) (fun _ _ _ _ _ => pg_name (i := 1) nd rfl (Or.inl rfl)) (fun _ _ _ _ _ => pts_nil)
            (fun _ _ _ _ _ => pe_chain op_le_str op_le_str pe_str (pv 1) pe_str)) pa_nil)))))), ?_⟩
    have ls := S_len cs
    have l1 := co.pos
    have l4 := co.few
    have sl : (S cs).length ≤ sizeLine := by rw [ls]; exact sl_of (by omega)
    have asz : (S cs).cps.size = cs.length := by simp
    have ascii : (S cs).cps.all (· < 128) = true := by
      rw [← Array.all_toList, chars_S, List.all_eq_true]
      intro c hc
      have := co.rng c hc
      exact decide_eq_true (by omega)
    have kS : PySem.W.kitOne K (.type "str") (.type "str") = some true := kit_str (.str (S cs))
    refine ⟨_, rfl, _, _, _, _, true, rfl, .ty "str", (Do.str (S cs) : Do K H _ _).ty, kS, _, rfl, ifF rfl ?_⟩
    refine ⟨_, rfl, _, rfl, sl, _, _, rfl, rfl, _, rfl, ?_⟩
    rw [ls]
    refine ifT (decide_eq_true (by omega)) ⟨_, _, rfl, rfl, _, rfl, ?_⟩
    rw [decide_eq_true (show (cs.length : Int) ≤ 4 by omega)]
    refine ifF rfl ?_
    refine ⟨_, rfl, S cs, rfl, by rw [asz]; omega, fun p np => ?_⟩
    have eL : ((S cs).cps.toList.map fun c => V.str ⟨#[c]⟩) = (ones cs).map V.str := by
      rw [chars_S, List.map_map]
      rfl
    rw [eL]
    have s1 := same_up (o := .lst ((ones cs).map V.str)) np
    refine ⟨_, rfl, S cs, rfl, ascii, by rw [asz]; unfold scanBound; omega, fun l g ndl ll hl ng => ?_⟩
    have s2 := same_up (o := SetTx P w g l) ng
    have pl : l.Perm (ones cs) := by
      refine perm_of_nodup (ones_nodup (asc_nodup co.asc)) (fun x hx => (hl x).mpr (sing_in.mpr hx)) ?_
      rw [List.length_map]
      rw [asz] at ll
      exact ll
    refine ⟨g, l, rfl, upd_same, by rw [asz] at ll; omega, fun ys p2 py srt np2 => ?_⟩
    have ey := ones_sorted (py.trans pl) srt co.asc
    rw [ey]
    have s3 := same_up (o := .lst ((ones cs).map V.str)) np2
    have fl := flat_str (ones cs)
    have dep := depth_flat fl
    have pln : (PyData.list (datL ((ones cs).map V.str))).plain = true := plain_flat fl
    refine ⟨.list (datL ((ones cs).map V.str)), .list (datL ((ones cs).map V.str)), .lst (SqL.of ((s2.trans s3) _ _ upd_same)) (do_flat fl), .lst (SqL.of upd_same) (do_flat fl), pln, pln, by simp only [PyData.depth]; omega, _, rfl, ?_⟩
    rw [eqv_same pln]
    refine ifT rfl ⟨_, rfl, S cs, rfl, fun D nD => lc_one wk_str (fun _ => .bl true) nD (by rw [asz]; omega) (fun _ _ => trivial) (fun j x H' R hj s' hx hR => ?_) (fun H' s' hD => ?_)⟩
    · obtain ⟨c, hc, rfl⟩ := hx
      rw [← Array.getElem?_toList, chars_S] at hc
      have rg := co.rng c (List.mem_of_getElem? hc)
      refine ⟨_, rfl, _, _, rfl, rfl, _, rfl, ?_⟩
      have h1 : (!decide ((⟨#[c]⟩ : Str).cps.toList < ("a" : Str).cps.toList)) = true := by
        have e : ("a" : Str).cps.toList = [97] := by decide +kernel
        rw [e, decide_eq_false (show ¬ ([c] : List Nat) < [97] from fun z => by have := one_lt.mp z; omega)]
        rfl
      refine ifT h1 ⟨_, _, rfl, rfl, ?_⟩
      have h2 : (!decide (("z" : Str).cps.toList < (⟨#[c]⟩ : Str).cps.toList)) = true := by
        have e : ("z" : Str).cps.toList = [122] := by decide +kernel
        rw [e, decide_eq_false (show ¬ ([122] : List Nat) < [c] from fun z => by have := one_lt.mp z; omega)]
        rfl
      rw [h2]
      exact hR
    · have e : ((List.range (S cs).cps.size).map fun _ => V.bl true) = (List.replicate cs.length true).map V.bl := by
        rw [asz, List.map_replicate, List.map_const', List.length_range]
      rw [e] at hD
      refine ⟨D, _, rfl, SqL.of hD, ?_⟩
      rw [show (List.replicate cs.length true).all id = true by simp]
      exact q H' (((s1.trans s2).trans s3).trans s')
end
end K10

namespace K10
open PySem PySem.Spec PyProof.Rows L2 Ver Num SX
section
variable {P : Program} {w : World} {K : PySem.W.Frag} {mg : Str → Option Value} {base : Heap}
/-! ### divisor_of, few_costs -/
def divN (ns : List Int) : Int := ns.foldl (fun a b => ((Nat.gcd a.natAbs b.natAbs : Nat) : Int)) 0
def spDiv (K : PySem.W.Frag) : Sp := fun vs H Q _ => ∃ (a : Addr) (ns : List Int), vs = [.ref a] ∧ SqL K H a (ns.map V.int) ∧ ∀ H', Same H H' → Q (.int (divN ns)) H'
theorem ok_div (T : Tx K mg) : FnG P w K mg base CX0 1 (He.ga K "divisor_of") (spDiv K) := by
  refine mk_divisor_of T.d (fun vs H Q E h => ?_) (fun cdv A outer s H vs Q E hg hr h => ?_)
  · obtain ⟨a, ns, rfl, _⟩ := h
    rfl
  · obtain ⟨a, ns, rfl, ha, q⟩ := h
    have nd := sc_divisor_of.nd
    refine ⟨_, pss_cons (ps_set (i := 1) nd rfl (Or.inl rfl) pe_int)
      (pss_cons (ps_for PassesOwn.never rfl (pi_list (pv 0)) (pg_name (i := 2) nd rfl (.inl rfl))
        (pss_one (ps_set (i := 1) nd rfl (Or.inl rfl) (pe_callBfun cr_gcd (by rfl) T.gcd (pa_cons (pv 1) (pa_cons (pv 2) pa_nil))))))
      (pss_one (ps_ret (pv 1)))), ?_⟩
    refine ⟨_, rfl, a, rfl, ⟨_, ha⟩, for_list (K := K) (a := a) (xs := ns.map V.int) (fun i σ H' => ∃ v : Option V, σ = [some (.ref a), some (.int (divN (ns.take i))), v] ∧ Same H H') ⟨none, rfl, Same.refl H⟩ (fun i σ H' _ ⟨_, _, sm⟩ => sm.seq ha) ?_ ?_⟩
    · rintro i x σ H' hx ⟨v, rfl, sm⟩
      rw [List.getElem?_map] at hx
      cases hn : ns[i]? with
      | none =>
        rw [hn] at hx
        cases hx
      | some n =>
        rw [hn] at hx
        cases hx
        refine ⟨_, rfl, _, rfl, _, _, rfl, ⟨some (.int n), ?_, sm⟩⟩
        have e : divN (ns.take (i + 1)) = ((Nat.gcd (divN (ns.take i)).natAbs n.natAbs : Nat) : Int) := by
          unfold divN
          rw [List.take_add_one, hn, List.foldl_append]
          rfl
        rw [e]
        rfl
    · rintro σ H' ⟨v, rfl, sm⟩
      refine ⟨_, rfl, ?_⟩
      rw [List.length_map, List.take_length]
      exact q H' sm
/-- which of the costs up to n are sums of steps -/
def fewL (st : List Int) : Nat → List Bool
  | 0 => [true]
  | n + 1 => fewL st n ++ [st.any fun s => decide (s ≤ ((n + 1 : Nat) : Int)) && (fewL st n).getD (((n + 1 : Nat) : Int) - s).toNat false]
theorem fewL_len (st : List Int) : ∀ n, (fewL st n).length = n + 1
  | 0 => rfl
  | n + 1 => by
    show (fewL st n ++ [_]).length = _
    rw [List.length_append, fewL_len st n]
    rfl
def spFew (K : PySem.W.Frag) : Sp := fun vs H Q _ => ∃ (a : Addr) (st : List Int), vs = [.ref a] ∧ SqL K H a (st.map V.int) ∧ (∀ s ∈ st, 1 ≤ s) ∧ st.length ≤ 10 ∧
  ∀ (p : Addr) (H' : Hp), Same H H' → H' p = some (.lst ((fewL st 55).map V.bl)) → H p = none → Q (.ref p) H'
theorem ok_few (T : Tx K mg) : FnG P w K mg base CX0 1 (He.ga K "few_costs") (spFew K) := by
  refine mk_few_costs T.d (fun vs H Q E h => ?_) (fun cdv A outer s H vs Q E hg hr h => ?_)
  · obtain ⟨a, st, rfl, _⟩ := h
    rfl
  · obtain ⟨a, st, rfl, ha, pos, l10, q⟩ := h
    have nd := sc_few_costs.nd
    obtain ⟨ts, gs⟩ := T.st
    refine ⟨_, pss_cons (ps_set (i := 1) nd rfl (Or.inr rfl) (pe_lst (pa_cons pe_bl pa_nil)))
      (pss_cons (ps_for PassesOwn.never rfl (pi_range2 (by rfl) (T.z "range" (by decide +kernel)) (pa_cons pe_int (pa_cons (pe_glob (v := .int 56) (by rfl) gs ⟨_, rfl⟩) pa_nil))) (pg_name (i := 2) nd rfl (.inr rfl))
        (pss_one (ps_expr (pe_bm PySem.F.plainAttrs_list PySem.F.slot_list_append PySem.F.type_list_append mt_append (pv 1) (pa_cons
          (pe_callB (cr_any rfl) (by rfl) (T.z "any" (by decide +kernel)) (by decide +kernel) (pa_cons
            (pe_lc (own := [("step", 3)]) (g := gName 3) (tt := tYes) rfl nd (pi_list (pv 0)) (blkOk_by (N := n_few_costs) (sc := defScope s_few_costs) (by decide +kernel)) (fun _ _ _ _ _ => pg_name (i := 3) nd rfl (Or.inl rfl)) (fun _ _ _ _ _ => pts_nil)
              (fun _ _ _ _ _ => pe_and (pe_cmpR op_le (pv 3) (pv 2) (nomark _)) (pe_one (pe_ix (r := rIxL K) ix_list (pv 1) (pe_op op_sub (pv 2) (pv 3)) (fun _ _ => rfl))))) pa_nil)) pa_nil)))))
      (pss_one (ps_ret (pv 1)))), ?_⟩
    refine ⟨by show 1 ≤ sizeLine; decide, fun p np => ?_⟩
    have s1 := same_up (o := .lst [.bl true]) np
    refine ⟨1, 56, rfl, ⟨by decide, by decide, by decide, by decide⟩, for_range (lo := 1) (n := 55) (fun i σ H' => ∃ v2 : Option V, σ = [some (.ref a), some (.ref p), v2, none] ∧ Same H H' ∧ H' p = some (.lst ((fewL st i).map V.bl))) ⟨none, rfl, s1, upd_same⟩ ?_ ?_⟩
    · rintro i σ H' hi ⟨v2, rfl, sm, hp⟩
      have hi : i < 55 := hi
      refine ⟨_, rfl, .inl ⟨rfl, _, SqL.of hp⟩, ?_⟩
      have ap : SqL K H' a (st.map V.int) := sm.seq ha
      refine ⟨_, rfl, a, rfl, ⟨_, ap⟩, fun D nD => lc_one wk_list (fun j => .bl (decide (st.getD j 0 ≤ ((i + 1 : Nat) : Int)) && (fewL st i).getD (((i + 1 : Nat) : Int) - st.getD j 0).toNat false)) nD (by rw [List.length_map]; omega) (fun H2 s2 => s2.seq ap) (fun j x H2 R hj s2 hx hR => ?_) (fun H2 s2 hD => ?_)⟩
      · rw [List.getElem?_map] at hx
        cases hn : st[j]? with
        | none =>
          rw [hn] at hx
          cases hx
        | some n =>
          rw [hn] at hx
          cases hx
          have en : st.getD j 0 = n := by
            rw [List.getD_eq_getElem?_getD, hn]
            rfl
          rw [en] at hR
          have n1 := pos n (List.mem_of_getElem? hn)
          have ei : (1 : Int) + (i : Int) = ((i + 1 : Nat) : Int) := by omega
          refine ⟨_, rfl, _, rfl, _, _, rfl, rfl, _, rfl, ?_⟩
          rw [ei]
          by_cases hle : n ≤ ((i + 1 : Nat) : Int)
          · rw [decide_eq_true hle] at hR ⊢
            refine ifT rfl ⟨_, rfl, _, rfl, _, rfl, _, _, rfl, rfl, ?_⟩
            obtain ⟨u, hu⟩ : ∃ u : Nat, ((i + 1 : Nat) : Int) - n = (u : Int) := ⟨(((i + 1 : Nat) : Int) - n).toNat, by omega⟩
            have ul : u < (fewL st i).length := by
              rw [fewL_len]
              omega
            dsimp only
            rw [hu]
            rw [hu, Int.toNat_natCast, Bool.true_and, List.getD_eq_getElem?_getD, List.getElem?_eq_getElem ul] at hR
            refine ⟨p, _, _, _, rfl, rfl, SqL.of (s2 _ _ hp), atI_nat (by rw [List.getElem?_map, List.getElem?_eq_getElem ul]; rfl), hR⟩
          · rw [decide_eq_false hle] at hR ⊢
            exact ifF rfl hR
      · have e : ((List.range (st.map V.int).length).map fun j => V.bl (decide (st.getD j 0 ≤ ((i + 1 : Nat) : Int)) && (fewL st i).getD (((i + 1 : Nat) : Int) - st.getD j 0).toNat false)) =
            (st.map fun s => decide (s ≤ ((i + 1 : Nat) : Int)) && (fewL st i).getD (((i + 1 : Nat) : Int) - s).toNat false).map V.bl := by
          rw [List.length_map, range_map st (fun s => V.bl (decide (s ≤ ((i + 1 : Nat) : Int)) && (fewL st i).getD (((i + 1 : Nat) : Int) - s).toNat false)) _ fun i x hx => by rw [List.getD_eq_getElem?_getD, hx]; rfl]
          rw [List.map_map]
          rfl
        rw [e] at hD
        refine ⟨D, _, rfl, SqL.of hD, ?_⟩
        have hp2 := s2 _ _ hp
        refine ⟨p, _, _, rfl, rfl, hp2, by rw [List.length_map, fewL_len, sizeLine_eq]; omega, _, rfl, ?_, ?_⟩
        · exact same_new np (sm.trans s2)
        · rw [upd_same, List.any_map]
          show some (HO.lst _) = some (HO.lst ((fewL st i ++ [_]).map V.bl))
          rw [List.map_append]
          rfl
    · rintro σ H' ⟨v2, rfl, sm, hp⟩
      exact ⟨_, rfl, q p H' sm hp np⟩
end
end K10

namespace K10
open PySem PySem.Spec PyProof.Rows L2 Ver Num SX
/-! ### orders -/
def costOf (M : LC) (c : Nat) : Int := match valV (dOf M) (.inr (S [c])) with
  | some (.int i) => i
  | _ => 1
abbrev withC (cs : List Nat) (M : LC) : LC := cs.map fun c => (c, costOf M c)
/-- the order at o -/
structure OrdAt (K : PySem.W.Frag) (H : Hp) (o : Addr) (L : LC) : Prop where
  ok : LOk L
  ex : ∃ dx dc fw, H o = some (.ins (OC K) dx [("_letters", .str (S (L.map (·.1)))), ("_costs", .ref dc), ("_divisor", .int (divN (L.map (·.2)))), ("_few", .ref fw)]) ∧ H dc = some (.dK (dOf L)) ∧
    H fw = some (.lst ((fewL (L.map (·.2)) 55).map V.bl))
theorem OrdAt.same {K : PySem.W.Frag} {H H' : Hp} {o : Addr} {L : LC} (h : OrdAt K H o L) (s : Same H H') : OrdAt K H' o L := ⟨h.ok, by
  obtain ⟨dx, dc, fw, h1, h2, h3⟩ := h.ex
  exact ⟨dx, dc, fw, s _ _ h1, s _ _ h2, s _ _ h3⟩⟩
theorem costOf_mem {M : LC} (nd : (M.map (·.1)).Nodup) {p : Nat × Int} (hp : p ∈ M) : costOf M p.1 = p.2 := by
  unfold costOf
  rw [valV_mem nd hp]
theorem costOf_rng {M : LC} (nd : (M.map (·.1)).Nodup) (h : ∀ p ∈ M, 1 ≤ p.2 ∧ p.2 ≤ 9) (c : Nat) : 1 ≤ costOf M c ∧ costOf M c ≤ 9 := by
  by_cases hc : c ∈ M.map (·.1)
  · obtain ⟨p, hp, rfl⟩ := List.mem_map.mp hc
    rw [costOf_mem nd hp]
    exact h p hp
  · unfold costOf
    rw [valV_off hc]
    exact ⟨by decide, by decide⟩
theorem val_int : ∀ {M : LC} {k : Key} {v : V}, valV (dOf M) k = some v → ∃ i, v = .int i
  | [], _, _, e => by cases e
  | p :: M, k, v, e => by
    by_cases h : (Sum.inr (S [p.1]) : Key) = k
    · have e2 : valV (dOf (p :: M)) k = some (.int p.2) := valV_pos h
      rw [e2] at e
      cases e
      exact ⟨_, rfl⟩
    · have e2 : valV (dOf (p :: M)) k = valV (dOf M) k := valV_neg h
      rw [e2] at e
      exact val_int e
theorem getD_cost {M : LC} (c : Nat) : (valV (dOf M) (.inr (S [c]))).getD (.int 1) = .int (costOf M c) := by
  unfold costOf
  cases e : valV (dOf M) (.inr (S [c])) with
  | none => rfl
  | some v =>
    obtain ⟨i, rfl⟩ := val_int e
    rfl
theorem nodup_len {α : Type} [BEq α] [LawfulBEq α] : ∀ {l m : List α}, l.Nodup → (∀ x ∈ l, x ∈ m) → l.length ≤ m.length
  | [], m, _, _ => Nat.zero_le _
  | x :: l, m, nd, hs => by
    obtain ⟨h1, h2⟩ := List.nodup_cons.mp nd
    have hx : x ∈ m := hs x List.mem_cons_self
    have e := List.length_erase_of_mem hx
    have hp : 0 < m.length := List.length_pos_of_mem hx
    have ih := nodup_len (l := l) (m := m.erase x) h2 fun y hy => (List.mem_erase_of_ne (show y ≠ x from fun z => h1 (z ▸ hy))).mpr (hs y (List.mem_cons_of_mem _ hy))
    rw [List.length_cons]
    omega
section
variable {P : Program} {w : World} {K : PySem.W.Frag} {mg : Str → Option Value} {base : Heap}
/-! ### Order.__init__ -/
abbrev kwOf (M : LC) : List (Str × V) := M.map fun p => (S [p.1], V.int p.2)
theorem kw_dOf (M : LC) : (kwOf M).map (fun q => ((Sum.inr q.1 : Key), q.2)) = dOf M := by
  rw [List.map_map]
  rfl
structure InitOk (cs : List Nat) (M : LC) : Prop where
  lt : CsOk cs
  nd : (M.map (·.1)).Nodup
  mem : ∀ p ∈ M, p.1 ∈ cs
  rng : ∀ p ∈ M, 1 ≤ p.2 ∧ p.2 ≤ 9
theorem InitOk.few {cs : List Nat} {M : LC} (o : InitOk cs M) : M.length ≤ 4 := by
  have h : (M.map (·.1)).length ≤ cs.length := by
    have sub : ∀ x ∈ M.map (·.1), x ∈ cs := fun x hx => by
      obtain ⟨p, hp, rfl⟩ := List.mem_map.mp hx
      exact o.mem p hp
    exact nodup_len o.nd sub
  rw [List.length_map] at h
  exact Nat.le_trans h o.lt.few
theorem InitOk.lok {cs : List Nat} {M : LC} (o : InitOk cs M) : LOk (withC cs M) := by
  have e : (withC cs M).map (·.1) = cs := by
    rw [List.map_map]
    exact List.map_id cs
  refine ⟨by rw [List.length_map]; exact o.lt.pos, by rw [List.length_map]; exact o.lt.few, by rw [e]; exact o.lt.asc, fun p hp => ?_, fun p hp => ?_⟩
  · obtain ⟨c, hc, rfl⟩ := List.mem_map.mp hp
    exact o.lt.rng c hc
  · obtain ⟨c, hc, rfl⟩ := List.mem_map.mp hp
    exact costOf_rng o.nd o.rng c
/-- all but what stands at o is kept -/
def Off (o : Addr) (H H' : Hp) : Prop := ∀ b u, H b = some u → b ≠ o → H' b = some u
theorem Off.same {o : Addr} {H H' : Hp} (s : Same H H') : Off o H H' := fun b u e _ => s b u e
theorem Off.trans {o : Addr} {H H1 H2 : Hp} (a : Off o H H1) (b : Off o H1 H2) : Off o H H2 := fun c u e n => b c u (a c u e n) n
theorem Off.up {o : Addr} {H : Hp} {u : HO} : Off o H (upd H o u) := fun b x e n => by
  rw [upd_ne n]
  exact e
def bodyInit (K : PySem.W.Frag) : Sp := fun vs H Q _ => ∃ (o dx p : Addr) (cs : List Nat) (M : LC), vs = [.ref o, .str (S cs), .ref p] ∧ InitOk cs M ∧ H o = some (.ins (OC K) dx []) ∧ H p = some (.dK (dOf M)) ∧
  ∀ H', Off o H H' → OrdAt K H' o (withC cs M) → Q .non H'
theorem init_body (T : Tx K mg) (cdv : Value) (A : Around) (outer : List Env) (s : Shared) (H : Hp) (vs : List V) (Q : VK) (E : XK) (hg : A.guards = some []) (hr : Room 2 (A.deeper (envOfC "Order.__init__" (defScope s_Order___init__) s.heap.objs.size (He.ma K (He.ga K "Order") "__init__") cdv)))
    (h : bodyInit K vs H Q E) : ∃ t, PSs (cxOf CX0 P w K mg base n_Order___init__ "Order.__init__" (defScope s_Order___init__) (He.ma K (He.ga K "Order") "__init__") cdv A outer s H E).nox (defBody s_Order___init__) t ∧
      t { nx := fun _ H' => Q .non H', rt := Q } (start n_Order___init__ vs) H := by
  obtain ⟨o, dx, p, cs, M, rfl, ok, ho, hp, q⟩ := h
  have nd := sc_Order___init__.nd
  have hu := hu_of hr
  obtain ⟨tg, gg⟩ := T.gc
  have zl := T.z "list" (by decide +kernel)
  have bl : bootBuiltins "list" = some (.type "list") := by decide +kernel
  refine ⟨_, pss_cons (ps_if (pt_not (pt_val (pe_callG (ok_is_letters T) (hr.mono (by decide)) hg (by rfl) (T.g "is_letters" (by decide +kernel)) (kp_is_letters T.d) pass0 (pa_cons (pv 1) pa_nil)))) pss_never pss_nil)
    (pss_cons (ps_for PassesOwn.never rfl (pi_list (pe_callB cr_sortedS (by rfl) (T.z "sorted" (by decide +kernel)) (by decide +kernel) (pa_cons (pe_callTy (call_list_dK rfl) (by rfl) zl bl (pa_cons (pv 2) pa_nil)) pa_nil))) (pg_name (i := 3) nd rfl (.inl rfl))
      (pss_one (ps_if (PW.pt (pw_or (pt_cmpR op_notIn_seq (pv 3) (pe_callTy (cr_listText rfl) (by rfl) zl bl (pa_cons (pv 1) pa_nil)) (by rfl))
        (pw_or1 (pt_not (pt_val (pe_callG (ok_is_between T) hr hg (by rfl) (T.g "is_between" (by decide +kernel)) (kp_is_between T.d) pass0 (pa_cons (pe_dget hu (pv 2) (pv 3) (fun _ _ => rfl)) (pa_cons pe_int (pa_cons (pe_glob (v := .int 9) (by rfl) gg ⟨_, rfl⟩) pa_nil))))))))) pss_never pss_nil)))
    (pss_cons (ps_fld (pv 0) (pv 1) rfl)
    (pss_cons (ps_fld (pv 0) (pe_dc (own := [("letter", 4)]) (g := gName 4) (tt := tYes) rfl nd (pi_str (pv 1)) (blkOk_by (N := n_Order___init__) (sc := defScope s_Order___init__) (by decide +kernel)) (fun _ _ _ _ _ => pg_name (i := 4) nd rfl (Or.inl rfl)) (fun _ _ _ _ _ => pts_nil)
      (fun _ _ _ _ _ => pv 4) (fun _ _ _ _ _ => pe_dget2 hu (pv 2) (pv 4) pe_int ⟨rfl, rfl, rfl, rfl⟩)) rfl)
    (pss_cons (ps_fld (pv 0) (pe_callG (ok_div T) (hr.mono (by decide)) hg (by rfl) (T.g "divisor_of" (by decide +kernel)) (kp_divisor_of T.d) pass0 (pa_cons (pe_listVals rfl (pe_fld (pv 0) rfl) (by rfl) zl bl) pa_nil)) rfl)
    (pss_one (ps_fld (pv 0) (pe_callG (ok_few T) (hr.mono (by decide)) hg (by rfl) (T.g "few_costs" (by decide +kernel)) (kp_few_costs T.d) pass0 (pa_cons (pe_listVals rfl (pe_fld (pv 0) rfl) (by rfl) zl bl) pa_nil)) rfl))))))
    , ?_⟩
  have ls := S_len cs
  have l1 := ok.lt.pos
  have l4 := ok.lt.few
  have m4 := ok.few
  have asz : (S cs).cps.size = cs.length := by simp
  have eL : ((S cs).cps.toList.map fun c => V.str ⟨#[c]⟩) = (ones cs).map V.str := by
    rw [chars_S, List.map_map]
    rfl
  refine ⟨_, rfl, cs, rfl, ok.lt, fun H1 s1 => ⟨_, rfl, ifF rfl ?_⟩⟩
  refine ⟨_, rfl, p, dOf M, rfl, s1 _ _ hp, fun a1 n1 => ?_⟩
  rw [keys_dOf]
  have s2 := same_up (o := .lst ((ones (M.map (·.1))).map V.str)) n1
  refine ⟨a1, _, rfl, SqL.of upd_same, by rw [List.length_map, List.length_map]; omega, fun ys a2 py srt n2 => ?_⟩
  have s3 := same_up (o := .lst (ys.map V.str)) n2
  have s13 := (s1.trans s2).trans s3
  refine ⟨a2, rfl, ⟨_, SqL.of upd_same⟩, for_list (K := K) (a := a2) (xs := ys.map V.str) (fun i σ H' => ∃ v : Option V, σ = [some (.ref o), some (.str (S cs)), some (.ref p), v, none] ∧ Same H H' ∧ H' a2 = some (.lst (ys.map V.str))) ⟨none, rfl, s13, upd_same⟩ (fun i σ H' _ ⟨_, _, _, h⟩ => SqL.of h) ?_ ?_⟩
  · rintro i x σ H' hx ⟨v, rfl, sm, hl⟩
    rw [List.getElem?_map] at hx
    cases hn : ys[i]? with
    | none =>
      rw [hn] at hx
      cases hx
    | some y =>
      rw [hn] at hx
      cases hx
      obtain ⟨c, hc, rfl⟩ := List.mem_map.mp (py.mem_iff.mp (List.mem_of_getElem? hn))
      obtain ⟨pc, hpc, rfl⟩ := List.mem_map.mp hc
      have hcs := ok.mem pc hpc
      have hrg := ok.rng pc hpc
      refine ⟨_, rfl, _, rfl, S cs, rfl, by rw [asz]; omega, fun l nl => ?_⟩
      rw [eL]
      have s4 := same_up (o := .lst ((ones cs).map V.str)) nl
      refine ⟨l, _, rfl, .inl (SqL.of upd_same), rfl, ?_, _, rfl, ?_⟩
      · rw [List.all_map, List.all_eq_true]
        exact fun _ _ => rfl
      · have hin : inV (V.str (S [pc.1])) ((ones cs).map V.str) = true := by
          refine List.any_eq_true.mpr ⟨V.str (S [pc.1]), List.mem_map.mpr ⟨_, List.mem_map.mpr ⟨pc.1, hcs, rfl⟩, rfl⟩, ?_⟩
          show (S [pc.1] == S [pc.1]) = true
          exact beq_self_eq_true _
        refine ifF (by show (!inV _ _) = false; rw [hin]; rfl) ?_
        have hp4 := s4 _ _ (sm _ _ hp)
        have hv := DGet.k (k := Sum.inr (S [pc.1])) hp4
        rw [valV_mem ok.nd hpc] at hv
        refine ⟨_, rfl, _, rfl, p, _, rfl, hv, _, _, 1, 9, rfl, .int pc.2, ?_⟩
        have hb : btw 1 9 (.int pc.2) = true := by
          show (decide (1 ≤ pc.2) && decide (pc.2 ≤ 9)) = true
          rw [decide_eq_true hrg.1, decide_eq_true hrg.2]
          rfl
        rw [hb]
        exact ⟨_, rfl, ifF rfl ⟨_, rfl, sm.trans s4, s4 _ _ hl⟩⟩
  · rintro σ H2 ⟨v, rfl, sm, _⟩
    have ho2 := sm _ _ ho
    have hp2 := sm _ _ hp
    have po : p ≠ o := ne_of hp ho (by intro z; cases z)
    have nf : ∀ f ∈ ofs, NoAttr K (OC K) f := T.o.na
    -- _letters
    refine ⟨_, rfl, _, rfl, o, _, dx, _, rfl, ho2, T.o.cl, nf _ (by decide +kernel), by show 0 < 1000; decide, ?_⟩
    -- _costs
    generalize hHb : upd H2 o (.ins (OC K) dx (putF "_letters" (.str (S cs)) [])) = Hb at *
    have off1 : Off o H Hb := (Off.same sm).trans (by rw [← hHb]; exact Off.up)
    have hpb : Hb p = some (.dK (dOf M)) := off1 _ _ hp po
    have hob : Hb o = some (.ins (OC K) dx [("_letters", .str (S cs))]) := by rw [← hHb, upd_same]; rfl
    have inj : ∀ a b, a < (S cs).cps.size → b < (S cs).cps.size → (Sum.inr (S [cs.getD a 0]) : Key) = .inr (S [cs.getD b 0]) → a = b := fun a b ha hb e => by
      rw [asz] at ha hb
      have e2 : cs.getD a 0 = cs.getD b 0 := (List.cons.inj (S_inj (Sum.inr.inj e))).1
      rw [List.getD_eq_getElem?_getD, List.getD_eq_getElem?_getD, List.getElem?_eq_getElem ha, List.getElem?_eq_getElem hb] at e2
      exact (List.getElem_inj (asc_nodup ok.lt.asc)).mp e2
    refine ⟨_, rfl, S cs, rfl, fun D nD => dc_one wk_str (fun i => .inr (S [cs.getD i 0])) (fun i => .int (costOf M (cs.getD i 0))) inj nD (by rw [asz]; omega) (fun _ _ => trivial) (fun j x H' R hj s' hx hR => ?_) (fun j x H' R hj s' hx hR => ?_) (fun H3 s3b hD => ?_)⟩
    · obtain ⟨c, hc, rfl⟩ := hx
      rw [← Array.getElem?_toList, chars_S] at hc
      have e : cs.getD j 0 = c := by rw [List.getD_eq_getElem?_getD, hc]; rfl
      rw [e] at hR
      exact ⟨_, rfl, hR⟩
    · obtain ⟨c, hc, rfl⟩ := hx
      rw [← Array.getElem?_toList, chars_S] at hc
      have e : cs.getD j 0 = c := by rw [List.getD_eq_getElem?_getD, hc]; rfl
      rw [e, ← getD_cost] at hR
      exact ⟨_, rfl, p, rfl, .inl ⟨_, .inl (s' _ _ hpb)⟩, _, rfl, _, DGet.k (k := Sum.inr (S [c])) (s' _ _ hpb), hR⟩
    · have eD : ((List.range (S cs).cps.size).map fun i => ((.inr (S [cs.getD i 0]) : Key), V.int (costOf M (cs.getD i 0)))) = dOf (withC cs M) := by
        rw [asz, range_map cs (fun c => ((.inr (S [c]) : Key), V.int (costOf M c))) _ fun i x hx => by rw [List.getD_eq_getElem?_getD, hx]; rfl]
        rw [dOf, List.map_map]
        rfl
      rw [eD] at hD
      have oD : o ≠ D := ne_of_none hob nD
      have Do : D ≠ o := Ne.symm oD
      refine ⟨_, rfl, o, _, dx, _, rfl, s3b _ _ hob, T.o.cl, nf _ (by decide +kernel), by show 1 < 1000; decide, ?_⟩
      generalize hH4 : upd H3 o (.ins (OC K) dx (putF "_costs" (.ref D) [("_letters", .str (S cs))])) = H4 at *
      have off4 : Off o H H4 := (off1.trans (Off.same s3b)).trans (by rw [← hH4]; exact Off.up)
      have ho4 : H4 o = some (.ins (OC K) dx [("_letters", .str (S cs)), ("_costs", .ref D)]) := by rw [← hH4, upd_same]; rfl
      have hD4 : H4 D = some (.dK (dOf (withC cs M))) := by rw [← hH4, upd_ne Do]; exact hD
      have ev : ((dOf (withC cs M)).map (·.2)) = ((withC cs M).map (·.2)).map V.int := by
        rw [List.map_map, List.map_map, List.map_map, List.map_map]
        rfl
      -- _divisor
      refine ⟨_, rfl, o, _, dx, _, _, rfl, ho4, T.o.cl, nf _ (by decide +kernel), rfl, D, _, rfl, hD4, fun q1 nq1 => ?_⟩
      rw [ev]
      have s5 := same_up (o := .lst (((withC cs M).map (·.2)).map V.int)) nq1
      refine ⟨q1, _, rfl, SqL.of upd_same, fun H5 s5' => ?_⟩
      have s45 := s5.trans s5'
      refine ⟨_, rfl, o, _, dx, _, rfl, s45 _ _ ho4, T.o.cl, nf _ (by decide +kernel), by show 2 < 1000; decide, ?_⟩
      generalize hH6 : upd H5 o (.ins (OC K) dx (putF "_divisor" (.int (divN ((withC cs M).map (·.2)))) [("_letters", .str (S cs)), ("_costs", .ref D)])) = H6 at *
      have off6 : Off o H H6 := (off4.trans (Off.same s45)).trans (by rw [← hH6]; exact Off.up)
      have ho6 : H6 o = some (.ins (OC K) dx [("_letters", .str (S cs)), ("_costs", .ref D), ("_divisor", .int (divN ((withC cs M).map (·.2))))]) := by rw [← hH6, upd_same]; rfl
      have hD6 : H6 D = some (.dK (dOf (withC cs M))) := by rw [← hH6, upd_ne Do]; exact s45 _ _ hD4
      -- _few
      refine ⟨_, rfl, o, _, dx, _, _, rfl, ho6, T.o.cl, nf _ (by decide +kernel), rfl, D, _, rfl, hD6, fun q2 nq2 => ?_⟩
      rw [ev]
      have s7 := same_up (o := .lst (((withC cs M).map (·.2)).map V.int)) nq2
      have lo := ok.lok
      refine ⟨q2, _, rfl, SqL.of upd_same, fun s hs => ?_, by rw [List.length_map, List.length_map]; omega, fun fw H8 s8 hfw nfw => ?_⟩
      · obtain ⟨pc, hpc, rfl⟩ := List.mem_map.mp hs
        exact (lo.cost pc hpc).1
      have s78 := s7.trans s8
      refine ⟨_, rfl, o, _, dx, _, rfl, s78 _ _ ho6, T.o.cl, nf _ (by decide +kernel), by show 3 < 1000; decide, ?_⟩
      have of : o ≠ fw := ne_of_none (s7 _ _ ho6) nfw
      refine q _ ((off6.trans (Off.same s78)).trans Off.up) ⟨lo, dx, D, fw, ?_, ?_, ?_⟩
      · rw [upd_same]
        have e : (withC cs M).map (·.1) = cs := by
          rw [List.map_map]
          exact List.map_id cs
        rw [e]
        rfl
      · rw [upd_ne Do]
        exact s78 _ _ hD6
      · rw [upd_ne (Ne.symm of)]
        exact hfw
end
end K10

namespace K10
open PySem PySem.Spec PyProof.Rows L2 Ver Num SX
section
variable {P : Program} {w : World} {K : PySem.W.Frag} {mg : Str → Option Value} {base : Heap}
def spInitK (K : PySem.W.Frag) : KSp := fun vs kvs H Q _ => ∃ (o dx : Addr) (cs : List Nat) (M : LC), vs = [.ref o, .str (S cs)] ∧ kvs = kwOf M ∧ InitOk cs M ∧ H o = some (.ins (OC K) dx []) ∧
  ∀ H', Off o H H' → OrdAt K H' o (withC cs M) → Q .non H'
theorem sing_ne {c : Nat} : (["self", "letters"] : List Str).contains (S [c]) = false := by
  have h : ∀ t ∈ (["self", "letters"] : List Str), t ≠ S [c] := fun t ht z => by
    have l : t.length = 1 := by rw [z, S_len]; rfl
    have : ∀ t ∈ (["self", "letters"] : List Str), t.length ≠ 1 := by decide +kernel
    exact this t ht l
  rw [List.contains_eq_any_beq, List.any_eq_false]
  intro t ht z
  exact h t ht (beq_iff_eq.mp z).symm
theorem ok_init (T : Tx K mg) : FnKw P w K mg base CX0 3 (He.ma K (OC K) "__init__") (spInitK K) := by
  obtain ⟨fd, F⟩ := T.d.def_ 3 (d := d_Order___init__) rfl
  have G := okKw (P := P) (w := w) (mg := mg) (base := base) (CX := CX0) (k := 2) (sp := bodyInit K) F sc_Order___init__ StX.cxUp_none (fun us hl => by
      match us, hl with
      | [_, _], _ => rfl) (fun us hl => by
      match us, hl with
      | [_, _], _ => rfl) fun cdv A outer s H vs Q E hg hr h => by
    obtain ⟨t, ht, q⟩ := init_body T cdv A outer s H vs Q E hg hr h
    exact ⟨t, ht.nox, q⟩
  intro A outer s H us vs kws kvs Q E hg hr e0 r rk h
  obtain ⟨o, dx, cs, M, rfl, rfl, ok, ho, q⟩ := h
  have m4 := ok.few
  refine G A outer s H us _ kws _ Q E hg hr e0 r rk ⟨rfl, by rw [List.length_map]; exact sl_of (by omega), ?_, fun p hp => ?_, fun p np => ?_⟩
  · have h1 := ones_nodup ok.nd
    have e : (kwOf M).map (·.1) = ones (M.map (·.1)) := by
      rw [List.map_map]
      show _ = (M.map (·.1)).map _
      rw [List.map_map]
      rfl
    rw [e]
    exact h1
  · obtain ⟨pc, hpc, rfl⟩ := List.mem_map.mp hp
    exact sing_ne
  · rw [kw_dOf]
    have s1 := same_up (o := .dK (dOf M)) np
    exact ⟨o, dx, p, cs, M, rfl, ok, s1 _ _ ho, upd_same, fun H' off at_ => q H' ((Off.same s1).trans off) at_⟩
/-! ### Order.of_costs -/
theorem withC_perm {L M : LC} (ok : LOk L) (pm : M.Perm L) : InitOk (L.map (·.1)) M ∧ withC (L.map (·.1)) M = L := by
  have ndM : (M.map (·.1)).Nodup := (pm.map (·.1)).nodup_iff.mpr (asc_nodup ok.asc)
  refine ⟨⟨ok.cs, ndM, fun p hp => List.mem_map.mpr ⟨p, pm.mem_iff.mp hp, rfl⟩, fun p hp => ok.cost p (pm.mem_iff.mp hp)⟩, ?_⟩
  rw [withC, List.map_map]
  conv => rhs; rw [← List.map_id L]
  refine List.map_congr_left fun p hp => ?_
  show (p.1, costOf M p.1) = p
  rw [costOf_mem ndM (pm.mem_iff.mpr hp)]
def spOf (K : PySem.W.Frag) : Sp := fun vs H Q _ => ∃ (C : V) (a : Addr) (L M : LC), vs = [C, .ref a] ∧ LOk L ∧ M.Perm L ∧ H a = some (.dK (dOf M)) ∧
  ∀ (o : Addr) (H' : Hp), Same H H' → OrdAt K H' o L → H o = none → Q (.ref o) H'
theorem sc_of_costs : FnScope ["cls", "costs", "name", "letters"] ["cls", "costs"] (defScope s_Order_of_costs) := ⟨rfl, rfl, rfl, by decide +kernel, rfl, by decide +kernel, by decide +kernel⟩
theorem ok_of_costs (T : Tx K mg) {g : Addr} {fd : FuncData} (FD : FunD K "of_costs" "Order.of_costs" (defArgs s_Order_of_costs) (defBody s_Order_of_costs) (defScope s_Order_of_costs) [] [] g fd) : FnG P w K mg base CX0 5 g (spOf K) := by
  refine ok0 FD sc_of_costs (FD.bindsA fun _ _ _ _ _ _ us hl => match us, hl with | [_, _], _ => rfl) (fun vs H Q E h => ?_) (fun cdv A outer s H vs Q E hg hr h => ?_)
  · obtain ⟨C, a, L, M, rfl, _⟩ := h
    rfl
  · obtain ⟨C, a, L, M, rfl, ok, pm, ha, q⟩ := h
    have nd := sc_of_costs.nd
    have zi := T.z "isinstance" (by decide +kernel)
    have bi : bootBuiltins "isinstance" = some (.builtin "isinstance") := by decide +kernel
    refine ⟨_, pss_cons (ps_if (PW.pt (pw_or (pt_not (pt_val (pe_callB call_isi (by rfl) zi bi (pa_cons (pv 1) (pa_cons (pe_bltn (v := .ty "dict") (by rfl) (T.z "dict" (by decide +kernel)) (by decide +kernel) rfl) pa_nil)))))
        (pw_or1 (pt_not (pt_val (pe_callB (cr_all rfl) (by rfl) (T.z "all" (by decide +kernel)) (by decide +kernel) (pa_cons
          (pe_lock (pe_lc (own := [("name", 2)]) (g := gName 2) (tt := tYes) rfl nd (pi_keys (pv 1)) (blkOk_by (N := ["cls", "costs", "name", "letters"]) (sc := defScope s_Order_of_costs) (by decide +kernel)) (fun _ _ _ _ _ => pg_name (i := 2) nd rfl (Or.inl rfl)) (fun _ _ _ _ _ => pts_nil)
            (fun _ _ _ _ _ => pe_and (pe_callB (r := rIsi K) call_isi (by rfl) zi bi (pa_cons (pv 2) (pa_cons (pe_bltn (v := .ty "str") (by rfl) (T.z "str" (by decide +kernel)) (by decide +kernel) rfl) pa_nil)))
              (pe_one (pe_cmpR op_eq (pe_callB call_len_str (by rfl) (T.z "len" (by decide +kernel)) (by decide +kernel) (pa_cons (pv 2) pa_nil)) pe_int (nomark _)))))) pa_nil))))))) pss_never pss_nil)
      (pss_cons (ps_set (i := 3) nd rfl (Or.inl rfl) (pe_join pe_str (pe_callB cr_sortedS (by rfl) (T.z "sorted" (by decide +kernel)) (by decide +kernel) (pa_cons (pe_callTy (call_list_dK rfl) (by rfl) (T.z "list" (by decide +kernel)) (by decide +kernel) (pa_cons (pv 1) pa_nil)) pa_nil))))
      (pss_cons (ps_if (pt_not (pt_val (pe_callG (ok_is_letters T) (hr.mono (by decide)) hg (by rfl) (T.g "is_letters" (by decide +kernel)) (kp_is_letters T.d) pass0 (pa_cons (pv 3) pa_nil)))) pss_never pss_nil)
      (pss_one (ps_ret (pe_makeD T.o.mkr (ok_init T) hr hg (by rfl) (T.g "Order" (by decide +kernel)) pass0 (pa_cons (pv 3) pa_nil) (pv 1)))))), ?_⟩
    have l1 := ok.pos
    have l4 := ok.few
    have ml := pm.length_eq
    have dl : (dOf M).length = M.length := List.length_map _
    have kD : PySem.W.kitOne K (.type "dict") (.type "dict") = some true := kit_dict (.dict [])
    have kS : PySem.W.kitOne K (.type "str") (.type "str") = some true := kit_str (.str "")
    refine ⟨_, rfl, _, _, _, _, true, rfl, .ty "dict", ?_, kD, _, rfl, ifF rfl ?_⟩
    · exact .base (.dK ha)
    refine ⟨a, _, ha, trivial, fun od => ?_⟩
    refine ⟨_, rfl, a, od, rfl, .inl ⟨dOf M, upd_same, fun D nD => lc_one wk_keys (fun _ => .bl true) nD (by rw [dl]; omega) (fun H' s' => s' _ _ upd_same) (fun j x H' R hj s' hx hR => ?_) (fun H1 s1 hD => ?_)⟩⟩
    · obtain ⟨k, v, hk, rfl⟩ := hx
      rw [List.getElem?_map] at hk
      cases hm : M[j]? with
      | none =>
        rw [hm] at hk
        cases hk
      | some p =>
        rw [hm] at hk
        cases hk
        refine ⟨_, rfl, _, _, _, _, true, rfl, .ty "str", (Do.str (S [p.1]) : Do K H' _ _).ty, kS, _, rfl, ifT rfl ⟨_, rfl, _, rfl, ?_, rfl, ?_⟩⟩
        · rw [S_len]
          exact sl_of (by show 1 ≤ 20000; decide)
        · have e : decide (V.int ((S [p.1]).length : Int) = V.int 1) = true := by
            rw [S_len]
            rfl
          rw [e]
          exact hR
    · refine ⟨s1 _ _ upd_same, ?_⟩
      have aD : a ≠ D := ne_of_none upd_same nD
      have sH : Same H (upd H1 a (.dK (dOf M))) := fun b u e => by
        by_cases hb : b = a
        · rw [hb, upd_same, ← ha, ← hb, e]
        · rw [upd_ne hb]
          refine s1 _ _ ?_
          rw [upd_ne hb]
          exact e
      have hD2 : upd H1 a (.dK (dOf M)) D = some (.lst (((List.range (dOf M).length).map fun _ => V.bl true))) := by
        rw [upd_ne (Ne.symm aD)]
        exact hD
      generalize upd H1 a (.dK (dOf M)) = H2 at sH hD2
      have e : ((List.range (dOf M).length).map fun _ => V.bl true) = (List.replicate M.length true).map V.bl := by
        rw [dl, List.map_replicate, List.map_const', List.length_range]
      rw [e] at hD2
      refine ⟨D, _, rfl, SqL.of hD2, _, rfl, ?_⟩
      rw [show (List.replicate M.length true).all id = true by simp]
      refine ifF rfl ?_
      -- letters
      refine ⟨⟨_, rfl⟩, _, rfl, a, dOf M, rfl, sH _ _ ha, fun q1 n1 => ?_⟩
      rw [keys_dOf]
      have s2 := same_up (o := .lst ((ones (M.map (·.1))).map V.str)) n1
      refine ⟨q1, _, rfl, SqL.of upd_same, by rw [List.length_map, List.length_map]; omega, fun ys q2 py srt n2 => ?_⟩
      have s3 := same_up (o := .lst (ys.map V.str)) n2
      have ey : ys = ones (L.map (·.1)) := ones_sorted (py.trans ((pm.map (·.1)).map _)) srt ok.asc
      subst ey
      refine ⟨_, q2, _, rfl, rfl, .inl (SqL.of upd_same), ?_, ?_⟩
      · rw [ones_len, List.length_map, List.length_map, show ("" : Str).length = 0 from rfl, Nat.mul_zero]
        omega
      · rw [show ("" : Str) = S [] from rfl, Ver.join_ones]
        refine ⟨_, rfl, _, rfl, ok.cs, fun H5 s5 => ⟨_, rfl, ifF rfl ?_⟩⟩
        have sA := ((sH.trans s2).trans s3).trans s5
        refine ⟨_, rfl, fun d nd2 => ?_⟩
        have s6 := same_up (o := .dK []) nd2
        obtain ⟨io, ew⟩ := withC_perm ok pm
        refine ⟨_, rfl, a, kwOf M, rfl, upd_same, ?_, (ne_of_none (sA _ _ ha) nd2).symm, fun x dx nx ndx ne => ?_⟩
        · rw [kw_dOf]
          exact s6 _ _ (sA _ _ ha)
        · rw [kw_dOf] at nx ndx ⊢
          refine ⟨x, dx, L.map (·.1), M, rfl, rfl, io, upd_same, fun H' off at_ => ⟨rfl, ?_⟩⟩
          rw [ew] at at_
          refine q x H' (fun b u e => ?_) at_ ?_
          · have h1 := sA _ _ e
            have bd : b ≠ d := ne_of_none h1 nd2
            have h2 : upd (upd H5 d (.dK [])) d (.dK (dOf M)) b = some u := by rw [upd_ne bd, upd_ne bd]; exact h1
            refine off b u ?_ (ne_of_none h2 nx)
            rw [upd_ne (ne_of_none h2 nx), upd_ne (ne_of_none h2 ndx)]
            exact h2
          · cases e : H x with
            | none => rfl
            | some u =>
              have h1 := sA _ _ e
              have bd : x ≠ d := ne_of_none h1 nd2
              rw [upd_ne bd, upd_ne bd, h1] at nx
              cases nx
end
end K10

namespace K10
open PySem PySem.Spec PyProof.Rows L2 Ver Num SX
section
variable {P : Program} {w : World} {K : PySem.W.Frag} {mg : Str → Option Value} {base : Heap}
/-! ### _law_made_order -/
def spMade (K : PySem.W.Frag) : Sp := fun vs H Q _ => ∃ (d a : Addr) (k : Int) (L : LC), vs = [.ref d, .ref a] ∧ PenAt H d k ∧ k < 10000000 ∧ LOk L ∧ H a = some (.dK (dOf L)) ∧
  ∀ (o : Addr) (H' : Hp), But d H H' → OrdAt K H' o L → PenAt H' d (k + 4) → H o = none → Q (.ref o) H'
theorem but_none {d p : Addr} {k : Int} {H H' : Hp} (pen : PenAt H' d k) (b : But d H H') (n : H' p = none) : H p = none := by
  cases e : H p with
  | none => rfl
  | some o =>
    have pd : p ≠ d := fun z => by
      obtain ⟨c, cells, b, l, h1, _⟩ := pen.ex
      rw [z, h1] at n
      cases n
    rw [b.keeps e pd] at n
    cases n
theorem paired_at {α β : Type} {R : α → β → Prop} : ∀ {xs : List α} {ys : List β}, xs.length = ys.length → (∀ (i : Nat) (x : α) (y : β), xs[i]? = some x → ys[i]? = some y → R x y) → Paired R xs ys
  | [], [], _, _ => .nil
  | x :: xs, y :: ys, hl, h => .cons (h 0 x y rfl rfl) (paired_at (by simpa using hl) fun i a b h1 h2 => h (i + 1) a b (by simpa using h1) (by simpa using h2))
  | [], _ :: _, hl, _ => by simp at hl
  | _ :: _, [], hl, _ => by simp at hl
theorem ok_made (T : Tx K mg) : FnG P w K mg base CX0 6 (He.ga K "_law_made_order") (spMade K) := by
  refine mk__law_made_order T.d (fun vs H Q E h => ?_) (fun cdv A outer s H vs Q E hg hr h => ?_)
  · obtain ⟨d, a, k, L, rfl, _⟩ := h
    rfl
  · obtain ⟨d, a, k, L, rfl, pen, k9, ok, ha, q⟩ := h
    have nd := sc__law_made_order.nd
    have hu := hu_of hr
    obtain ⟨cp, cg, fd, cm, FD⟩ := T.o.oc
    refine ⟨_, pss_one (ps_ret (pe_cmethG (by rfl) (T.g "Order" (by decide +kernel)) T.o.rd cm (ok_of_costs T FD) hr hg pass0 (pa_cons
      (pe_callTy (call_dictP rfl) (by rfl) (T.z "dict" (by decide +kernel)) (by decide +kernel) (pa_cons
        (pe_lc (own := [("_law_letter", 2)]) (g := gName 2) (tt := tYes) rfl nd (pi_list (pe_callG (ok_shuf T) (hr.mono (by decide)) hg (by rfl) (T.g "_law_shuffled" (by decide +kernel)) (kp__law_shuffled T.d) pass0
            (pa_cons (pv 0) (pa_cons (pe_callTy (call_list_dK rfl) (by rfl) (T.z "list" (by decide +kernel)) (by decide +kernel) (pa_cons (pv 1) pa_nil)) pa_nil))))
          (blkOk_by (N := n__law_made_order) (sc := defScope s__law_made_order) (by decide +kernel)) (fun _ _ _ _ _ => pg_name (i := 2) nd rfl (Or.inl rfl)) (fun _ _ _ _ _ => pts_nil)
          (fun _ _ _ _ _ => pe_tup (pa_cons (pv 2) (pa_cons (pe_dget hu (pv 1) (pv 2) (fun _ _ => rfl)) pa_nil)))) pa_nil)) pa_nil))), ?_⟩
    have l4 := ok.few
    have ndL := asc_nodup ok.asc
    refine ⟨_, rfl, _, rfl, a, _, rfl, ha, fun q1 n1 => ?_⟩
    rw [keys_dOf]
    have s1 := same_up (o := .lst ((ones (L.map (·.1))).map V.str)) n1
    refine ⟨d, q1, k, _, rfl, pen.same s1, by omega, SqL.of upd_same, flat_str _, by rw [List.length_map, List.length_map, List.length_map]; omega, fun p ys H1 pm hp bt1 pen1 => ?_⟩
    obtain ⟨zs, rfl, pz⟩ := strs_perm pm
    obtain ⟨ds, rfl, pd⟩ := ones_perm pz
    have dlen : ds.length = L.length := by rw [pd.length_eq, List.length_map]
    rw [List.length_map, List.length_map, List.length_map] at pen1
    have bt := (But.same s1).trans bt1
    have ad : a ≠ d := fun z => by
      obtain ⟨c, cells, b, l, h1, _⟩ := pen.ex
      rw [z, h1] at ha
      have e := HO.dK.inj (Option.some.inj ha)
      have e2 := congrArg List.length e
      have e3 := congrArg (fun x : List (Key × V) => (x.headD (.inl 0, .non)).2) e
      cases L with
      | nil => cases e
      | cons p L => cases e3
    have ha1 : H1 a = some (.dK (dOf L)) := bt.keeps ha ad
    -- the pairs
    have cAt : ∀ c ∈ ds, valV (dOf L) (.inr (S [c])) = some (.int (costOf L c)) := fun c hc => by
      obtain ⟨pc, hpc, rfl⟩ := List.mem_map.mp (pd.mem_iff.mp hc)
      rw [valV_mem ndL hpc, costOf_mem ndL hpc]
    refine ⟨p, rfl, ⟨_, SqL.of hp⟩, fun D nD => lc_pair wk_list (fun i => .str (S [ds.getD i 0])) (fun i => .int (costOf L (ds.getD i 0))) nD (by rw [List.length_map, List.length_map]; omega) (fun H' s' => SqL.of (s' _ _ hp)) (fun j x H' R hj s' hx hR => ?_) (fun H2 ts s2 hD tl ht => ?_)⟩
    · rw [List.getElem?_map, List.getElem?_map] at hx
      cases hn : ds[j]? with
      | none =>
        rw [hn] at hx
        cases hx
      | some c =>
        rw [hn] at hx
        cases hx
        have e : ds.getD j 0 = c := by rw [List.getD_eq_getElem?_getD, hn]; rfl
        rw [e] at hR
        have hv := DGet.k (k := Sum.inr (S [c])) (s' _ _ ha1)
        rw [cAt c (List.mem_of_getElem? hn)] at hv
        exact ⟨_, rfl, _, rfl, _, rfl, a, _, rfl, hv, by show 2 ≤ sizeLine; decide, fun t nt => hR t nt⟩
    · rw [List.length_map, List.length_map] at tl
      have eM : withC ds L = ds.map fun c => (c, costOf L c) := rfl
      have pmL : (withC ds L).Perm L := by
        have h1 := pd.map fun c => (c, costOf L c)
        have h2 : (L.map (·.1)).map (fun c => (c, costOf L c)) = L := (withC_perm ok (List.Perm.refl L)).2
        rw [h2] at h1
        exact h1
      have ndM : ((withC ds L).map (·.1)).Nodup := (pmL.map (·.1)).nodup_iff.mpr ndL
      refine ⟨D, ts, dOf (withC ds L), rfl, SqL.of hD, paired_at (by rw [tl, List.length_map, List.length_map]) fun i t kv h1 h2 => ?_, fun r nr => ?_⟩
      · have h3 := (ht i t h1).1
        rw [List.getElem?_map, List.getElem?_map] at h2
        cases hn : ds[i]? with
        | none =>
          rw [hn] at h2
          cases h2
        | some c =>
          rw [hn] at h2
          cases h2
          have e : ds.getD i 0 = c := by rw [List.getD_eq_getElem?_getD, hn]; rfl
          rw [e] at h3
          exact SqT.of h3
      · have mg0 : mergeK [] (dOf (withC ds L)) = dOf (withC ds L) := merge_fresh (withC ds L) [] (by rw [List.nil_append]; exact ndM)
        rw [mg0]
        have s3 := same_up (o := .dK (dOf (withC ds L))) nr
        refine ⟨_, r, L, withC ds L, rfl, ok, pmL, upd_same, fun o H4 s4 at_ no => ?_⟩
        have sA := (s2.trans s3).trans s4
        refine q o H4 (bt.trans (But.same sA)) at_ ((pen1.same sA).mono (by omega)) ?_
        exact but_none (pen1.same (s2.trans s3)) (bt.trans (But.same (s2.trans s3))) no
end
end K10

namespace K10
open PySem PySem.Spec PyProof.Rows L2 Ver Num SX
/-! ### words counted by their costs -/
/-- the next count behind the counted ones -/
def wayC (cts : List Int) (s : Int) : Int := if s ≤ (cts.length : Int) then cts.getD ((cts.length : Int) - s).toNat 0 else 0
def nextC (st cts : List Int) : Int := if cts = [] then 1 else (st.map (wayC cts)).sum
def cntL (st : List Int) : Nat → List Int
  | 0 => []
  | n + 1 => cntL st n ++ [nextC st (cntL st n)]
theorem cntL_len (st : List Int) : ∀ n, (cntL st n).length = n
  | 0 => rfl
  | n + 1 => by
    show (cntL st n ++ [_]).length = _
    rw [List.length_append, cntL_len st n]
    rfl
section
variable {P : Program} {w : World} {K : PySem.W.Frag} {mg : Str → Option Value} {base : Heap}
theorem Tx.me (T : Tx K mg) {m : Str} (h : m ∈ oms) : Meth K (OC K) m (He.ma K (OC K) m) := T.o.me m h
theorem lk_none {m : Str} (h : m ∈ oms) {a b c d : V} : List.lookup m [(("_letters" : Str), a), ("_costs", b), ("_divisor", c), ("_few", d)] = none := by
  have : ∀ m ∈ oms, (m == ("_letters" : Str)) = false ∧ (m == ("_costs" : Str)) = false ∧ (m == ("_divisor" : Str)) = false ∧ (m == ("_few" : Str)) = false := by decide +kernel
  obtain ⟨h1, h2, h3, h4⟩ := this m h
  simp only [List.lookup, h1, h2, h3, h4]
def spWays (K : PySem.W.Frag) : Sp := fun vs H Q _ => ∃ (o a : Addr) (L : LC) (cts : List Int) (p : Nat × Int), vs = [.ref o, .ref a, .int cts.length, .str (S [p.1])] ∧ OrdAt K H o L ∧ p ∈ L ∧ SqL K H a (cts.map V.int) ∧ Q (.int (wayC cts p.2)) H
theorem ok_ways (T : Tx K mg) : FnG P w K mg base CX0 1 (He.ma K (OC K) "_ways") (spWays K) := by
  refine mk_Order__ways T.d (fun vs H Q E h => ?_) (fun cdv A outer s H vs Q E hg hr h => ?_)
  · obtain ⟨o, a, L, cts, p, rfl, _⟩ := h
    rfl
  · obtain ⟨o, a, L, cts, p, rfl, at_, hp, ha, q⟩ := h
    have nd := sc_Order__ways.nd
    have hu := hu_of hr
    refine ⟨_, pss_cons (ps_set (i := 4) nd rfl (Or.inl rfl) (pe_op op_sub (pv 2) (pe_dget hu (pe_fld (pv 0) rfl) (pv 3) (fun _ _ => rfl))))
      (pss_one (ps_ret (pe_ifExp (pt_cmpR op_ge (pv 4) pe_int (nomark _)) (pe_ix ix_list (pv 1) (pv 4) (fun _ _ => rfl)) pe_int))), ?_⟩
    obtain ⟨dx, dc, fw, ho, hd, hf⟩ := id at_.ex
    have hv := DGet.k (k := Sum.inr (S [p.1])) hd
    rw [valV_mem (asc_nodup at_.ok.asc) hp] at hv
    have c1 := (at_.ok.cost p hp).1
    refine ⟨_, rfl, _, rfl, o, _, dx, _, _, rfl, ho, T.o.cl, T.o.na _ (by decide +kernel), rfl, _, rfl, dc, _, rfl, hv, _, _, rfl, rfl, ?_⟩
    refine ⟨_, rfl, _, _, rfl, rfl, _, rfl, ?_⟩
    unfold wayC at q
    by_cases h : (0 : Int) ≤ (cts.length : Int) - p.2
    · rw [if_pos (by omega)] at q
      refine ifT (decide_eq_true h) ⟨_, rfl, _, rfl, ?_⟩
      obtain ⟨u, hu2⟩ : ∃ u : Nat, (cts.length : Int) - p.2 = (u : Int) := ⟨((cts.length : Int) - p.2).toNat, by omega⟩
      have ul : u < cts.length := by omega
      rw [hu2, Int.toNat_natCast, List.getD_eq_getElem?_getD, List.getElem?_eq_getElem ul] at q
      dsimp only
      rw [hu2]
      exact ⟨a, _, _, _, rfl, rfl, ha, atI_nat (by rw [List.getElem?_map, List.getElem?_eq_getElem ul]; rfl), q⟩
    · rw [if_neg (by omega)] at q
      exact ifF (decide_eq_false h) q
/-- len of a list -/
def rLenK (K : PySem.W.Frag) : List V → Hp → VK → Prop := fun xs H Q => ∃ p ys, xs = [.ref p] ∧ (SqL K H p ys ∨ SqT K H p ys) ∧ Q (.int ys.length) H
def spNext (K : PySem.W.Frag) : Sp := fun vs H Q _ => ∃ (o a : Addr) (L : LC) (cts : List Int), vs = [.ref o, .ref a] ∧ OrdAt K H o L ∧ SqL K H a (cts.map V.int) ∧ ∀ H', Same H H' → Q (.int (nextC (L.map (·.2)) cts)) H'
theorem ok_next (T : Tx K mg) : FnG P w K mg base CX0 2 (He.ma K (OC K) "_next_count") (spNext K) := by
  refine mk_Order__next_count T.d (fun vs H Q E h => ?_) (fun cdv A outer s H vs Q E hg hr h => ?_)
  · obtain ⟨o, a, L, cts, rfl, _⟩ := h
    rfl
  · obtain ⟨o, a, L, cts, rfl, at_, ha, q⟩ := h
    have nd := sc_Order__next_count.nd
    have hu := hr.units
    refine ⟨_, pss_cons (ps_if (pt_cmpR (op_eqP T.sm hu) (pv 1) (pe_lst pa_nil) (nomark _)) (pss_one (ps_ret pe_int)) pss_nil)
      (pss_one (ps_ret (pe_callB (cr_sum rfl) (by rfl) (T.z "sum" (by decide +kernel)) (by decide +kernel) (pa_cons
        (pe_lc (own := [("letter", 2)]) (g := gName 2) (tt := tYes) rfl nd (pi_str (pe_fld (pv 0) rfl)) (blkOk_by (N := n_Order__next_count) (sc := defScope s_Order__next_count) (by decide +kernel)) (fun _ _ _ _ _ => pg_name (i := 2) nd rfl (Or.inl rfl)) (fun _ _ _ _ _ => pts_nil)
          (te := tMethG K "_ways" (He.ma K (OC K) "_ways") (spWays K) E0 (tVar 0) (tCons (tVar 1) (tCons (tCB (rLenK K) (tCons (tVar 1) tNil)) (tCons (tVar 2) tNil))))
          (fun _ _ _ _ _ => pe_methG (pv 0) (kp_Order__ways T.d) (ok_ways T) (hr.mono (by decide)) hg pass0 (pa_cons (pv 1) (pa_cons (pe_callB (r := rLenK K) call_len_seq (by rfl) (T.z "len" (by decide +kernel)) (by decide +kernel) (pa_cons (pv 1) pa_nil)) (pa_cons (pv 2) pa_nil))))) pa_nil)))), ?_⟩
    refine ⟨_, rfl, by show 0 ≤ sizeLine; decide, fun z nz => ?_⟩
    have s1 := same_up (o := .lst []) nz
    have fl := flat_int cts
    have dep := depth_flat fl
    refine ⟨.list (datL (cts.map V.int)), .list [], .lst (s1.seq ha) (do_flat fl), .lst (SqL.of upd_same) .nil, by show PyData.plainAll _ = true; exact plain_flat fl, rfl, by simp only [PyData.depth]; omega, _, rfl, ?_⟩
    rw [eqv_flat fl]
    cases cts with
    | nil => exact ifT rfl (q _ s1)
    | cons c0 cr =>
      generalize hc : c0 :: cr = cts at *
      have hne : cts ≠ [] := by rw [← hc]; exact List.cons_ne_nil _ _
      have hem : (cts.map V.int).isEmpty = false := by rw [← hc]; rfl
      refine ifF hem ?_
      have at1 := at_.same s1
      obtain ⟨dx, dc, fw, ho, hd, hf⟩ := id at1.ex
      have asz : (S (L.map (·.1))).cps.size = L.length := by simp
      have l4 := at_.ok.few
      refine ⟨_, rfl, o, _, dx, _, _, rfl, ho, T.o.cl, T.o.na _ (by decide +kernel), rfl, S (L.map (·.1)), rfl, fun D nD => lc_one wk_str (fun i => .int (wayC cts ((L.map (·.2)).getD i 0))) nD (by rw [asz]; omega) (fun _ _ => trivial) (fun j x H' R hj s' hx hR => ?_) (fun H2 s2 hD => ?_)⟩
      · obtain ⟨c, hcc, rfl⟩ := hx
        rw [← Array.getElem?_toList, chars_S, List.getElem?_map] at hcc
        cases hn : L[j]? with
        | none =>
          rw [hn] at hcc
          cases hcc
        | some pc =>
          rw [hn] at hcc
          cases hcc
          have e : (L.map (·.2)).getD j 0 = pc.2 := by rw [List.getD_eq_getElem?_getD, List.getElem?_map, hn]; rfl
          rw [e] at hR
          have hp := List.mem_of_getElem? hn
          have h2 := s'.seq (s1.seq ha)
          obtain ⟨dx, dc, fw, ho', _⟩ := (at1.same s').ex
          refine ⟨_, rfl, o, OC K, dx, _, rfl, ho', T.o.cl, T.me (by decide +kernel), lk_none (by decide +kernel), _, rfl, _, rfl, a, _, rfl, .inl h2, _, rfl, o, a, L, cts, pc, ?_, at1.same s', hp, h2, hR⟩
          rw [List.length_map]
      · have e : ((List.range (S (L.map (·.1))).cps.size).map fun i => V.int (wayC cts ((L.map (·.2)).getD i 0))) = ((L.map (·.2)).map (wayC cts)).map V.int := by
          rw [asz, ← List.length_map (f := fun p : Nat × Int => p.2), range_map (L.map (·.2)) (fun s => V.int (wayC cts s)) _ fun i x hx => by rw [List.getD_eq_getElem?_getD, hx]; rfl]
          exact (List.map_map ..).symm
        rw [e] at hD
        refine ⟨D, _, rfl, SqL.of hD, ?_⟩
        have e2 : nextC (L.map (·.2)) cts = ((L.map (·.2)).map (wayC cts)).sum := if_neg hne
        rw [← e2]
        exact q H2 (s1.trans s2)
def spCounts (K : PySem.W.Frag) : Sp := fun vs H Q _ => ∃ (o : Addr) (L : LC) (n : Nat), vs = [.ref o, .int n] ∧ OrdAt K H o L ∧ n ≤ 2000 ∧ ∀ (p : Addr) (H' : Hp), Same H H' → H' p = some (.lst ((cntL (L.map (·.2)) (n + 1)).map V.int)) → H p = none → Q (.ref p) H'
theorem ok_counts (T : Tx K mg) : FnG P w K mg base CX0 3 (He.ma K (OC K) "_counts") (spCounts K) := by
  refine mk_Order__counts T.d (fun vs H Q E h => ?_) (fun cdv A outer s H vs Q E hg hr h => ?_)
  · obtain ⟨o, L, n, rfl, _⟩ := h
    rfl
  · obtain ⟨o, L, n, rfl, at_, n2, q⟩ := h
    have nd := sc_Order__counts.nd
    refine ⟨_, pss_cons (ps_set (i := 2) nd rfl (Or.inl rfl) (pe_lst pa_nil))
      (pss_cons (ps_for PassesOwn.never rfl (pi_range1 (by rfl) (T.z "range" (by decide +kernel)) (pa_cons (pe_op op_add (pv 1) pe_int) pa_nil)) (pg_name (i := 3) nd rfl (.inl rfl))
        (pss_one (ps_expr (pe_bm PySem.F.plainAttrs_list PySem.F.slot_list_append PySem.F.type_list_append mt_append (pv 2) (pa_cons
          (pe_methG (pv 0) (kp_Order__next_count T.d) (ok_next T) hr hg pass0 (pa_cons (pv 2) pa_nil)) pa_nil)))))
      (pss_one (ps_ret (pv 2)))), ?_⟩
    refine ⟨by show 0 ≤ sizeLine; decide, fun p np => ?_⟩
    have s1 := same_up (o := .lst []) np
    refine ⟨_, rfl, _, _, rfl, rfl, ((n + 1 : Nat) : Int), rfl, by omega, by omega, for_range (lo := 0) (n := n + 1) (fun i σ H' => ∃ v3 : Option V, σ = [some (.ref o), some (.int n), some (.ref p), v3] ∧ Same H H' ∧ H' p = some (.lst ((cntL (L.map (·.2)) i).map V.int))) ⟨none, rfl, s1, upd_same⟩ ?_ ?_⟩
    · rintro i σ H' hi ⟨v3, rfl, sm, hp⟩
      have at1 := at_.same sm
      obtain ⟨dx, dc, fw, ho, _⟩ := id at1.ex
      refine ⟨_, rfl, .inl ⟨rfl, _, SqL.of hp⟩, _, rfl, o, OC K, dx, _, rfl, ho, T.o.cl, T.me (by decide +kernel), lk_none (by decide +kernel), _, rfl, o, p, L, cntL (L.map (·.2)) i, rfl, at1, SqL.of hp, fun H2 s2 => ?_⟩
      have hp2 := s2 _ _ hp
      refine ⟨p, _, _, rfl, rfl, hp2, by rw [List.length_map, cntL_len, sizeLine_eq]; omega, _, rfl, ?_, ?_⟩
      · exact same_new np (sm.trans s2)
      · rw [upd_same]
        show some (HO.lst _) = some (HO.lst ((cntL _ i ++ [_]).map V.int))
        rw [List.map_append]
        rfl
    · rintro σ H' ⟨v3, rfl, sm, hp⟩
      exact ⟨_, rfl, q p H' sm hp np⟩
end
end K10

namespace K10
open PySem PySem.Spec PyProof.Rows L2 Ver Num SX
/-! ### words, their costs, their numbers -/
abbrev Wd := List Nat
abbrev vS (u : Wd) : V := .str (S u)
/-- a word over the letters of L, not too long -/
def WOk (L : LC) (u : Wd) : Prop := (∀ c ∈ u, c ∈ L.map (·.1)) ∧ u.length ≤ 160
def costW (L : LC) (u : Wd) : Int := (u.map (costOf L)).sum
theorem costW_cons {L : LC} (p : Nat) (u : Wd) : costW L (p :: u) = costOf L p + costW L u := rfl
/-- how many words cost n; as many as cost k, none below nought -/
def cN (L : LC) (n : Nat) : Int := (cntL (L.map (·.2)) (n + 1)).getD n 0
def wN (L : LC) (k : Int) : Int := if 0 ≤ k then cN L k.toNat else 0
def toN (L : LC) (n : Nat) : Int := (cntL (L.map (·.2)) n).sum
def lowS (L : LC) (C : Int) (c : Nat) : Int := ((L.filter fun p => decide (p.1 < c)).map fun p => wN L (C - p.2)).sum
/-- the words of the same cost ahead of u -/
def rk (L : LC) : Int → Wd → Int
  | _, [] => 0
  | C, c :: u => lowS L C c + rk L (C - costOf L c) u
def plc (L : LC) (u : Wd) : Int := toN L (costW L u).toNat + rk L (costW L u) u
theorem sum_bd {f : Int → Int} {M : Int} : ∀ st : List Int, (∀ s ∈ st, 0 ≤ f s ∧ f s ≤ M) → 0 ≤ (st.map f).sum ∧ (st.map f).sum ≤ (st.length : Int) * M
  | [], _ => by simp
  | s :: st, h => by
    obtain ⟨a, b⟩ := sum_bd st fun x hx => h x (List.mem_cons_of_mem _ hx)
    obtain ⟨c, d⟩ := h s List.mem_cons_self
    rw [List.map_cons, List.sum_cons, List.length_cons]
    have e : ((st.length + 1 : Nat) : Int) * M = (st.length : Int) * M + M := by rw [Int.natCast_add, Int.add_mul]; simp
    rw [e]
    omega
theorem wayC_bd {cts : List Int} {s : Int} (h1 : 1 ≤ s) (hl : 1 ≤ cts.length) (h : ∀ c, c < cts.length → 0 ≤ cts.getD c 0 ∧ cts.getD c 0 ≤ ((4 ^ c : Nat) : Int)) : 0 ≤ wayC cts s ∧ wayC cts s ≤ ((4 ^ (cts.length - 1) : Nat) : Int) := by
  unfold wayC
  by_cases hs : s ≤ (cts.length : Int)
  · rw [if_pos hs]
    obtain ⟨a, b⟩ := h ((cts.length : Int) - s).toNat (by omega)
    have m : 4 ^ ((cts.length : Int) - s).toNat ≤ 4 ^ (cts.length - 1) := Nat.pow_le_pow_right (by decide) (by omega)
    omega
  · rw [if_neg hs]
    exact ⟨Int.le_refl _, Int.natCast_nonneg _⟩
theorem cntL_bd {st : List Int} (few : st.length ≤ 4) (h1 : ∀ s ∈ st, 1 ≤ s) : ∀ n c, c < n → 0 ≤ (cntL st n).getD c 0 ∧ (cntL st n).getD c 0 ≤ ((4 ^ c : Nat) : Int)
  | n + 1, c, h => by
    have ih := cntL_bd few h1 n
    have ll := cntL_len st n
    show 0 ≤ (cntL st n ++ [nextC st (cntL st n)]).getD c 0 ∧ (cntL st n ++ [nextC st (cntL st n)]).getD c 0 ≤ _
    by_cases hc : c < n
    · rw [List.getD_eq_getElem?_getD, List.getElem?_append_left (by omega), ← List.getD_eq_getElem?_getD]
      exact ih c hc
    · have e : c = n := by omega
      subst e
      rw [List.getD_eq_getElem?_getD, List.getElem?_append_right (by omega), ll, Nat.sub_self]
      show 0 ≤ nextC st (cntL st c) ∧ nextC st (cntL st c) ≤ _
      unfold nextC
      by_cases hz : cntL st c = []
      · rw [if_pos hz]
        have : 0 < 4 ^ c := Nat.pow_pos (by decide)
        generalize 4 ^ c = M at *
        omega
      · rw [if_neg hz]
        have hl : 1 ≤ (cntL st c).length := List.length_pos_iff.mpr hz
        obtain ⟨a, b⟩ := sum_bd st fun s hs => wayC_bd (h1 s hs) hl fun k hk => ih k (by omega)
        refine ⟨a, Int.le_trans b ?_⟩
        rw [ll] at hl ⊢
        have e : 4 ^ c = 4 * 4 ^ (c - 1) := by
          rw [← Nat.pow_succ']
          congr 1
          omega
        have m : st.length * 4 ^ (c - 1) ≤ 4 ^ c := by
          rw [e]
          exact Nat.mul_le_mul_right _ few
        have m2 : ((st.length * 4 ^ (c - 1) : Nat) : Int) ≤ ((4 ^ c : Nat) : Int) := Int.ofNat_le.mpr m
        rw [Int.natCast_mul] at m2
        exact m2
theorem cntL_get {st : List Int} {c : Nat} : ∀ {n : Nat}, c < n → (cntL st n).getD c 0 = (cntL st (c + 1)).getD c 0
  | n + 1, h => by
    by_cases hc : c = n
    · rw [hc]
    · have hl : c < (cntL st n).length := by rw [cntL_len]; omega
      have e : (cntL st (n + 1)).getD c 0 = (cntL st n).getD c 0 := by
        show (cntL st n ++ [_]).getD c 0 = _
        rw [List.getD_eq_getElem?_getD, List.getElem?_append_left hl, List.getD_eq_getElem?_getD]
      rw [e]
      exact cntL_get (by omega)
theorem cntL_take {st : List Int} {m : Nat} : ∀ {n : Nat}, m ≤ n → (cntL st n).take m = cntL st m
  | 0, h => by
    obtain rfl : m = 0 := by omega
    rfl
  | n + 1, h => by
    by_cases hc : m = n + 1
    · rw [hc]
      exact List.take_of_length_le (by rw [cntL_len]; exact Nat.le_refl _)
    · show (cntL st n ++ [_]).take m = _
      rw [List.take_append_of_le_length (by rw [cntL_len]; omega)]
      exact cntL_take (by omega)
section
variable {L : LC} (ok : LOk L)
include ok
theorem steps1 : ∀ s ∈ L.map (·.2), 1 ≤ s := fun s hs => by
  obtain ⟨p, hp, rfl⟩ := List.mem_map.mp hs
  exact (ok.cost p hp).1
theorem cN_bd (n : Nat) : 0 ≤ cN L n ∧ cN L n ≤ ((4 ^ n : Nat) : Int) := cntL_bd (by rw [List.length_map]; exact ok.few) (steps1 ok) (n + 1) n (Nat.lt_succ_self n)
theorem wN_nn (k : Int) : 0 ≤ wN L k := by
  unfold wN
  split
  · exact (cN_bd ok _).1
  · exact Int.le_refl _
omit ok in
theorem toN_succ (n : Nat) : toN L (n + 1) = toN L n + cN L n := by
  unfold toN cN
  show (cntL _ n ++ [_]).sum = _ + (cntL _ n ++ [_]).getD n 0
  rw [List.sum_append, List.getD_eq_getElem?_getD, List.getElem?_append_right (by rw [cntL_len]; exact Nat.le_refl _), cntL_len, Nat.sub_self]
  simp
omit ok in
theorem toN_zero : toN L 0 = 0 := rfl
theorem toN_mono {m n : Nat} (h : m ≤ n) : toN L m ≤ toN L n := by
  induction n with
  | zero =>
    obtain rfl : m = 0 := by omega
    exact Int.le_refl _
  | succ n ih =>
    by_cases hc : m = n + 1
    · rw [hc]
      exact Int.le_refl _
    · have := ih (by omega)
      rw [toN_succ]
      have := (cN_bd ok n).1
      omega
theorem toN_bd (n : Nat) : 0 ≤ toN L n ∧ toN L n ≤ ((4 ^ n : Nat) : Int) := by
  induction n with
  | zero => exact ⟨Int.le_refl _, by rw [toN_zero]; decide⟩
  | succ n ih =>
    rw [toN_succ]
    have := cN_bd ok n
    have e : 4 ^ (n + 1) = 4 * 4 ^ n := Nat.pow_succ'
    rw [e]
    generalize 4 ^ n = M at *
    omega
omit ok in
theorem cN_zero : cN L 0 = 1 := rfl
/-- the next count is the sum of the ways -/
theorem cN_sum {n : Nat} (hn : 1 ≤ n) : cN L n = (L.map fun p => wN L ((n : Int) - p.2)).sum := by
  unfold cN
  show (cntL _ n ++ [nextC _ (cntL _ n)]).getD n 0 = _
  have ll := cntL_len (L.map (·.2)) n
  rw [List.getD_eq_getElem?_getD, List.getElem?_append_right (by omega), ll, Nat.sub_self]
  show nextC _ (cntL _ n) = _
  unfold nextC
  rw [if_neg (fun z => by rw [z] at ll; simp at ll; omega), List.map_map]
  refine congrArg List.sum (List.map_congr_left fun p hp => ?_)
  have h1 := (ok.cost p hp).1
  show wayC (cntL _ n) p.2 = _
  unfold wayC wN
  rw [ll]
  by_cases hs : p.2 ≤ (n : Int)
  · rw [if_pos hs, if_pos (by omega)]
    exact cntL_get (by omega)
  · rw [if_neg hs, if_neg (by omega)]
/-- a letter parts the letters -/
theorem part_at {p : Nat × Int} (hp : p ∈ L) : ∃ A B, L = A ++ p :: B ∧ (L.filter fun q => decide (q.1 < p.1)) = A ∧ (L.map (·.1)).take A.length = A.map (·.1) ∧ p.1 ∉ A.map (·.1) := by
  obtain ⟨A, B, e⟩ := List.append_of_mem hp
  have asc := ok.asc
  rw [e, List.map_append, List.map_cons, List.pairwise_append] at asc
  obtain ⟨_, h2, h3⟩ := asc
  have hB := (List.pairwise_cons.mp h2).1
  have lowA : ∀ q ∈ A, q.1 < p.1 := fun q hq => h3 q.1 (List.mem_map.mpr ⟨q, hq, rfl⟩) p.1 List.mem_cons_self
  refine ⟨A, B, e, ?_, ?_, fun h => ?_⟩
  · rw [e, List.filter_append, List.filter_cons, if_neg (by simp), List.filter_eq_self.mpr fun q hq => decide_eq_true (lowA q hq), List.filter_eq_nil_iff.mpr fun q hq => ?_, List.append_nil]
    have := hB q.1 (List.mem_map.mpr ⟨q, hq, rfl⟩)
    rw [decide_eq_true_iff]
    omega
  · rw [e, List.map_append, List.take_append_of_le_length (by rw [List.length_map]; exact Nat.le_refl _)]
    exact List.take_of_length_le (by rw [List.length_map]; exact Nat.le_refl _)
  · obtain ⟨q, hq, e2⟩ := List.mem_map.mp h
    have := lowA q hq
    omega
theorem cost1 {c : Nat} (h : c ∈ L.map (·.1)) : 1 ≤ costOf L c ∧ costOf L c ≤ 9 := costOf_rng (asc_nodup ok.asc) ok.cost c
theorem cost_ge : ∀ u : Wd, (u.length : Int) ≤ costW L u
  | [] => Int.le_refl _
  | x :: u => by
    have ih := cost_ge u
    have h1 := (costOf_rng (asc_nodup ok.asc) ok.cost x).1
    rw [costW_cons, List.length_cons]
    omega
theorem cost_le : ∀ u : Wd, costW L u ≤ 9 * (u.length : Int)
  | [] => Int.le_refl _
  | x :: u => by
    have ih := cost_le u
    have h1 := (costOf_rng (asc_nodup ok.asc) ok.cost x).2
    rw [costW_cons, List.length_cons]
    omega
omit ok in
theorem sum_nn {α : Type} {f : α → Int} : ∀ l : List α, (∀ x ∈ l, 0 ≤ f x) → 0 ≤ (l.map f).sum
  | [], _ => Int.le_refl _
  | x :: l, h => by
    have := sum_nn l fun y hy => h y (List.mem_cons_of_mem _ hy)
    have := h x List.mem_cons_self
    rw [List.map_cons, List.sum_cons]
    omega
/-- a word's number among those of its cost -/
theorem rk_bd : ∀ u : Wd, (∀ c ∈ u, c ∈ L.map (·.1)) → 0 ≤ rk L (costW L u) u ∧ rk L (costW L u) u < cN L (costW L u).toNat
  | [], _ => by
    show (0 : Int) ≤ 0 ∧ (0 : Int) < cN L 0
    rw [cN_zero]
    decide
  | c :: u, h => by
    have ih := rk_bd u fun x hx => h x (List.mem_cons_of_mem _ hx)
    have hge := cost_ge ok u
    obtain ⟨p, hp, rfl⟩ := List.mem_map.mp (h c List.mem_cons_self)
    have hc := costOf_mem (asc_nodup ok.asc) hp
    have h1 := ok.cost p hp
    obtain ⟨A, B, e, ef, _, _⟩ := part_at ok hp
    have eC : costW L (p.1 :: u) = p.2 + costW L u := by rw [costW_cons, hc]
    have en : cN L (costW L (p.1 :: u)).toNat = (L.map fun q => wN L (costW L (p.1 :: u) - q.2)).sum := by
      rw [cN_sum ok (by omega), show (((costW L (p.1 :: u)).toNat : Nat) : Int) = costW L (p.1 :: u) by omega]
    have er : rk L (costW L (p.1 :: u)) (p.1 :: u) = (A.map fun q => wN L (costW L (p.1 :: u) - q.2)).sum + rk L (costW L u) u := by
      show lowS L _ p.1 + rk L _ u = _
      unfold lowS
      rw [ef, hc, show costW L (p.1 :: u) - p.2 = costW L u by omega]
    have ew : wN L (costW L (p.1 :: u) - p.2) = cN L (costW L u).toNat := by
      unfold wN
      rw [show costW L (p.1 :: u) - p.2 = costW L u by omega, if_pos (by omega)]
    have nA := sum_nn (f := fun q : Nat × Int => wN L (costW L (p.1 :: u) - q.2)) A fun q _ => wN_nn ok _
    have nB := sum_nn (f := fun q : Nat × Int => wN L (costW L (p.1 :: u) - q.2)) B fun q _ => wN_nn ok _
    have es : ∀ f : Nat × Int → Int, (L.map f).sum = (A.map f).sum + (f p + (B.map f).sum) := fun f => by
      conv => lhs; rw [e]
      rw [List.map_append, List.map_cons, List.sum_append, List.sum_cons]
    have es2 := es fun q => wN L (costW L (p.1 :: u) - q.2)
    rw [ew] at es2
    rw [er, en, es2]
    omega
theorem plc_bd (u : Wd) (h : ∀ c ∈ u, c ∈ L.map (·.1)) : toN L (costW L u).toNat ≤ plc L u ∧ plc L u < toN L ((costW L u).toNat + 1) := by
  have := rk_bd ok u h
  rw [toN_succ]
  unfold plc
  omega
/-- a word is no longer than its number -/
theorem len_to : ∀ u : Wd, (∀ c ∈ u, c ∈ L.map (·.1)) → (u.length : Int) ≤ toN L (costW L u).toNat
  | [], _ => Int.le_refl _
  | c :: u, h => by
    have hu : ∀ x ∈ u, x ∈ L.map (·.1) := fun x hx => h x (List.mem_cons_of_mem _ hx)
    have ih := len_to u hu
    have hb := rk_bd ok u hu
    have h1 := (cost1 ok (h c List.mem_cons_self)).1
    have hge := cost_ge ok u
    have m := toN_mono ok (m := (costW L u).toNat + 1) (n := (costW L (c :: u)).toNat) (by rw [costW_cons]; omega)
    rw [toN_succ] at m
    rw [List.length_cons]
    omega
end
/-! ### the place of a sign -/
theorem occ_done (s sub : Str) (hi : Nat) (k : Nat) : ∀ (l : List Nat) (free : Nat), (forIn l ((#[k] : Array Nat), free) (StrLaws.occBody s sub hi 1)).run.fst = #[k]
  | [], _ => rfl
  | a :: l, free => by
    rw [List.forIn_cons]
    unfold StrLaws.occBody
    rw [if_neg (by simp)]
    exact occ_done s sub hi k l free
theorem occ_hit (s sub : Str) (hi k : Nat) (hk : k + sub.length ≤ hi ∧ Builtin.Str.subAt s sub k = true) : ∀ (l1 l2 : List Nat) (free : Nat), (∀ i ∈ l1 ++ k :: l2, free ≤ i) → (∀ i ∈ l1, ¬ (i + sub.length ≤ hi ∧ Builtin.Str.subAt s sub i = true)) →
    (forIn (l1 ++ k :: l2) ((#[] : Array Nat), free) (StrLaws.occBody s sub hi 1)).run.fst = #[k]
  | [], l2, free, hf, _ => by
    rw [List.nil_append, List.forIn_cons]
    unfold StrLaws.occBody
    have h0 := hf k (by simp)
    rw [if_pos ⟨⟨⟨by simp, h0⟩, hk.1⟩, hk.2⟩]
    exact occ_done s sub hi k l2 _
  | a :: l1, l2, free, hf, hn => by
    rw [List.cons_append, List.forIn_cons]
    unfold StrLaws.occBody
    rw [if_neg (fun c => hn a List.mem_cons_self ⟨c.1.2, c.2⟩)]
    exact occ_hit s sub hi k hk l1 l2 free (fun i h => hf i (List.mem_cons_of_mem _ h)) fun i h => hn i (List.mem_cons_of_mem _ h)
/-- where the first such sign stands -/
theorem occ_S {A B : List Nat} {c : Nat} (h : c ∉ A) : Builtin.Str.occurrences (S (A ++ c :: B)) (S [c]) 0 (S (A ++ c :: B)).length 1 = [A.length] := by
  rw [StrLaws.occ_eq]
  have ls : (S (A ++ c :: B)).length = A.length + (B.length + 1) := by rw [S_len, List.length_append, List.length_cons]
  have er : List.range' 0 ((S (A ++ c :: B)).length + 1 - 0) = List.range' 0 A.length ++ A.length :: List.range' (A.length + 1) (B.length + 1) := by
    rw [ls, show A.length + (B.length + 1) + 1 - 0 = A.length + ((B.length + 1) + 1) by omega, ← List.range'_append_1, Nat.zero_add]
    rfl
  have one := StrLaws.subAt_one (S (A ++ c :: B)) c
  have ch : (S (A ++ c :: B)).cps.toList = A ++ c :: B := chars_S _
  rw [ch] at one
  rw [er, occ_hit _ _ _ A.length ((one A.length).mpr (by simp)) _ _ 0 (fun _ _ => Nat.zero_le _) fun i hi hz => ?_]
  have h1 := (one i).mp hz
  have il : i < A.length := by
    have := List.mem_range'.mp hi
    omega
  rw [List.getElem?_append_left il] at h1
  exact h (List.mem_of_getElem? h1)
end K10

namespace K10
open PySem PySem.Spec PyProof.Rows L2 Ver Num SX
/-! ### words told, their cost -/
theorem tw_all {p : Nat → Bool} : ∀ l : List Nat, (∀ c ∈ l, p c = true) → l.takeWhile p = l
  | [], _ => rfl
  | c :: l, h => by
    rw [List.takeWhile_cons, if_pos (h c List.mem_cons_self), tw_all l fun d hd => h d (List.mem_cons_of_mem _ hd)]
/-- a text of such signs alone, stripped of them -/
theorem strip_all {u cs : Wd} (h : ∀ c ∈ u, c ∈ cs) : Txt.stripChars (S u) (S cs) = S [] := by
  have ht : (S u).cps.toList.takeWhile ((S cs).cps.contains) = u := by
    refine tw_all u fun c hc => ?_
    have := h c hc
    simp [this]
  have e0 : stripLo ((S cs).cps.contains) true (S u) = u.length := by
    unfold stripLo
    rw [if_pos rfl, ht]
  have e1 : stripHi ((S cs).cps.contains) true (S u) u.length = u.length := by
    unfold stripHi
    rw [if_pos rfl, chars_S, List.drop_length, S_len]
    rfl
  unfold Txt.stripChars Txt.stripBy stripSame stripped
  rw [e0, e1, S_len]
  cases u with
  | nil => rfl
  | cons c u =>
    rw [if_neg (by simp)]
    exact TL.ext_tl (by simp [Builtin.Str.strSub, TL.tl])
section
variable {P : Program} {w : World} {K : PySem.W.Frag} {mg : Str → Option Value} {base : Heap}
def spIsW : Sp := fun vs H Q _ => ∃ (u cs : Wd), vs = [vS u, vS cs] ∧ (∀ c ∈ u, c ∈ cs) ∧ u.length ≤ 160 ∧ Q (.bl true) H
theorem ok_is_word (T : Tx K mg) : FnG P w K mg base CX0 1 (He.ga K "is_word") spIsW := by
  refine mk_is_word T.d (fun vs H Q E h => ?_) (fun cdv A outer s H vs Q E hg hr h => ?_)
  · obtain ⟨u, cs, rfl, _⟩ := h
    rfl
  · obtain ⟨u, cs, rfl, hc, hl, q⟩ := h
    have nd := sc_is_word.nd
    obtain ⟨tk, hk⟩ := T.lw
    refine ⟨_, pss_cons (ps_if (PW.pt (pw_or (pt_not (pt_val (pe_callB call_isi (by rfl) (T.z "isinstance" (by decide +kernel)) (by decide +kernel) (pa_cons (pv 0) (pa_cons (pe_bltn (v := .ty "str") (by rfl) (T.z "str" (by decide +kernel)) (by decide +kernel) rfl) pa_nil)))))
        (pw_or1 (pt_cmpR op_gt (pe_callB call_len_str (by rfl) (T.z "len" (by decide +kernel)) (by decide +kernel) (pa_cons (pv 0) pa_nil)) (pe_glob (v := .int 160) (by rfl) hk ⟨_, rfl⟩) (nomark _))))) (pss_one (ps_ret pe_bl)) pss_nil)
      (pss_one (ps_ret (pe_cmpR op_eq (pe_bm PySem.F.plainAttrs_str PySem.F.slot_str_strip PySem.F.type_str_strip (mt_stripChars) (pv 0) (pa_cons (pv 1) pa_nil)) pe_str (nomark _)))), ?_⟩
    have ls := S_len u
    have kS : PySem.W.kitOne K (.type "str") (.type "str") = some true := kit_str (.str (S u))
    refine ⟨_, rfl, _, _, _, _, true, rfl, .ty "str", (Do.str (S u) : Do K H _ _).ty, kS, _, rfl, ifF rfl ?_⟩
    refine ⟨_, rfl, _, rfl, by rw [ls]; exact sl_of (by omega), _, _, rfl, rfl, _, rfl, ?_⟩
    rw [ls]
    refine ifF (decide_eq_false (by omega)) ⟨_, rfl, rfl, _, rfl, _, _, rfl, rfl, by rw [ls]; exact sl_of (by omega), rfl, ?_⟩
    rw [strip_all hc]
    exact q
/-! ### Order._check -/
def spChkB (K : PySem.W.Frag) : Sp := fun vs H Q _ => ∃ (o t : Addr) (L : LC) (us : List Wd), vs = [.ref o, .ref t] ∧ OrdAt K H o L ∧ H t = some (.tup (us.map vS)) ∧ (∀ u ∈ us, WOk L u) ∧ Q .non H
def spChk (K : PySem.W.Frag) : Sp := fun vs H Q _ => ∃ (o : Addr) (L : LC) (us : List Wd), vs = .ref o :: us.map vS ∧ OrdAt K H o L ∧ us.length ≤ 100 ∧ (∀ u ∈ us, WOk L u) ∧ ∀ H', Same H H' → Q .non H'
theorem ok_check (T : Tx K mg) : FnG P w K mg base CX0 2 (He.ma K (OC K) "_check") (spChk K) := by
  obtain ⟨fd, FD⟩ := T.d.def_ 22 (d := d_Order__check) rfl
  have star := okStar (P := P) (w := w) (mg := mg) (base := base) (k := 1) (sp := spChkB K) (ps := ["self"]) (pr := "values") FD sc_Order__check
    (fun kV doc pm an cdv ct us rest hl => by
      match us, hl with
      | [a], _ => cases rest <;> rfl) (fun cdv A outer s H vs Q E hg hr h => by
      obtain ⟨o, t, L, us, rfl, at_, ht, hw, q⟩ := h
      have nd := sc_Order__check.nd
      refine ⟨_, pss_one (ps_for PassesOwn.never rfl (pi_tup (pv 1)) (pg_name (i := 2) nd rfl (.inl rfl))
        (pss_one (ps_if (pt_not (pt_val (pe_callG (ok_is_word T) hr hg (by rfl) (T.g "is_word" (by decide +kernel)) (kp_is_word T.d) pass0 (pa_cons (pv 2) (pa_cons (pe_fld (pv 0) rfl) pa_nil))))) pss_never pss_nil))), ?_⟩
      obtain ⟨dx, dc, fw, ho, hd, hf⟩ := id at_.ex
      refine ⟨_, rfl, t, rfl, ⟨_, SqT.of ht⟩, for_it wk_tup (fun j σ H' => ∃ v2 : Option V, σ = [some (.ref o), some (.ref t), v2] ∧ H' = H) ⟨none, rfl, rfl⟩ (fun j σ H' _ ⟨_, _, e⟩ => by rw [e]; exact SqT.of ht) ?_ ?_⟩
      · rintro j x σ H1 H2 hj ⟨v2, rfl, rfl⟩ ⟨rfl, hx⟩
        rw [List.getElem?_map] at hx
        cases hm : us[j]? with
        | none =>
          rw [hm] at hx
          cases hx
        | some u =>
          rw [hm] at hx
          cases hx
          obtain ⟨w1, w2⟩ := hw u (List.mem_of_getElem? hm)
          exact ⟨_, rfl, _, rfl, o, _, dx, _, _, rfl, ho, T.o.cl, T.o.na _ (by decide +kernel), rfl, u, L.map (·.1), rfl, w1, w2, _, rfl, ifF rfl ⟨_, rfl, rfl⟩⟩
      · rintro σ H1 ⟨v2, rfl, rfl⟩
        exact q)
  intro A outer s H us vs Q E hg hr e0 r h
  obtain ⟨o, L, us', rfl, at_, l9, hw, q⟩ := h
  refine star A outer s H us _ Q E hg hr e0 r ⟨[.ref o], us'.map vS, rfl, rfl, ?_, fun t nt => ?_⟩
  · rw [List.length_map]
    exact sl_of (by omega)
  · have s0 := same_up (o := .tup (us'.map vS)) nt
    exact ⟨o, t, L, us', rfl, at_.same s0, upd_same, hw, q _ s0⟩
/-! ### Order._cost_of, cost, place_of -/
def spCostW (K : PySem.W.Frag) : Sp := fun vs H Q _ => ∃ (o : Addr) (L : LC) (u : Wd), vs = [.ref o, vS u] ∧ OrdAt K H o L ∧ (∀ c ∈ u, c ∈ L.map (·.1)) ∧ u.length ≤ 1000 ∧ ∀ H', Same H H' → Q (.int (costW L u)) H'
theorem ok_cost_w (T : Tx K mg) : FnG P w K mg base CX0 1 (He.ma K (OC K) "_cost_of") (spCostW K) := by
  refine mk_Order__cost_of T.d (fun vs H Q E h => ?_) (fun cdv A outer s H vs Q E hg hr h => ?_)
  · obtain ⟨o, L, u, rfl, _⟩ := h
    rfl
  · obtain ⟨o, L, u, rfl, at_, hu2, l9, q⟩ := h
    have nd := sc_Order__cost_of.nd
    have hu := hu_of hr
    refine ⟨_, pss_one (ps_ret (pe_callB (cr_sum rfl) (by rfl) (T.z "sum" (by decide +kernel)) (by decide +kernel) (pa_cons
        (pe_lc (own := [("letter", 2)]) (g := gName 2) (tt := tYes) rfl nd (pi_str (pv 1)) (blkOk_by (N := n_Order__cost_of) (sc := defScope s_Order__cost_of) (by decide +kernel)) (fun _ _ _ _ _ => pg_name (i := 2) nd rfl (Or.inl rfl)) (fun _ _ _ _ _ => pts_nil)
          (te := tDGet (tFld K (tVar 0) "_costs") (tVar 2)) (fun _ _ _ _ _ => pe_dget hu (pe_fld (pv 0) rfl) (pv 2) (fun _ _ => rfl))) pa_nil))), ?_⟩
    have asz : (S u).cps.size = u.length := by simp
    have ndL := asc_nodup at_.ok.asc
    refine ⟨_, rfl, S u, rfl, fun D nD => lc_one wk_str (fun i => .int (costOf L (u.getD i 0))) nD (by rw [asz]; omega) (fun _ _ => trivial) (fun j x H' R hj s' hx hR => ?_) (fun H2 s2 hD => ?_)⟩
    · obtain ⟨c, hc, rfl⟩ := hx
      rw [← Array.getElem?_toList, chars_S] at hc
      have e : u.getD j 0 = c := by rw [List.getD_eq_getElem?_getD, hc]; rfl
      rw [e] at hR
      obtain ⟨pc, hpc, rfl⟩ := List.mem_map.mp (hu2 c (List.mem_of_getElem? hc))
      obtain ⟨dx, dc, fw, ho, hd, hf⟩ := (at_.same s').ex
      have hv := DGet.k (k := Sum.inr (S [pc.1])) hd
      rw [valV_mem ndL hpc] at hv
      rw [costOf_mem ndL hpc] at hR
      exact ⟨_, rfl, o, _, dx, _, _, rfl, ho, T.o.cl, T.o.na _ (by decide +kernel), rfl, _, rfl, dc, _, rfl, hv, hR⟩
    · have e : ((List.range (S u).cps.size).map fun i => V.int (costOf L (u.getD i 0))) = (u.map (costOf L)).map V.int := by
        rw [asz, range_map u (fun c => V.int (costOf L c)) _ fun i x hx => by rw [List.getD_eq_getElem?_getD, hx]; rfl]
        exact (List.map_map ..).symm
      rw [e] at hD
      exact ⟨D, _, rfl, SqL.of hD, q H2 s2⟩
theorem go_me (T : Tx K mg) {H : Hp} {o : Addr} {L : LC} (at_ : OrdAt K H o L) {m : Str} (hm : m ∈ oms) : ∃ C dx fs, H o = some (.ins C dx fs) ∧ Cls K C ∧ Meth K C m (He.ma K (OC K) m) ∧ fs.lookup m = none := by
  obtain ⟨dx, dc, fw, ho, _⟩ := id at_.ex
  exact ⟨OC K, dx, _, ho, T.o.cl, T.me hm, lk_none hm⟩
/-! ### Order._ways, any cost -/
def spWaysG (K : PySem.W.Frag) : Sp := fun vs H Q _ => ∃ (o a : Addr) (L : LC) (n : Nat) (C : Int) (p : Nat × Int), vs = [.ref o, .ref a, .int C, .str (S [p.1])] ∧ OrdAt K H o L ∧ p ∈ L ∧ C ≤ (n : Int) ∧ SqL K H a ((cntL (L.map (·.2)) n).map V.int) ∧ Q (.int (wN L (C - p.2))) H
theorem ok_waysG (T : Tx K mg) : FnG P w K mg base CX0 1 (He.ma K (OC K) "_ways") (spWaysG K) := by
  refine mk_Order__ways T.d (fun vs H Q E h => ?_) (fun cdv A outer s H vs Q E hg hr h => ?_)
  · obtain ⟨o, a, L, n, C, p, rfl, _⟩ := h
    rfl
  · obtain ⟨o, a, L, n, C, p, rfl, at_, hp, hC, ha, q⟩ := h
    have nd := sc_Order__ways.nd
    have hu := hu_of hr
    refine ⟨_, pss_cons (ps_set (i := 4) nd rfl (Or.inl rfl) (pe_op op_sub (pv 2) (pe_dget hu (pe_fld (pv 0) rfl) (pv 3) (fun _ _ => rfl))))
      (pss_one (ps_ret (pe_ifExp (pt_cmpR op_ge (pv 4) pe_int (nomark _)) (pe_ix ix_list (pv 1) (pv 4) (fun _ _ => rfl)) pe_int))), ?_⟩
    obtain ⟨dx, dc, fw, ho, hd, hf⟩ := id at_.ex
    have hv := DGet.k (k := Sum.inr (S [p.1])) hd
    rw [valV_mem (asc_nodup at_.ok.asc) hp] at hv
    have c1 := (at_.ok.cost p hp).1
    refine ⟨_, rfl, _, rfl, o, _, dx, _, _, rfl, ho, T.o.cl, T.o.na _ (by decide +kernel), rfl, _, rfl, dc, _, rfl, hv, _, _, rfl, rfl, ?_⟩
    refine ⟨_, rfl, _, _, rfl, rfl, _, rfl, ?_⟩
    unfold wN at q
    by_cases h : (0 : Int) ≤ C - p.2
    · rw [if_pos h] at q
      refine ifT (decide_eq_true h) ⟨_, rfl, _, rfl, ?_⟩
      obtain ⟨u, hu2⟩ : ∃ u : Nat, C - p.2 = (u : Int) := ⟨(C - p.2).toNat, by omega⟩
      have ul : u < (cntL (L.map (·.2)) n).length := by rw [cntL_len]; omega
      rw [hu2, Int.toNat_natCast] at q
      unfold cN at q
      rw [← cntL_get (n := n) (by omega), List.getD_eq_getElem?_getD, List.getElem?_eq_getElem ul] at q
      dsimp only
      rw [hu2]
      exact ⟨a, _, _, _, rfl, rfl, ha, atI_nat (by rw [List.getElem?_map, List.getElem?_eq_getElem ul]; rfl), q⟩
    · rw [if_neg h] at q
      exact ifF (decide_eq_false h) q
/-! ### count_before, number_of -/
theorem drop_cons {u : Wd} {j : Nat} {c : Nat} (h : u[j]? = some c) : u.drop j = c :: u.drop (j + 1) := by
  obtain ⟨hl, e⟩ := List.getElem?_eq_some_iff.mp h
  rw [List.drop_eq_getElem_cons hl, e]
theorem take_S (u : Wd) (j : Nat) : Txt.slice (S u) none (some (j : Int)) = S (u.take j) := by
  rw [← C8.cutS_slice]
  show (⟨(((S u).cps.toList.drop (HT.sIx (S u).length 0 none)).take (HT.sIx (S u).length (S u).length (some (j : Int)) - HT.sIx (S u).length 0 none)).toArray⟩ : Str) = _
  rw [chars_S, S_len, HT.sIx_nat, HT.sIx_none]
  show S ((u.drop 0).take (min j u.length - 0)) = _
  rw [List.drop_zero, Nat.sub_zero]
  have e : u.take (min j u.length) = u.take j := by
    rcases Nat.le_total j u.length with h | h
    · rw [Nat.min_eq_left h]
    · rw [Nat.min_eq_right h, List.take_of_length_le (Nat.le_refl _), List.take_of_length_le h]
  rw [e]
def spBefore (K : PySem.W.Frag) : Sp := fun vs H Q _ => ∃ (o : Addr) (L : LC) (u : Wd), vs = [.ref o, vS u] ∧ OrdAt K H o L ∧ WOk L u ∧ ∀ H', Same H H' → Q (.int (plc L u)) H'
end
end K10

/-! sums of at most four numbers from 1 to 9: from 56 on all multiples of their divisor -/
namespace Num
def clo (R s : Nat) : Nat := [64, 32, 16, 8, 4, 2, 1].foldr (fun k R => R ||| (R <<< (k * s))) R
def okQ (R g : Nat) : Bool := [56, 57, 58, 59, 60, 61, 62, 63, 64].all fun n => n % g != 0 || R.testBit n
def quadB : Bool := (List.range 9).all fun a => (fun R1 => (List.range 9).all fun b => (fun R2 g2 => (List.range 9).all fun c => (fun R3 g3 => (List.range 9).all fun d => okQ (clo R3 (d + 1)) (Nat.gcd g3 (d + 1))) (clo R2 (c + 1)) (Nat.gcd g2 (c + 1))) (clo R1 (b + 1)) (Nat.gcd (a + 1) (b + 1))) (clo 1 (a + 1))
theorem quad_ok : quadB = true := by decide +kernel
theorem it_add {P : Nat → Prop} {s : Nat} (hs : ∀ n, P n → P (n + s)) : ∀ m n, P n → P (n + m * s)
  | 0, n, h => by rw [Nat.zero_mul]; exact h
  | m + 1, n, h => by
    have := hs _ (it_add hs m n h)
    rw [Nat.succ_mul, ← Nat.add_assoc]
    exact this
theorem clo_rep {P : Nat → Prop} {s : Nat} (hs : ∀ n, P n → P (n + s)) : ∀ (ks : List Nat) (R : Nat), (∀ n, R.testBit n = true → P n) → ∀ n, (ks.foldr (fun k R => R ||| (R <<< (k * s))) R).testBit n = true → P n
  | [], R, h, n, hn => h n hn
  | k :: ks, R, h, n, hn => by
    have ih := clo_rep hs ks R h
    rw [List.foldr_cons, Nat.testBit_or, Bool.or_eq_true] at hn
    rcases hn with hn | hn
    · exact ih n hn
    · rw [Nat.testBit_shiftLeft, Bool.and_eq_true, decide_eq_true_eq] at hn
      have := it_add hs k _ (ih _ hn.2)
      rw [Nat.sub_add_cancel hn.1] at this
      exact this
/-- four steps from 1 to 9, a set closed under them with nought in it: all multiples of their divisor from 56 to 64 -/
theorem quad_rep {P : Nat → Prop} (h0 : P 0) {a b c d : Nat} (ha : 1 ≤ a ∧ a ≤ 9) (hb : 1 ≤ b ∧ b ≤ 9) (hc : 1 ≤ c ∧ c ≤ 9) (hd : 1 ≤ d ∧ d ≤ 9) (sa : ∀ n, P n → P (n + a)) (sb : ∀ n, P n → P (n + b)) (sc : ∀ n, P n → P (n + c)) (sd : ∀ n, P n → P (n + d))
    {n : Nat} (h1 : 56 ≤ n) (h2 : n ≤ 64) (hg : Nat.gcd (Nat.gcd (Nat.gcd a b) c) d ∣ n) : P n := by
  obtain ⟨a, rfl⟩ : ∃ a', a = a' + 1 := ⟨a - 1, by omega⟩
  obtain ⟨b, rfl⟩ : ∃ a', b = a' + 1 := ⟨b - 1, by omega⟩
  obtain ⟨c, rfl⟩ : ∃ a', c = a' + 1 := ⟨c - 1, by omega⟩
  obtain ⟨d, rfl⟩ : ∃ a', d = a' + 1 := ⟨d - 1, by omega⟩
  have q := quad_ok
  unfold quadB at q
  have q := List.all_eq_true.mp q a (List.mem_range.mpr (by omega))
  have q := List.all_eq_true.mp q b (List.mem_range.mpr (by omega))
  have q := List.all_eq_true.mp q c (List.mem_range.mpr (by omega))
  have q := List.all_eq_true.mp q d (List.mem_range.mpr (by omega))
  have q := List.all_eq_true.mp q n (by
    simp only [List.mem_cons, List.not_mem_nil, or_false]
    omega)
  rw [Bool.or_eq_true] at q
  rcases q with q | q
  · have : n % Nat.gcd (Nat.gcd (Nat.gcd (a + 1) (b + 1)) (c + 1)) (d + 1) = 0 := Nat.mod_eq_zero_of_dvd hg
    rw [this] at q
    cases q
  · have p1 : ∀ n, (1 : Nat).testBit n = true → P n := fun n hn => by
      have : n = 0 := by
        rcases Nat.eq_zero_or_pos n with h | h
        · exact h
        · have : (1 : Nat).testBit n = false := Nat.testBit_lt_two_pow (Nat.one_lt_two_pow (by omega))
          rw [this] at hn
          cases hn
      rw [this]
      exact h0
    exact clo_rep sd _ _ (clo_rep sc _ _ (clo_rep sb _ _ (clo_rep sa _ _ p1))) n q
end Num

namespace K10
open PySem PySem.Spec PyProof.Rows L2 Ver Num SX
/-! ### which costs words have -/
theorem sum_pos {α : Type} {f : α → Int} : ∀ l : List α, (∀ x ∈ l, 0 ≤ f x) → (0 < (l.map f).sum ↔ ∃ x ∈ l, 0 < f x)
  | [], _ => by simp
  | x :: l, h => by
    have ih := sum_pos l fun y hy => h y (List.mem_cons_of_mem _ hy)
    have h1 := h x List.mem_cons_self
    have h2 := sum_nn l fun y hy => h y (List.mem_cons_of_mem _ hy)
    rw [List.map_cons, List.sum_cons]
    constructor
    · intro hz
      by_cases hx : 0 < f x
      · exact ⟨x, List.mem_cons_self, hx⟩
      · obtain ⟨y, hy, hp⟩ := ih.mp (by omega)
        exact ⟨y, List.mem_cons_of_mem _ hy, hp⟩
    · rintro ⟨y, hy, hp⟩
      rcases List.mem_cons.mp hy with rfl | hy
      · omega
      · have := ih.mpr ⟨y, hy, hp⟩
        omega
theorem fold_dvd : ∀ (st : List Int) (a : Int), (st.foldl (fun a b => ((Nat.gcd a.natAbs b.natAbs : Nat) : Int)) a).natAbs ∣ a.natAbs ∧ ∀ s ∈ st, (st.foldl (fun a b => ((Nat.gcd a.natAbs b.natAbs : Nat) : Int)) a).natAbs ∣ s.natAbs
  | [], a => ⟨Nat.dvd_refl _, fun s hs => nomatch hs⟩
  | s :: st, a => by
    obtain ⟨h1, h2⟩ := fold_dvd st ((Nat.gcd a.natAbs s.natAbs : Nat) : Int)
    rw [Int.natAbs_natCast] at h1
    rw [List.foldl_cons]
    refine ⟨Nat.dvd_trans h1 (Nat.gcd_dvd_left _ _), fun x hx => ?_⟩
    rcases List.mem_cons.mp hx with rfl | hx
    · exact Nat.dvd_trans h1 (Nat.gcd_dvd_right _ _)
    · exact h2 x hx
theorem dvd_fold {d : Nat} : ∀ (st : List Int) (a : Int), d ∣ a.natAbs → (∀ s ∈ st, d ∣ s.natAbs) → d ∣ (st.foldl (fun a b => ((Nat.gcd a.natAbs b.natAbs : Nat) : Int)) a).natAbs
  | [], a, h, _ => h
  | s :: st, a, h, hs => by
    rw [List.foldl_cons]
    refine dvd_fold st _ ?_ fun x hx => hs x (List.mem_cons_of_mem _ hx)
    rw [Int.natAbs_natCast]
    exact Nat.dvd_gcd h (hs s List.mem_cons_self)
section
variable {L : LC} (ok : LOk L)
include ok
omit ok in
theorem wN_pos (k : Int) : 0 < wN L k ↔ 0 ≤ k ∧ 0 < cN L k.toNat := by
  unfold wN
  by_cases h : 0 ≤ k
  · rw [if_pos h]
    exact ⟨fun z => ⟨h, z⟩, fun z => z.2⟩
  · rw [if_neg h]
    exact ⟨fun z => absurd z (Int.lt_irrefl 0), fun z => absurd z.1 h⟩
theorem cN_pos {n : Nat} (hn : 1 ≤ n) : 0 < cN L n ↔ ∃ p ∈ L, 0 < wN L ((n : Int) - p.2) := by
  rw [cN_sum ok hn]
  exact sum_pos L fun p _ => wN_nn ok _
omit ok in
theorem few_get {st : List Int} {n : Nat} : ∀ {m : Nat}, n ≤ m → (fewL st m).getD n false = (fewL st n).getD n false
  | 0, h => by
    obtain rfl : n = 0 := by omega
    rfl
  | m + 1, h => by
    by_cases hc : n = m + 1
    · rw [hc]
    · have hl : n < (fewL st m).length := by rw [fewL_len]; omega
      have e : (fewL st (m + 1)).getD n false = (fewL st m).getD n false := by
        show (fewL st m ++ [_]).getD n false = _
        rw [List.getD_eq_getElem?_getD, List.getElem?_append_left hl, List.getD_eq_getElem?_getD]
      rw [e]
      exact few_get (by omega)
theorem few_is (n : Nat) : (fewL (L.map (·.2)) n).getD n false = decide (0 < cN L n) := by
  induction n using Nat.strongRecOn with
  | _ n ih =>
    match n with
    | 0 => rfl
    | n + 1 =>
      have e : (fewL (L.map (·.2)) (n + 1)).getD (n + 1) false = (L.map (·.2)).any fun s => decide (s ≤ ((n + 1 : Nat) : Int)) && (fewL (L.map (·.2)) n).getD (((n + 1 : Nat) : Int) - s).toNat false := by
        show (fewL (L.map fun q : Nat × Int => q.2) n ++ [_]).getD (n + 1) false = _
        rw [List.getD_eq_getElem?_getD, List.getElem?_append_right (by rw [fewL_len]; exact Nat.le_refl _), fewL_len, Nat.sub_self]
        rfl
      rw [e, Bool.eq_iff_iff, List.any_eq_true, decide_eq_true_iff, cN_pos ok (by omega)]
      constructor
      · rintro ⟨s, hs, h⟩
        obtain ⟨p, hp, rfl⟩ := List.mem_map.mp hs
        have h1 := (ok.cost p hp).1
        rw [Bool.and_eq_true, decide_eq_true_iff] at h
        refine ⟨p, hp, (wN_pos _).mpr ⟨by omega, ?_⟩⟩
        have := h.2
        rw [few_get (by omega), ih _ (by omega), decide_eq_true_iff] at this
        exact this
      · rintro ⟨p, hp, h⟩
        have h1 := (ok.cost p hp).1
        obtain ⟨h2, h3⟩ := (wN_pos _).mp h
        refine ⟨p.2, List.mem_map.mpr ⟨p, hp, rfl⟩, ?_⟩
        rw [Bool.and_eq_true, decide_eq_true_iff]
        refine ⟨by omega, ?_⟩
        rw [few_get (by omega), ih _ (by omega), decide_eq_true_iff]
        exact h3
theorem rep_add {n : Nat} {p : Nat × Int} (hp : p ∈ L) (h : 0 < cN L n) : 0 < cN L (n + p.2.toNat) := by
  have h1 := (ok.cost p hp).1
  refine (cN_pos ok (by omega)).mpr ⟨p, hp, (wN_pos _).mpr ⟨by omega, ?_⟩⟩
  have : (((n + p.2.toNat : Nat) : Int) - p.2).toNat = n := by omega
  rw [this]
  exact h
theorem rep_dvd (n : Nat) (h : 0 < cN L n) : (divN (L.map (·.2))).natAbs ∣ n := by
  induction n using Nat.strongRecOn with
  | _ n ih =>
    by_cases hn : n = 0
    · rw [hn]
      exact Nat.dvd_zero _
    · obtain ⟨p, hp, h2⟩ := (cN_pos ok (by omega)).mp h
      have h1 := (ok.cost p hp).1
      obtain ⟨h3, h4⟩ := (wN_pos _).mp h2
      have d1 := ih _ (by omega) h4
      have d2 := (fold_dvd (L.map (·.2)) 0).2 p.2 (List.mem_map.mpr ⟨p, hp, rfl⟩)
      have e : n = ((n : Int) - p.2).toNat + p.2.natAbs := by omega
      rw [e]
      exact Nat.dvd_add d1 d2
omit ok in
theorem four {α : Type} : ∀ l : List α, 1 ≤ l.length → l.length ≤ 4 → ∃ a b c d, a ∈ l ∧ b ∈ l ∧ c ∈ l ∧ d ∈ l ∧ ∀ x ∈ l, x = a ∨ x = b ∨ x = c ∨ x = d
  | [a], _, _ => ⟨a, a, a, a, by simp⟩
  | [a, b], _, _ => ⟨a, b, b, b, by simp⟩
  | [a, b, c], _, _ => ⟨a, b, c, c, by simp⟩
  | [a, b, c, d], _, _ => ⟨a, b, c, d, by simp⟩
  | [], h, _ => by simp at h
  | _ :: _ :: _ :: _ :: _ :: _, _, h => by simp at h
theorem rep_far (n : Nat) (h : 56 ≤ n) (hg : (divN (L.map (·.2))).natAbs ∣ n) : 0 < cN L n := by
  induction n using Nat.strongRecOn with
  | _ n ih =>
    obtain ⟨a, b, c, d, ha, hb, hc, hd, hall⟩ := four L ok.pos ok.few
    by_cases h64 : n ≤ 64
    · have ra := ok.cost a ha
      have rb := ok.cost b hb
      have rc := ok.cost c hc
      have rd := ok.cost d hd
      refine quad_rep (P := fun n => 0 < cN L n) (by rw [cN_zero]; decide) (a := a.2.toNat) (b := b.2.toNat) (c := c.2.toNat) (d := d.2.toNat) (by omega) (by omega) (by omega) (by omega)
        (fun n h => rep_add ok ha h) (fun n h => rep_add ok hb h) (fun n h => rep_add ok hc h) (fun n h => rep_add ok hd h) h h64 (Nat.dvd_trans ?_ hg)
      refine dvd_fold _ _ (Nat.dvd_zero _) fun s hs => ?_
      obtain ⟨p, hp, rfl⟩ := List.mem_map.mp hs
      have e : ∀ q ∈ L, q.2.natAbs = q.2.toNat := fun q hq => by
        have := (ok.cost q hq).1
        omega
      rw [e p hp]
      rcases hall p hp with rfl | rfl | rfl | rfl
      · exact Nat.dvd_trans (Nat.gcd_dvd_left _ _) (Nat.dvd_trans (Nat.gcd_dvd_left _ _) (Nat.gcd_dvd_left _ _))
      · exact Nat.dvd_trans (Nat.gcd_dvd_left _ _) (Nat.dvd_trans (Nat.gcd_dvd_left _ _) (Nat.gcd_dvd_right _ _))
      · exact Nat.dvd_trans (Nat.gcd_dvd_left _ _) (Nat.gcd_dvd_right _ _)
      · exact Nat.gcd_dvd_right _ _
    · have ra := ok.cost a ha
      have d2 := (fold_dvd (L.map (·.2)) 0).2 a.2 (List.mem_map.mpr ⟨a, ha, rfl⟩)
      have e : a.2.natAbs = a.2.toNat := by omega
      rw [e] at d2
      have := ih (n - a.2.toNat) (by omega) (by omega) (Nat.dvd_sub hg d2)
      have := rep_add ok ha this
      rw [Nat.sub_add_cancel (by omega)] at this
      exact this
theorem div_pos : 0 < divN (L.map (·.2)) := by
  obtain ⟨a, b, c, d, ha, _⟩ := four L ok.pos ok.few
  have ra := ok.cost a ha
  have d2 := (fold_dvd (L.map (·.2)) 0).2 a.2 (List.mem_map.mpr ⟨a, ha, rfl⟩)
  have hne : (divN (L.map (·.2))).natAbs ≠ 0 := fun z => by
    have d2 : (divN (L.map (·.2))).natAbs ∣ a.2.natAbs := d2
    rw [z, Nat.zero_dvd] at d2
    omega
  have nn : ∀ (st : List Int) (x : Int), 0 ≤ x → 0 ≤ st.foldl (fun a b => ((Nat.gcd a.natAbs b.natAbs : Nat) : Int)) x := by
    intro st
    induction st with
    | nil => exact fun x h => h
    | cons s st ih => exact fun x h => ih _ (Int.natCast_nonneg _)
  have := nn (L.map (·.2)) 0 (Int.le_refl _)
  have this : 0 ≤ divN (L.map (·.2)) := this
  omega
theorem far_is {C : Int} (h : 56 ≤ C) : decide (C % divN (L.map (·.2)) = 0) = decide (0 < wN L C) := by
  have hp := div_pos ok
  obtain ⟨n, rfl⟩ : ∃ n : Nat, C = (n : Int) := ⟨C.toNat, by omega⟩
  refine decide_eq_decide.mpr ?_
  rw [wN_pos, Int.toNat_natCast]
  have e : (n : Int) % divN (L.map (·.2)) = 0 ↔ (divN (L.map (·.2))).natAbs ∣ n := by
    rw [← Int.dvd_iff_emod_eq_zero, ← Int.natAbs_dvd_natAbs, Int.natAbs_natCast]
  rw [e]
  exact ⟨fun z => ⟨by omega, rep_far ok n (by omega) z⟩, fun z => rep_dvd ok n z.2⟩
end
section
variable {P : Program} {w : World} {K : PySem.W.Frag} {mg : Str → Option Value} {base : Heap}
/-! ### Order._has_words -/
def spHas (K : PySem.W.Frag) : Sp := fun vs H Q _ => ∃ (o : Addr) (L : LC) (C : Int), vs = [.ref o, .int C] ∧ OrdAt K H o L ∧ Q (.bl (decide (0 < wN L C))) H
theorem ok_has (T : Tx K mg) : FnG P w K mg base CX0 1 (He.ma K (OC K) "_has_words") (spHas K) := by
  refine mk_Order__has_words T.d (fun vs H Q E h => ?_) (fun cdv A outer s H vs Q E hg hr h => ?_)
  · obtain ⟨o, L, C, rfl, _⟩ := h
    rfl
  · obtain ⟨o, L, C, rfl, at_, q⟩ := h
    have nd := sc_Order__has_words.nd
    obtain ⟨tk, hk⟩ := T.st
    refine ⟨_, pss_cons (ps_if (pt_cmpR op_lt (pv 1) (pe_glob (v := .int 56) (by rfl) hk ⟨_, rfl⟩) (nomark _)) (pss_one (ps_ret (pe_and (pe_cmpR op_ge (pv 1) pe_int (nomark _)) (pe_one (pe_ix ix_list (pe_fld (pv 0) rfl) (pv 1) (fun _ _ => rfl)))))) pss_nil)
      (pss_one (ps_ret (pe_cmpR op_eq (pe_op op_mod (pv 1) (pe_fld (pv 0) rfl)) pe_int (nomark _)))), ?_⟩
    obtain ⟨dx, dc, fw, ho, hd, hf⟩ := id at_.ex
    have ok := at_.ok
    refine ⟨_, rfl, _, _, rfl, rfl, _, rfl, ?_⟩
    by_cases h : C < 56
    · refine ifT (decide_eq_true h) ⟨_, rfl, _, _, rfl, rfl, _, rfl, ?_⟩
      by_cases h0 : 0 ≤ C
      · obtain ⟨n, rfl⟩ : ∃ n : Nat, C = (n : Int) := ⟨C.toNat, by omega⟩
        have nl : n < (fewL (L.map (·.2)) 55).length := by rw [fewL_len]; omega
        have e : (fewL (L.map (·.2)) 55)[n] = decide (0 < wN L (n : Int)) := by
          have h1 := few_get (st := L.map (·.2)) (n := n) (m := 55) (by omega)
          rw [few_is ok, List.getD_eq_getElem?_getD, List.getElem?_eq_getElem nl] at h1
          have h1 : (fewL (L.map (·.2)) 55)[n] = decide (0 < cN L n) := h1
          rw [h1]
          refine decide_eq_decide.mpr ?_
          rw [wN_pos, Int.toNat_natCast]
          exact ⟨fun z => ⟨by omega, z⟩, fun z => z.2⟩
        refine ifT (decide_eq_true h0) ⟨_, rfl, o, _, dx, _, _, rfl, ho, T.o.cl, T.o.na _ (by decide +kernel), rfl, _, rfl, fw, _, _, _, rfl, rfl, SqL.of hf, atI_nat (by rw [List.getElem?_map, List.getElem?_eq_getElem nl]; rfl), ?_⟩
        rw [e]
        exact q
      · refine ifF (decide_eq_false h0) ?_
        have e : decide (0 < wN L C) = false := decide_eq_false fun z => h0 ((wN_pos _).mp z).1
        rw [e] at q
        exact q
    · refine ifF (decide_eq_false h) ⟨_, rfl, _, rfl, o, _, dx, _, _, rfl, ho, T.o.cl, T.o.na _ (by decide +kernel), rfl, _, _, rfl, rfl, div_pos ok, rfl, ?_⟩
      rw [iEq, far_is ok (by omega)]
      exact q
end
end K10

namespace K10
open PySem PySem.Spec PyProof.Rows L2 Ver Num SX
/-- the first word of a cost, the letters taken in the order ms -/
inductive Outm (L : LC) (ms : List Nat) : Int → Wd → Prop
  | nil : Outm L ms 0 []
  | cons {C : Int} {c : Nat} {u A B : Wd} : ms = A ++ c :: B → (∀ x ∈ A, ¬ 0 < wN L (C - costOf L x)) → 0 < wN L (C - costOf L c) → Outm L ms (C - costOf L c) u → Outm L ms C (c :: u)
theorem outm_over {L : LC} {ms : List Nat} (hm : ∀ c ∈ ms, c ∈ L.map (·.1)) {C : Int} {u : Wd} (h : Outm L ms C u) : (∀ c ∈ u, c ∈ L.map (·.1)) ∧ costW L u = C := by
  induction h with
  | nil => exact ⟨fun c hc => (nomatch hc), rfl⟩
  | @cons C c u A B e _ _ _ ih =>
    refine ⟨fun x hx => ?_, ?_⟩
    · rcases List.mem_cons.mp hx with rfl | hx
      · exact hm x (by rw [e]; exact List.mem_append_right _ List.mem_cons_self)
      · exact ih.1 x hx
    · rw [costW_cons, ih.2]
      omega
section
variable {P : Program} {w : World} {K : PySem.W.Frag} {mg : Str → Option Value} {base : Heap}
def spOut (K : PySem.W.Frag) : Sp := fun vs H Q _ => ∃ (o : Addr) (L : LC) (C : Int) (ms : List Nat), vs = [.ref o, .int C, vS ms] ∧ OrdAt K H o L ∧ (∀ c, c ∈ ms ↔ c ∈ L.map (·.1)) ∧ 0 < wN L C ∧ C ≤ 15000 ∧
  ∀ (v : Wd) (H' : Hp), Outm L ms C v → Same H H' → Q (vS v) H'
theorem ok_out (T : Tx K mg) : FnG P w K mg base CX0 2 (He.ma K (OC K) "_outermost") (spOut K) := by
  refine mk_Order__outermost T.d (fun vs H Q E h => ?_) (fun cdv A outer s H vs Q E hg hr h => ?_)
  · obtain ⟨o, L, C, ms, rfl, _⟩ := h
    rfl
  · obtain ⟨o, L, C, ms, rfl, at_, hm, hw, hC, q⟩ := h
    have nd := sc_Order__outermost.nd
    have hu := hu_of hr
    refine ⟨_, pss_cons (ps_set (i := 3) nd rfl (Or.inl rfl) (pe_lst pa_nil))
      (pss_cons (ps_while PassesOwn.never (pt_cmpR op_gt (pv 1) pe_int (nomark _))
        (pss_cons (ps_for PassesOwn.never rfl (pi_str (pv 2)) (pg_name (i := 4) nd rfl (.inl rfl))
          (pss_one (ps_if (pt_val (pe_methG (pv 0) (kp_Order__has_words T.d) (ok_has T) hr hg pass0 (pa_cons (pe_op op_sub (pv 1) (pe_dget hu (pe_fld (pv 0) rfl) (pv 4) (fun _ _ => rfl))) pa_nil))) (pss_one ps_break) pss_nil)))
        (pss_cons (ps_expr (pe_bm PySem.F.plainAttrs_list PySem.F.slot_list_append PySem.F.type_list_append mt_append (pv 3) (pa_cons (pv 4) pa_nil)))
        (pss_one (ps_aug (i := 1) nd rfl (.inl rfl) (pe_dget hu (pe_fld (pv 0) rfl) (pv 4) (fun _ _ => rfl)) ip_sub)))))
      (pss_one (ps_ret (pe_join pe_str (pv 3))))), ?_⟩
    have ok := at_.ok
    have ndL := asc_nodup ok.asc
    refine ⟨by show 0 ≤ sizeLine; decide, fun f nf => ?_⟩
    have s1 := same_up (o := .lst []) nf
    refine ⟨fun m σ H' => ∃ (R : Int) (dn : Wd) (v4 : Option V), m = R.toNat ∧ 0 < wN L R ∧ (dn.length : Int) + R ≤ C ∧ σ = [some (.ref o), some (.int R), some (vS ms), some (.ref f), v4] ∧ Same H H' ∧ H' f = some (.lst ((ones dn).map V.str)) ∧ (∀ u, Outm L ms R u → Outm L ms C (dn ++ u)),
      ⟨C.toNat, C, [], none, rfl, hw, by simp, rfl, s1, upd_same, fun u h => h⟩, ?_⟩
    rintro m σ H' ⟨R, dn, v4, rfl, hR, hsz, rfl, sm, hf, hd⟩
    refine ⟨_, rfl, _, _, rfl, rfl, _, rfl, ?_⟩
    have at1 := at_.same sm
    obtain ⟨dx, dc, fw, ho, hdc, _⟩ := id at1.ex
    by_cases hpos : R > 0
    · refine ifT (decide_eq_true hpos) ?_
      refine ⟨fun σ' H'' => ∃ (R' : Int) (c : Nat), R' < R ∧ 0 < wN L R' ∧ ((dn ++ [c]).length : Int) + R' ≤ C ∧ σ' = [some (.ref o), some (.int R'), some (vS ms), some (.ref f), some (vS [c])] ∧ Same H H'' ∧ H'' f = some (.lst ((ones (dn ++ [c])).map V.str)) ∧ (∀ u, Outm L ms R' u → Outm L ms C (dn ++ [c] ++ u)), ?_, ?_⟩
      · rintro σ' H'' ⟨R', c, lt, h1, h2, e, s', h', h3⟩
        have := ((wN_pos R').mp h1).1
        exact ⟨R'.toNat, by omega, R', _, _, rfl, h1, h2, e, s', h', h3⟩
      obtain ⟨n, rfl⟩ : ∃ n : Nat, R = (n : Int) := ⟨R.toNat, by omega⟩
      obtain ⟨h0, h1⟩ := (wN_pos _).mp hR
      rw [Int.toNat_natCast] at h1
      obtain ⟨p, hp, hpw⟩ := (cN_pos ok (by omega)).mp h1
      have asz : (S ms).cps.size = ms.length := by simp
      refine ⟨_, rfl, S ms, rfl, for_it wk_str (fun i σ H5 => H5 = H' ∧ (∀ x ∈ ms.take i, ¬ 0 < wN L ((n : Int) - costOf L x)) ∧ ∃ v4 : Option V, σ = [some (.ref o), some (.int (n : Int)), some (vS ms), some (.ref f), v4]) ⟨rfl, fun x hx => by simp at hx, v4, rfl⟩ (fun _ _ _ _ _ => trivial) ?_ ?_⟩
      · rintro i x σ H5 H6 hi ⟨rfl, hno, v4', rfl⟩ ⟨rfl, c, hc, rfl⟩
        rw [← Array.getElem?_toList, chars_S] at hc
        have hcm := List.mem_of_getElem? hc
        obtain ⟨pc, hpc, rfl⟩ := List.mem_map.mp ((hm c).mp hcm)
        have hcost := costOf_mem ndL hpc
        have hc1 := (ok.cost pc hpc).1
        have hv := DGet.k (k := Sum.inr (S [pc.1])) hdc
        rw [valV_mem ndL hpc] at hv
        refine ⟨_, rfl, o, OC K, dx, _, rfl, ho, T.o.cl, T.me (by decide +kernel), lk_none (by decide +kernel), _, rfl, _, rfl, o, _, dx, _, _, rfl, ho, T.o.cl, T.o.na _ (by decide +kernel), rfl, _, rfl, dc, _, rfl, hv, _, _, rfl, rfl, o, L, _, rfl, at1, _, rfl, ?_⟩
        by_cases hh : 0 < wN L ((n : Int) - pc.2)
        · refine ifT (decide_eq_true hh) ?_
          have s7 : Same H (upd H6 f (.lst ((ones dn).map V.str ++ [vS [pc.1]]))) := same_new nf sm
          obtain ⟨dx7, dc7, fw7, ho7, hd7, _⟩ := id (at_.same s7).ex
          have hv7 := DGet.k (k := Sum.inr (S [pc.1])) hd7
          rw [valV_mem ndL hpc] at hv7
          refine ⟨_, rfl, .inl ⟨rfl, _, SqL.of hf⟩, _, rfl, f, _, _, rfl, rfl, hf, ?_, ?_⟩
          · rw [List.length_map, List.length_map, sizeLine_eq]
            omega
          refine ⟨_, rfl, _, rfl, o, _, dx7, _, _, rfl, ho7, T.o.cl, T.o.na _ (by decide +kernel), rfl, _, rfl, dc7, _, rfl, hv7, _, _, rfl, rfl, (n : Int) - pc.2, pc.1, by omega, hh, ?_, rfl, s7, ?_, fun u hu2 => ?_⟩
          · rw [List.length_append, List.length_singleton]
            omega
          · rw [upd_same]
            show _ = some (HO.lst (List.map V.str (List.map (fun c => S [c]) (dn ++ [pc.1]))))
            rw [List.map_append, List.map_append]
            rfl
          · rw [List.append_assoc]
            refine hd _ ?_
            obtain ⟨hl, eg⟩ := List.getElem?_eq_some_iff.mp hc
            have es : ms = ms.take i ++ pc.1 :: ms.drop (i + 1) := by
              rw [← eg, ← List.drop_eq_getElem_cons hl, List.take_append_drop]
            exact .cons es hno (by rw [hcost]; exact hh) (by rw [hcost]; exact hu2)
        · refine ifF (decide_eq_false hh) ⟨rfl, fun x hx => ?_, some (vS [pc.1]), rfl⟩
          rw [List.take_add_one, hc] at hx
          rcases List.mem_append.mp hx with h | h
          · exact hno x h
          · obtain rfl : x = pc.1 := by simpa using h
            rw [hcost]
            exact hh
      · rintro σ H5 ⟨_, hno, _⟩
        rw [asz, List.take_length] at hno
        refine absurd hpw ?_
        rw [← costOf_mem ndL hp]
        exact hno p.1 ((hm p.1).mpr (List.mem_map.mpr ⟨p, hp, rfl⟩))
    · refine ifF (decide_eq_false hpos) ?_
      have e0 : R = 0 := by
        have := ((wN_pos R).mp hR).1
        omega
      subst e0
      refine ⟨⟨_, rfl⟩, _, rfl, _, f, _, rfl, rfl, .inl (SqL.of hf), ?_, ?_⟩
      · rw [ones_len, show ("" : Str).length = 0 from rfl, Nat.mul_zero]
        omega
      · rw [show ("" : Str) = S [] from rfl, Ver.join_ones]
        have := hd [] .nil
        rw [List.append_nil] at this
        exact q dn H' this sm
end
end K10

namespace K10
open PySem PySem.Spec PyProof.Rows L2 Ver Num SX
/-! ### parts of words -/
theorem slice_cut (u : Wd) (lo hi : Option Int) : Txt.slice (S u) lo hi = S ((u.drop (HT.sIx u.length 0 lo)).take (HT.sIx u.length u.length hi - HT.sIx u.length 0 lo)) := by
  rw [← C8.cutS_slice]
  show (⟨(((S u).cps.toList.drop (HT.sIx (S u).length 0 lo)).take (HT.sIx (S u).length (S u).length hi - HT.sIx (S u).length 0 lo)).toArray⟩ : Str) = _
  rw [chars_S, S_len]
/-- a part of a word -/
theorem slice_sub (u : Wd) (lo hi : Option Int) : ∃ v : Wd, Txt.slice (S u) lo hi = S v ∧ (∀ c ∈ v, c ∈ u) ∧ v.length ≤ u.length :=
  ⟨_, slice_cut u lo hi, fun c hc => List.mem_of_mem_drop (List.mem_of_mem_take hc), by rw [List.length_take, List.length_drop]; omega⟩
theorem slice_to (u : Wd) (j : Nat) : Txt.slice (S u) none (some (j : Int)) = S (u.take j) := by
  rw [slice_cut, HT.sIx_nat]
  show S ((u.drop 0).take (min j u.length - 0)) = _
  rw [List.drop_zero, Nat.sub_zero]
  have e : u.take (min j u.length) = u.take j := by
    rcases Nat.le_total j u.length with h | h
    · rw [Nat.min_eq_left h]
    · rw [Nat.min_eq_right h, List.take_of_length_le (Nat.le_refl _), List.take_of_length_le h]
  rw [e]
theorem foldl_rep (c : Nat) : ∀ (n : Nat) (a : Array Nat), ((List.replicate n (S [c]).cps).foldl (· ++ ·) a).toList = a.toList ++ List.replicate n c
  | 0, a => by simp
  | n + 1, a => by
    rw [List.replicate_succ, List.foldl_cons, foldl_rep c n]
    simp [List.replicate_succ]
theorem mul_S (c n : Nat) : (⟨(List.replicate ((n : Int)).toNat (S [c]).cps).foldl (· ++ ·) #[]⟩ : Str) = S (List.replicate n c) := by
  have h := foldl_rep c n #[]
  rw [Int.toNat_natCast]
  generalize (List.replicate n (S [c]).cps).foldl (· ++ ·) #[] = z at h ⊢
  have : z = (List.replicate n c).toArray := by
    apply Array.toList_inj.mp
    rw [h]
    simp
  rw [this]
theorem ones_of (cs : Wd) : (cs.map fun c => V.str (S [c])) = (ones cs).map V.str := (List.map_map ..).symm
end K10

namespace K10
open PySem PySem.Spec PyProof.Rows L2 Ver Num SX
/-- the last word of a cost, the letters taken in the order ms -/
inductive Top (L : LC) (ms : List Nat) : Int → Wd → Prop
  | nil : Top L ms 0 []
  | cons {C : Int} {c : Nat} {u A B : Wd} : ms = A ++ c :: B → (∀ x ∈ B, ¬ 0 < wN L (C - costOf L x)) → Top L ms (C - costOf L c) u → Top L ms C (c :: u)
/-- the word beside u, by the order ms of the letters and the step among the costs -/
inductive Nei (L : LC) (ms : List Nat) (step : Int) (u : Wd) : Option Wd → Prop
  | here {a s v A B1 B2 : Wd} {c p : Nat} : u = a ++ c :: s → Top L ms (costW L s) s → ms = A ++ c :: (B1 ++ p :: B2) → (∀ x ∈ B1, ¬ 0 < wN L (costW L (c :: s) - costOf L x)) → 0 < wN L (costW L (c :: s) - costOf L p) → Outm L ms (costW L (c :: s) - costOf L p) v → Nei L ms step u (some (a ++ p :: v))
  | up {R : Int} {v : Wd} : step = 1 → Top L ms (costW L u) u → costW L u < R → (∀ r, costW L u < r → r < R → ¬ 0 < wN L r) → 0 < wN L R → Outm L ms R v → Nei L ms step u (some v)
  | down {R : Int} {v : Wd} : step = -1 → Top L ms (costW L u) u → R < costW L u → (∀ r, R < r → r < costW L u → ¬ 0 < wN L r) → 0 < wN L R → Outm L ms R v → Nei L ms step u (some v)
  | none : step = -1 → u = [] → Nei L ms step u none
def ovS : Option Wd → V
  | some v => vS v
  | none => .non
theorem drop_S (u : Wd) (j : Nat) : Txt.slice (S u) (some (j : Int)) none = S (u.drop j) := by
  rw [slice_cut, HT.sIx_nat, HT.sIx_none]
  have e : u.drop (min j u.length) = u.drop j := by
    rcases Nat.le_total j u.length with h | h
    · rw [Nat.min_eq_left h]
    · rw [Nat.min_eq_right h, List.drop_eq_nil_of_le (Nat.le_refl _), List.drop_eq_nil_of_le h]
  rw [e, List.take_of_length_le (by rw [List.length_drop]; omega)]
theorem costW_app {L : LC} (a b : Wd) : costW L (a ++ b) = costW L a + costW L b := by
  unfold costW
  rw [List.map_append, List.sum_append]
section
variable {P : Program} {w : World} {K : PySem.W.Frag} {mg : Str → Option Value} {base : Heap}
def spNei (K : PySem.W.Frag) : Sp := fun vs H Q _ => ∃ (o : Addr) (L : LC) (u ms : Wd) (step : Int), vs = [.ref o, vS u, vS ms, .int step] ∧ OrdAt K H o L ∧ (∀ c, c ∈ ms ↔ c ∈ L.map (·.1)) ∧ ms.Nodup ∧ (∀ c ∈ u, c ∈ L.map (·.1)) ∧ u.length ≤ 1600 ∧ (step = 1 ∨ step = -1) ∧
  ∀ (r : Option Wd) (H' : Hp), Nei L ms step u r → Same H H' → Q (ovS r) H'
theorem ok_nei (T : Tx K mg) : FnG P w K mg base CX0 3 (He.ma K (OC K) "_neighbour") (spNei K) := by
  refine mk_Order__neighbour T.d (fun vs H Q E h => ?_) (fun cdv A outer s H vs Q E hg hr h => ?_)
  · obtain ⟨o, L, u, ms, step, rfl, _⟩ := h
    rfl
  · obtain ⟨o, L, u, ms, step, rfl, at_, hm, hnd, hw, l9, hst, q⟩ := h
    have nd := sc_Order__neighbour.nd
    have hu := hu_of hr
    have zl := T.z "len" (by decide +kernel)
    have bl : bootBuiltins "len" = some (.builtin "len") := by decide +kernel
    refine ⟨_, pss_cons (ps_set (i := 4) nd rfl (Or.inl rfl) pe_int)
      (pss_cons (ps_for PassesOwn.never rfl (pi_range3 (by rfl) (T.z "range" (by decide +kernel)) (pa_cons (pe_op op_sub (pe_callB call_len_str (by rfl) zl bl (pa_cons (pv 1) pa_nil)) pe_int) (pa_cons (pe_un un_neg pe_int) (pa_cons (pe_un un_neg pe_int) pa_nil)))) (pg_name (i := 5) nd rfl (.inl rfl))
        (pss_cons (ps_aug (i := 4) nd rfl (.inl rfl) (pe_dget hu (pe_fld (pv 0) rfl) (pe_ix ix_str (pv 1) (pv 5) (fun _ _ => rfl)) (fun _ _ => rfl)) ip_add)
        (pss_one (ps_for PassesOwn.never rfl (pi_str (pe_slice C8.sl_txt (pv 2) (po_some (pe_op op_add (pe_bm PySem.F.plainAttrs_str PySem.F.slot_str_index PySem.F.type_str_index mt_sindex (pv 2) (pa_cons (pe_ix ix_str (pv 1) (pv 5) (fun _ _ => rfl)) pa_nil)) pe_int)) po_none)) (pg_name (i := 6) nd rfl (.inl rfl))
          (pss_cons (ps_set (i := 7) nd rfl (Or.inl rfl) (pe_op op_sub (pv 4) (pe_dget hu (pe_fld (pv 0) rfl) (pv 6) (fun _ _ => rfl))))
          (pss_one (ps_if (pt_val (pe_methG (pv 0) (kp_Order__has_words T.d) (ok_has T) (hr.mono (by decide)) hg pass0 (pa_cons (pv 7) pa_nil)))
            (pss_one (ps_ret (pe_op op_add_str (pe_op op_add_str (pe_slice C8.sl_txt (pv 1) po_none (po_some (pv 5))) (pv 6)) (pe_methG (pv 0) (kp_Order__outermost T.d) (ok_out T) hr hg pass0 (pa_cons (pv 7) (pa_cons (pv 2) pa_nil)))))) pss_nil)))))))
      (pss_cons (ps_aug (i := 4) nd rfl (.inl rfl) (pv 3) ip_add)
      (pss_cons (ps_while PassesOwn.never (PW.pt (pw_and (pt_cmpR op_gt (pv 4) pe_int (nomark _)) (pw_and1 (pt_not (pt_val (pe_methG (pv 0) (kp_Order__has_words T.d) (ok_has T) (hr.mono (by decide)) hg pass0 (pa_cons (pv 4) pa_nil)))))))
        (pss_one (ps_aug (i := 4) nd rfl (.inl rfl) (pv 3) ip_add)))
      (pss_one (ps_ret (pe_ifExp (pt_cmpR op_ge (pv 4) pe_int (nomark _)) (pe_methG (pv 0) (kp_Order__outermost T.d) (ok_out T) hr hg pass0 (pa_cons (pv 4) (pa_cons (pv 2) pa_nil))) pe_non)))))), ?_⟩
    have ok := at_.ok
    have ndL := asc_nodup ok.asc
    obtain ⟨dx, dc, fw, ho, hdc, _⟩ := id at_.ex
    have cle := cost_le ok u
    have slu : (S u).length ≤ sizeLine := by rw [S_len]; exact sl_of (by omega)
    have mlen : ms.length ≤ 4 := by
      have h1 := nodup_len hnd fun c hc => (hm c).mp hc
      rw [List.length_map] at h1
      have := ok.few
      omega
    have slm : (S ms).length ≤ sizeLine := by rw [S_len]; exact sl_of (by omega)
    refine ⟨_, rfl, S u, rfl, slu, _, _, rfl, rfl, _, rfl, _, rfl, _, _, _, _, rfl, RgC.neg (by rw [S_len]; omega) (by rw [S_len]; omega) (by decide) (by decide), for_rangeC (fun i σ H' => i ≤ u.length ∧ H' = H ∧ ∃ v5 v6 v7 : Option V, σ = [some (.ref o), some (vS u), some (vS ms), some (.int step), some (.int (costW L (u.drop (u.length - i)))), v5, v6, v7] ∧ Top L ms (costW L (u.drop (u.length - i))) (u.drop (u.length - i))) ⟨Nat.zero_le _, rfl, none, none, none, ?_, ?_⟩ ?_ ?_⟩
    · rw [Nat.sub_zero, List.drop_length]
      rfl
    · rw [Nat.sub_zero, List.drop_length]
      exact .nil
    · rintro i σ H' hi ⟨iu, rfl, v5, v6, v7, rfl, htop⟩
      have hi2 : i < u.length := by
        rw [S_len u] at hi
        omega
      obtain ⟨k, ek⟩ : ∃ k, u.length = k + 1 + i := ⟨u.length - 1 - i, by omega⟩
      have ei : ((S u).length : Int) - 1 + (i : Int) * -1 = (k : Int) := by
        rw [S_len u]
        omega
      have e1 : u.length - i = k + 1 := by omega
      rw [e1] at htop
      rw [e1, ei]
      obtain ⟨c, hc⟩ : ∃ c, u[k]? = some c := ⟨_, List.getElem?_eq_getElem (by omega)⟩
      obtain ⟨pc, hpc, rfl⟩ := List.mem_map.mp (hw c (List.mem_of_getElem? hc))
      have hcost := costOf_mem ndL hpc
      have hc1 := ok.cost pc hpc
      have edr := drop_cons hc
      have eCW : costW L (u.drop k) = pc.2 + costW L (u.drop (k + 1)) := by rw [edr, costW_cons, hcost]
      have hat : atI (S u).cps.toList ((k : Nat) : Int) = some pc.1 := by
        rw [chars_S]
        exact atI_nat hc
      have hv := DGet.k (k := Sum.inr (S [pc.1])) hdc
      rw [valV_mem ndL hpc] at hv
      refine ⟨_, rfl, _, rfl, o, _, dx, _, _, rfl, ho, T.o.cl, T.o.na _ (by decide +kernel), rfl, _, rfl, _, rfl, _, _, _, rfl, rfl, slu, hat, dc, _, rfl, hv, _, _, rfl, rfl, ?_⟩
      have eR : costW L (u.drop (k + 1)) + pc.2 = costW L (u.drop k) := by omega
      dsimp only
      rw [eR]
      have Rle : costW L (u.drop k) ≤ 14400 := by
        have h1 : costW L u = costW L (u.take k) + costW L (u.drop k) := by
          conv => lhs; rw [← List.take_append_drop k u]
          rw [costW_app]
        have h2 := cost_ge ok (u.take k)
        omega
      obtain ⟨A, B, em⟩ := List.append_of_mem ((hm pc.1).mpr (List.mem_map.mpr ⟨pc, hpc, rfl⟩))
      have nA : pc.1 ∉ A := fun z => by
        have h := hnd
        rw [em, List.nodup_append] at h
        exact h.2.2 _ z _ List.mem_cons_self rfl
      have occ : Builtin.Str.occurrences (S ms) (S [pc.1]) 0 (S ms).length 1 = A.length :: [] := by rw [em, occ_S nA]
      refine ⟨_, rfl, _, rfl, rfl, _, rfl, _, rfl, _, _, _, rfl, rfl, slu, hat, _, _, _, _, rfl, rfl, occ, _, _, rfl, rfl, _, rfl, _, rfl, slm, ?_⟩
      have es : Txt.slice (S ms) (some ((A.length : Int) + 1)) none = S B := by
        rw [show (A.length : Int) + 1 = ((A.length + 1 : Nat) : Int) by omega, drop_S]
        have : ms.drop (A.length + 1) = B := by
          rw [em, List.drop_append, List.drop_eq_nil_of_le (by omega), List.nil_append, show A.length + 1 - A.length = 1 by omega]
          rfl
        rw [this]
      dsimp only
      rw [es]
      have asz : (S B).cps.size = B.length := by simp
      have e2 : u.length - (i + 1) = k := by omega
      refine ⟨S B, rfl, for_it (D := ⟨_, _, fun _ _ => False, fun _ _ => False⟩) wk_str (fun i' σ H9 => H9 = H' ∧ (∀ x ∈ B.take i', ¬ 0 < wN L (costW L (u.drop k) - costOf L x)) ∧ ∃ v6 v7 : Option V, σ = [some (.ref o), some (vS u), some (vS ms), some (.int step), some (.int (costW L (u.drop k))), some (.int (k : Int)), v6, v7]) ⟨rfl, fun x hx => by simp at hx, v6, v7, rfl⟩ (fun _ _ _ _ _ => trivial) ?_ ?_⟩
      · rintro i' x σ H5 H6 hi' ⟨rfl, hno, v6', v7', rfl⟩ ⟨rfl, p, hp, rfl⟩
        rw [← Array.getElem?_toList, chars_S] at hp
        have hpm : p ∈ ms := by
          rw [em]
          exact List.mem_append_right _ (List.mem_cons_of_mem _ (List.mem_of_getElem? hp))
        obtain ⟨pp, hpp, rfl⟩ := List.mem_map.mp ((hm p).mp hpm)
        have hpcost := costOf_mem ndL hpp
        have hp1 := ok.cost pp hpp
        have hv2 := DGet.k (k := Sum.inr (S [pp.1])) hdc
        rw [valV_mem ndL hpp] at hv2
        refine ⟨_, rfl, _, rfl, o, _, dx, _, _, rfl, ho, T.o.cl, T.o.na _ (by decide +kernel), rfl, _, rfl, dc, _, rfl, hv2, _, _, rfl, rfl, ?_⟩
        refine ⟨_, rfl, o, OC K, dx, _, rfl, ho, T.o.cl, T.me (by decide +kernel), lk_none (by decide +kernel), _, rfl, o, L, _, rfl, at_, _, rfl, ?_⟩
        by_cases hh : 0 < wN L (costW L (u.drop k) - pp.2)
        · refine ifT (decide_eq_true hh) ⟨_, rfl, _, rfl, _, rfl, _, rfl, slu, ?_⟩
          rw [take_S]
          refine ⟨_, rfl, _, _, rfl, rfl, by rw [S_len, S_len, List.length_take, sizeLine_eq, List.length_singleton]; omega, ?_⟩
          refine ⟨_, rfl, o, OC K, dx, _, rfl, ho, T.o.cl, T.me (by decide +kernel), lk_none (by decide +kernel), _, rfl, _, rfl, o, L, _, ms, rfl, at_, hm, hh, by omega, fun v H7 hv7 s7 => ?_⟩
          have hov := outm_over (fun c hc => (hm c).mp hc) hv7
          have vlen := cost_ge ok v
          rw [S_cat]
          refine ⟨_, _, rfl, rfl, ?_, ?_⟩
          · rw [S_len, S_len, List.length_append, List.length_take, List.length_singleton, sizeLine_eq]
            omega
          · rw [S_cat, List.append_assoc]
            refine q (some (u.take k ++ pp.1 :: v)) H7 ?_ s7
            have ecs : pc.1 :: u.drop (k + 1) = u.drop k := edr.symm
            obtain ⟨hl, eg⟩ := List.getElem?_eq_some_iff.mp hp
            have eB : B = B.take i' ++ pp.1 :: B.drop (i' + 1) := by
              rw [← eg, ← List.drop_eq_getElem_cons hl, List.take_append_drop]
            refine .here (a := u.take k) (c := pc.1) (s := u.drop (k + 1)) (A := A) (B1 := B.take i') (B2 := B.drop (i' + 1)) ?_ htop ?_ ?_ ?_ ?_
            · rw [ecs, List.take_append_drop]
            · rw [← eB]
              exact em
            · rw [ecs]
              exact hno
            · rw [ecs, hpcost]
              exact hh
            · rw [ecs, hpcost]
              exact hv7
        · refine ifF (decide_eq_false hh) ⟨rfl, fun x hx => ?_, some (vS [pp.1]), some (.int (costW L (u.drop k) - pp.2)), rfl⟩
          rw [List.take_add_one, hp] at hx
          rcases List.mem_append.mp hx with h | h
          · exact hno x h
          · obtain rfl : x = pp.1 := by simpa using h
            rw [hpcost]
            exact hh
      · rintro σ H5 ⟨rfl, hno, v6', v7', rfl⟩
        rw [asz, List.take_length] at hno
        refine ⟨by omega, rfl, some (.int (k : Int)), v6', v7', ?_, ?_⟩
        · rw [e2]
        · rw [e2]
          generalize hZ : costW L (u.drop k) = Z at hno eCW
          rw [edr]
          refine .cons em hno ?_
          rw [hcost, show Z - pc.2 = costW L (u.drop (k + 1)) by omega]
          exact htop
    · rintro σ H' ⟨_, rfl, v5, v6, v7, rfl, htop⟩
      have en : u.length - (((S u).length : Int) - 1 - -1).toNat = 0 := by
        rw [S_len u]
        omega
      rw [en, List.drop_zero] at htop ⊢
      have hge := cost_ge ok u
      have hrk := rk_bd ok u hw
      obtain ⟨p0, _, _, _, hp0, _⟩ := four L ok.pos ok.few
      have r0 := ok.cost p0 hp0
      have hw0 : 0 < wN L (costW L u + p0.2) := by
        refine (wN_pos _).mpr ⟨by omega, ?_⟩
        have h1 := rep_add ok hp0 (n := (costW L u).toNat) (by omega)
        rw [show (costW L u).toNat + p0.2.toNat = (costW L u + p0.2).toNat by omega] at h1
        exact h1
      rcases hst with rfl | rfl
      · refine ⟨_, rfl, _, rfl, _, _, rfl, rfl, ?_⟩
        refine ⟨fun m σ H'' => ∃ R : Int, m = (costW L u + p0.2 - R).toNat ∧ costW L u < R ∧ R ≤ costW L u + p0.2 ∧ (∀ r, costW L u < r → r < R → ¬ 0 < wN L r) ∧ σ = [some (.ref o), some (vS u), some (vS ms), some (.int 1), some (.int R), v5, v6, v7] ∧ H'' = H', ⟨_, costW L u + 1, rfl, by omega, by omega, fun r h1 h2 => by omega, rfl, rfl⟩, ?_⟩
        rintro m σ H'' ⟨R, rfl, hR1, hR2, hR3, rfl, rfl⟩
        refine ⟨_, rfl, _, _, rfl, rfl, _, rfl, ifT (decide_eq_true (by omega)) ⟨_, rfl, o, OC K, dx, _, rfl, ho, T.o.cl, T.me (by decide +kernel), lk_none (by decide +kernel), _, rfl, o, L, _, rfl, at_, _, rfl, ?_⟩⟩
        by_cases hh : 0 < wN L R
        · rw [decide_eq_true hh]
          exact ifF rfl ⟨_, rfl, _, _, rfl, rfl, _, rfl, ifT (decide_eq_true (by omega : (0 : Int) ≤ R)) ⟨_, rfl, o, OC K, dx, _, rfl, ho, T.o.cl, T.me (by decide +kernel), lk_none (by decide +kernel), _, rfl, _, rfl, o, L, _, ms, rfl, at_, hm, hh, by omega, fun v H7 hv s7 => q (some v) H7 (.up rfl htop hR1 hR3 hh hv) s7⟩⟩
        · rw [decide_eq_false hh]
          refine ifT rfl ⟨fun σ' H9 => σ' = [some (.ref o), some (vS u), some (vS ms), some (.int 1), some (.int (R + 1)), v5, v6, v7] ∧ H9 = H'', ?_, ⟨_, rfl, _, rfl, _, _, rfl, rfl, rfl, rfl⟩⟩
          rintro σ' H9 ⟨rfl, rfl⟩
          have hne : R ≠ costW L u + p0.2 := fun z => hh (by rw [z]; exact hw0)
          refine ⟨(costW L u + p0.2 - (R + 1)).toNat, by omega, R + 1, rfl, by omega, by omega, fun r h1 h2 => ?_, rfl, rfl⟩
          by_cases hr2 : r = R
          · rw [hr2]
            exact hh
          · exact hR3 r h1 (by omega)
      · refine ⟨_, rfl, _, rfl, _, _, rfl, rfl, ?_⟩
        refine ⟨fun m σ H'' => ∃ R : Int, m = R.toNat ∧ R < costW L u ∧ -1 ≤ R ∧ (R = -1 → costW L u = 0) ∧ (∀ r, R < r → r < costW L u → ¬ 0 < wN L r) ∧ σ = [some (.ref o), some (vS u), some (vS ms), some (.int (-1)), some (.int R), v5, v6, v7] ∧ H'' = H', ⟨_, costW L u + -1, rfl, by omega, by omega, fun z => by omega, fun r h1 h2 => by omega, rfl, rfl⟩, ?_⟩
        rintro m σ H'' ⟨R, rfl, hR1, hR2, hR4, hR3, rfl, rfl⟩
        refine ⟨_, rfl, _, _, rfl, rfl, _, rfl, ?_⟩
        by_cases hpos : 0 < R
        · refine ifT (decide_eq_true hpos) ⟨_, rfl, o, OC K, dx, _, rfl, ho, T.o.cl, T.me (by decide +kernel), lk_none (by decide +kernel), _, rfl, o, L, _, rfl, at_, _, rfl, ?_⟩
          by_cases hh : 0 < wN L R
          · rw [decide_eq_true hh]
            exact ifF rfl ⟨_, rfl, _, _, rfl, rfl, _, rfl, ifT (decide_eq_true (by omega : (0 : Int) ≤ R)) ⟨_, rfl, o, OC K, dx, _, rfl, ho, T.o.cl, T.me (by decide +kernel), lk_none (by decide +kernel), _, rfl, _, rfl, o, L, _, ms, rfl, at_, hm, hh, by omega, fun v H7 hv s7 => q (some v) H7 (.down rfl htop hR1 hR3 hh hv) s7⟩⟩
          · rw [decide_eq_false hh]
            refine ifT rfl ⟨fun σ' H9 => σ' = [some (.ref o), some (vS u), some (vS ms), some (.int (-1)), some (.int (R + -1)), v5, v6, v7] ∧ H9 = H'', ?_, ⟨_, rfl, _, rfl, _, _, rfl, rfl, rfl, rfl⟩⟩
            rintro σ' H9 ⟨rfl, rfl⟩
            refine ⟨(R + -1).toNat, by omega, R + -1, rfl, by omega, by omega, fun z => by omega, fun r h1 h2 => ?_, rfl, rfl⟩
            by_cases hr2 : r = R
            · rw [hr2]
              exact hh
            · exact hR3 r (by omega) h2
        · refine ifF (decide_eq_false hpos) (ifF rfl ?_)
          by_cases h0 : 0 ≤ R
          · have e0 : R = 0 := by omega
            subst e0
            have hh : 0 < wN L 0 := by
              rw [wN_pos]
              exact ⟨Int.le_refl _, by show (0 : Int) < cN L 0; rw [cN_zero]; decide⟩
            exact ⟨_, rfl, _, _, rfl, rfl, _, rfl, ifT (decide_eq_true (Int.le_refl 0)) ⟨_, rfl, o, OC K, dx, _, rfl, ho, T.o.cl, T.me (by decide +kernel), lk_none (by decide +kernel), _, rfl, _, rfl, o, L, _, ms, rfl, at_, hm, hh, by omega, fun v H7 hv s7 => q (some v) H7 (.down rfl htop hR1 hR3 hh hv) s7⟩⟩
          · have e1 := hR4 (by omega)
            have eu : u = [] := List.length_eq_zero_iff.mp (by omega)
            exact ⟨_, rfl, _, _, rfl, rfl, _, rfl, ifF (decide_eq_false h0) (q none _ (.none rfl eu) fun _ _ e => e)⟩
end
end K10

/-! A text backwards. -/
namespace Ver
open PySem PySem.Spec PyProof.Rows L2
def revS (z : Str) : Str := ⟨z.cps.toList.reverse.toArray⟩
theorem rev_idx (n : Nat) : Builtin.Str.strSliceIndices none none (-1) n = (List.range n).reverse := by
  show sliceRange ((n : Int) - 1) (-1) (-1) = _
  rw [PySem.W.krv_sliceRange, PySem.W.krv_range]
theorem rev_pick (z : Str) : (⟨((Builtin.Str.strSliceIndices none none (-1) z.length).filterMap (z.cps[·]?)).toArray⟩ : Str) = revS z := by
  have h : (List.range z.length).filterMap (z.cps[·]?) = z.cps.toList := PySem.W.krv_all z.cps
  rw [rev_idx, List.filterMap_reverse, h]
  rfl
section
variable {X : Cx}
theorem pe_revS {e : Expr} {te : TE} {k : Nat} {p1 p2 p3 pos : Pos} (he : PE X e te) : PE X (.Subscript e (.Slice none none (some (.UnaryOp .USub (.Constant (.int 1) k p1) p2)) p3) pos) (fun σ H Q => te σ H fun x H1 => ∃ z : Str, x = .str z ∧ z.length ≤ sizeLine ∧ Q (.str (revS z)) H1) := by
  refine ⟨fun pins s σ H Q I h => ?_⟩
  refine Subscript_ (thn (he.run pins s σ H _ I h) fun v s1 ⟨x, H1, I1, r1, z, ex, hz, q⟩ => ?_)
  subst ex
  obtain ⟨t, rfl⟩ := r1
  have hst : PO X (some (.UnaryOp .USub (.Constant (.int 1) k p1) p2)) (tPart (tUn (rU fun i => .int (-i)) (tC (.int 1)))) := po_some (pe_un un_neg pe_int)
  refine wpAny_Slice (thn (po_none.run pins s1 σ H1 (fun o H2 => o = none ∧ H2 = H1) I1 ⟨rfl, rfl⟩) fun vl s2 ⟨l, H2, I2, pl, el, e2⟩ => ?_)
  subst el e2
  refine thn (po_none.run pins s2 σ H2 (fun o H3 => o = none ∧ H3 = H2) I2 ⟨rfl, rfl⟩) fun vu s3 ⟨u, H3, I3, pu, eu, e3⟩ => ?_
  subst eu e3
  refine thn (hst.run pins s3 σ H3 (fun o H4 => o = some (-1) ∧ H4 = H3) I3 ⟨1, rfl, -1, rfl, rfl, rfl⟩) fun vs s4 ⟨o, H4, I4, ps, eo, e4⟩ => ?_
  subst eo e4
  have I5 : Inv X pins σ H4 { s4 with heap := s4.heap.push { cls := .type "slice", data := .fields #[vl, vu, vs] } } := I4.kept (t' := s4.toks) fun b ob q => Heap.get?_push_of_some _ q
  obtain ⟨l, rfl, el⟩ := IsPart.raw pl
  obtain ⟨u, rfl, eu⟩ := IsPart.raw pu
  obtain ⟨st, rfl, es⟩ := IsPart.raw ps
  have el' : l = none := by cases l <;> simp_all
  have eu' : u = none := by cases u <;> simp_all
  subst el' eu'
  obtain ⟨tk, rfl⟩ : ∃ tk, st = some (-1, tk) := by
    cases st with
    | none => simp at es
    | some p =>
      obtain ⟨i, tk⟩ := p
      simp at es
      exact ⟨tk, by rw [es]⟩
  show wpAny (model X.prog X.w) X.A (subscriptTail e (.Slice none none (some (.UnaryOp .USub (.Constant (.int 1) k p1) p2)) p3) (.str z t) (.ref s4.heap.objs.size)) (EP X pins σ Q) X.xe _
  refine tail_any (ops := [.ref s4.heap.objs.size, .str z t]) (typeIs_str _ _ _) F.slot_str_getitem.lookup ?_ (by with_unfolding_all rfl)
  refine wpAny_getItem_str_slice (l := none) (u := none) (st := some (-1, tk)) ⟨_, Heap.get?_push_size _ rfl, rfl, rfl⟩ rfl ?_
  show Made.post (if ((-1 : Int) == 1 && _) = true then Made.val (.str z t) else Made.str ⟨((Builtin.Str.strSliceIndices none none (-1) z.length).filterMap (z.cps[·]?)).toArray⟩) (EP X pins σ Q) _
  rw [rev_pick, if_neg (by simp)]
  refine ⟨?_, .str _, H4, I5.tok _, ⟨_, rfl⟩, q⟩
  show (revS z).cps.size ≤ _
  unfold revS
  rw [List.size_toArray, List.length_reverse, Array.length_toList]
  exact hz
end
end Ver

namespace K10
open PySem PySem.Spec PyProof.Rows L2 Ver Num SX
/-! ### the neighbour's number -/
theorem split_map {L : LC} {A B : Wd} {c : Nat} (e : L.map (·.1) = A ++ c :: B) : ∃ LA pc LB, L = LA ++ pc :: LB ∧ LA.map (·.1) = A ∧ pc.1 = c ∧ LB.map (·.1) = B := by
  obtain ⟨LA, R, e1, e2, e3⟩ := List.map_eq_append_iff.mp e
  obtain ⟨pc, LB, e4, e5, e6⟩ := List.map_eq_cons_iff.mp e3
  exact ⟨LA, pc, LB, by rw [e1, e4], e2, e5, e6⟩
theorem filt_part {L A B : LC} {p : Nat × Int} (ok : LOk L) (e : L = A ++ p :: B) : (L.filter fun q => decide (q.1 < p.1)) = A := by
  have asc := ok.asc
  rw [e, List.map_append, List.map_cons, List.pairwise_append] at asc
  obtain ⟨_, h2, h3⟩ := asc
  have hB := (List.pairwise_cons.mp h2).1
  have lowA : ∀ q ∈ A, q.1 < p.1 := fun q hq => h3 q.1 (List.mem_map.mpr ⟨q, hq, rfl⟩) p.1 List.mem_cons_self
  rw [e, List.filter_append, List.filter_cons, if_neg (by simp), List.filter_eq_self.mpr fun q hq => decide_eq_true (lowA q hq), List.filter_eq_nil_iff.mpr fun q hq => ?_, List.append_nil]
  have := hB q.1 (List.mem_map.mpr ⟨q, hq, rfl⟩)
  rw [decide_eq_true_iff]
  omega
section
variable {L : LC} (ok : LOk L)
include ok
theorem low_at {A B : LC} {p : Nat × Int} (e : L = A ++ p :: B) (C : Int) : lowS L C p.1 = (A.map fun q => wN L (C - q.2)).sum := by
  unfold lowS
  rw [filt_part ok e]
theorem zero_sum {C : Int} {l : LC} (hl : ∀ q ∈ l, q ∈ L) (h : ∀ x ∈ l.map (·.1), ¬ 0 < wN L (C - costOf L x)) : (l.map fun q => wN L (C - q.2)).sum = 0 := by
  have nn := sum_nn (f := fun q : Nat × Int => wN L (C - q.2)) l fun q _ => wN_nn ok _
  have hp := sum_pos (f := fun q : Nat × Int => wN L (C - q.2)) l fun q _ => wN_nn ok _
  by_cases h0 : 0 < (l.map fun q => wN L (C - q.2)).sum
  · obtain ⟨q, hq, hw⟩ := hp.mp h0
    have := h q.1 (List.mem_map.mpr ⟨q, hq, rfl⟩)
    rw [costOf_mem (asc_nodup ok.asc) (hl q hq)] at this
    exact absurd hw this
  · omega
theorem all_sum {C : Int} (hC : 1 ≤ C) {A B : LC} {p : Nat × Int} (e : L = A ++ p :: B) : wN L C = lowS L C p.1 + wN L (C - p.2) + (B.map fun q => wN L (C - q.2)).sum := by
  obtain ⟨n, rfl⟩ : ∃ n : Nat, C = (n : Int) := ⟨C.toNat, by omega⟩
  have e1 : wN L (n : Int) = cN L n := by
    unfold wN
    rw [if_pos (by omega), Int.toNat_natCast]
  have es : ∀ f : Nat × Int → Int, (L.map f).sum = (A.map f).sum + (f p + (B.map f).sum) := fun f => by
    conv => lhs; rw [e]
    rw [List.map_append, List.map_cons, List.sum_append, List.sum_cons]
  rw [e1, cN_sum ok (by omega), es, low_at ok e]
  omega
omit ok in
theorem rk_app (a t : Wd) : ∀ C : Int, rk L C (a ++ t) - rk L C a = rk L (C - costW L a) t := by
  induction a with
  | nil =>
    intro C
    show rk L C t - 0 = rk L (C - 0) t
    rw [Int.sub_zero, Int.sub_zero]
  | cons c a ih =>
    intro C
    show lowS L C c + rk L (C - costOf L c) (a ++ t) - (lowS L C c + rk L (C - costOf L c) a) = _
    have := ih (C - costOf L c)
    rw [costW_cons, show C - (costOf L c + costW L a) = C - costOf L c - costW L a by omega]
    omega
/-- words that differ from a place on: their numbers -/
theorem plc_app {a s t : Wd} (h : costW L s = costW L t) : plc L (a ++ t) - plc L (a ++ s) = rk L (costW L t) t - rk L (costW L s) s := by
  unfold plc
  have e1 : costW L (a ++ s) = costW L (a ++ t) := by rw [costW_app, costW_app, h]
  have h1 := rk_app (L := L) a s (costW L (a ++ s))
  have h2 := rk_app (L := L) a t (costW L (a ++ t))
  rw [costW_app, show costW L a + costW L s - costW L a = costW L s by omega, ← costW_app] at h1
  rw [costW_app, show costW L a + costW L t - costW L a = costW L t by omega, ← costW_app] at h2
  rw [e1] at h1 ⊢
  omega
theorem top_over {ms : List Nat} {C : Int} {u : Wd} (h : Top L ms C u) : costW L u = C := by
  induction h with
  | nil => rfl
  | @cons C c u A B e _ _ ih =>
    rw [costW_cons, ih]
    omega
omit ok in
theorem wN_zero : wN L 0 = 1 := rfl
/-! ascending -/
theorem outm_asc {C : Int} {v : Wd} (h : Outm L (L.map (·.1)) C v) : rk L C v = 0 := by
  induction h with
  | nil => rfl
  | @cons C c u A B e hz _ _ ih =>
    obtain ⟨LA, pc, LB, eL, eA, ec, eB⟩ := split_map e
    subst ec
    show lowS L C pc.1 + rk L _ u = 0
    rw [ih, low_at ok eL, zero_sum ok (fun q hq => by rw [eL]; exact List.mem_append_left _ hq) (by rw [eA]; exact hz)]
    rfl
theorem top_asc {C : Int} {u : Wd} (h : Top L (L.map (·.1)) C u) : rk L C u + 1 = wN L C := by
  induction h with
  | nil => rfl
  | @cons C c u A B e hz ht ih =>
    obtain ⟨LA, pc, LB, eL, eA, ec, eB⟩ := split_map e
    subst ec
    have hp : pc ∈ L := by rw [eL]; exact List.mem_append_right _ List.mem_cons_self
    have hcost := costOf_mem (asc_nodup ok.asc) hp
    have h1 := (ok.cost pc hp).1
    have hC := top_over ok ht
    have hge := cost_ge ok u
    rw [hcost] at ih hC
    rw [all_sum ok (by omega) eL, zero_sum ok (fun q hq => by rw [eL]; exact List.mem_append_right _ (List.mem_cons_of_mem _ hq)) (by rw [eB]; exact hz)]
    show lowS L C pc.1 + rk L (C - costOf L pc.1) u + 1 = _
    rw [hcost]
    omega
/-! descending -/
omit ok in
theorem rev_split {L : LC} {A B : Wd} {c : Nat} (e : (L.map (·.1)).reverse = A ++ c :: B) : L.map (·.1) = B.reverse ++ c :: A.reverse := by
  have := congrArg List.reverse e
  rw [List.reverse_reverse, List.reverse_append, List.reverse_cons] at this
  rw [this]
  simp
theorem outm_desc {C : Int} {v : Wd} (h : Outm L (L.map (·.1)).reverse C v) : rk L C v + 1 = wN L C := by
  induction h with
  | nil => rfl
  | @cons C c u A B e hz hw _ ih =>
    obtain ⟨LA, pc, LB, eL, eA, ec, eB⟩ := split_map (rev_split e)
    subst ec
    have hp : pc ∈ L := by rw [eL]; exact List.mem_append_right _ List.mem_cons_self
    have hcost := costOf_mem (asc_nodup ok.asc) hp
    have h1 := (ok.cost pc hp).1
    have h2 := ((wN_pos _).mp hw).1
    rw [hcost] at ih h2
    rw [all_sum ok (by omega) eL, zero_sum ok (fun q hq => by rw [eL]; exact List.mem_append_right _ (List.mem_cons_of_mem _ hq)) (fun x hx => hz x (by rw [eB] at hx; exact List.mem_reverse.mp hx))]
    show lowS L C pc.1 + rk L (C - costOf L pc.1) u + 1 = _
    rw [hcost]
    omega
theorem top_desc {C : Int} {u : Wd} (h : Top L (L.map (·.1)).reverse C u) : rk L C u = 0 := by
  induction h with
  | nil => rfl
  | @cons C c u A B e hz _ ih =>
    obtain ⟨LA, pc, LB, eL, eA, ec, eB⟩ := split_map (rev_split e)
    subst ec
    show lowS L C pc.1 + rk L _ u = 0
    rw [ih, low_at ok eL, zero_sum ok (fun q hq => by rw [eL]; exact List.mem_append_left _ hq) (fun x hx => hz x (by rw [eA] at hx; exact List.mem_reverse.mp hx))]
    rfl
theorem toN_gap {a b : Nat} (hab : a ≤ b) (h : ∀ r : Nat, a ≤ r → r < b → ¬ 0 < cN L r) : toN L b = toN L a := by
  induction b with
  | zero =>
    obtain rfl : a = 0 := by omega
    rfl
  | succ b ih =>
    by_cases e : a = b + 1
    · rw [e]
    · have h1 := ih (by omega) fun r h1 h2 => h r h1 (by omega)
      have h2 := h b (by omega) (Nat.lt_succ_self b)
      have h3 := (cN_bd ok b).1
      rw [toN_succ, h1]
      omega
/-- the word after u has the next number -/
theorem nei_asc {u : Wd} (hu : ∀ c ∈ u, c ∈ L.map (·.1)) {r : Option Wd} (h : Nei L (L.map (·.1)) 1 u r) : ∃ v, r = some v ∧ (∀ c ∈ v, c ∈ L.map (·.1)) ∧ plc L v = plc L u + 1 := by
  have ndL := asc_nodup ok.asc
  cases h with
  | @here a s v A B1 B2 c p eu ht em hz hw ho =>
    have hov := outm_over (fun c hc => hc) ho
    obtain ⟨LA, pc, LB, eL, eA, ec, eB⟩ := split_map em
    obtain ⟨LB1, pp, LB2, eL2, eB1, ep, eB2⟩ := split_map eB
    subst ec ep
    have eL' : L = (LA ++ pc :: LB1) ++ pp :: LB2 := by rw [eL, eL2]; simp
    have hpc : pc ∈ L := by rw [eL]; exact List.mem_append_right _ List.mem_cons_self
    have hpp : pp ∈ L := by rw [eL']; exact List.mem_append_right _ List.mem_cons_self
    have c1 := costOf_mem ndL hpc
    have c2 := costOf_mem ndL hpp
    have eR : costW L (pc.1 :: s) = pc.2 + costW L s := by rw [costW_cons, c1]
    have t1 := top_asc ok ht
    have o1 := outm_asc ok ho
    refine ⟨_, rfl, fun x hx => ?_, ?_⟩
    · rcases List.mem_append.mp hx with h | h
      · exact hu x (by rw [eu]; exact List.mem_append_left _ h)
      · rcases List.mem_cons.mp h with rfl | h
        · exact List.mem_map.mpr ⟨pp, hpp, rfl⟩
        · exact hov.1 x h
    · have ecost : costW L (pp.1 :: v) = costW L (pc.1 :: s) := by
        rw [costW_cons, hov.2]
        omega
      have key := plc_app ok (a := a) ecost.symm
      rw [← eu] at key
      have k1 : rk L (costW L (pp.1 :: v)) (pp.1 :: v) = lowS L (costW L (pc.1 :: s)) pp.1 := by
        show lowS L _ pp.1 + rk L (_ - costOf L pp.1) v = _
        rw [ecost, o1]
        omega
      have k2 : rk L (costW L (pc.1 :: s)) (pc.1 :: s) = lowS L (costW L (pc.1 :: s)) pc.1 + rk L (costW L s) s := by
        show lowS L _ pc.1 + rk L (_ - costOf L pc.1) s = _
        rw [c1, show costW L (pc.1 :: s) - pc.2 = costW L s by omega]
      have k3 : lowS L (costW L (pc.1 :: s)) pp.1 = lowS L (costW L (pc.1 :: s)) pc.1 + wN L (costW L s) := by
        rw [low_at ok eL', low_at ok eL, List.map_append, List.sum_append, List.map_cons, List.sum_cons, zero_sum ok (l := LB1) (fun q hq => by rw [eL']; exact List.mem_append_left _ (List.mem_append_right _ (List.mem_cons_of_mem _ hq))) (by rw [eB1]; exact hz), show costW L (pc.1 :: s) - pc.2 = costW L s by omega]
        omega
      omega
  | @up R v hs ht hlt hz hw ho =>
    have hov := outm_over (fun c hc => hc) ho
    have t1 := top_asc ok ht
    have o1 := outm_asc ok ho
    have hge := cost_ge ok u
    refine ⟨_, rfl, hov.1, ?_⟩
    unfold plc
    rw [hov.2, o1]
    obtain ⟨n, en⟩ : ∃ n : Nat, costW L u = (n : Int) := ⟨(costW L u).toNat, by omega⟩
    obtain ⟨m, rfl⟩ : ∃ m : Nat, R = (m : Int) := ⟨R.toNat, by omega⟩
    rw [en] at t1 hz hlt ⊢
    have e1 : wN L (n : Int) = cN L n := by
      unfold wN
      rw [if_pos (by omega), Int.toNat_natCast]
    have g := toN_gap ok (a := n + 1) (b := m) (by omega) fun r h1 h2 h3 => hz (r : Int) (by omega) (by omega) ((wN_pos _).mpr ⟨by omega, by rw [Int.toNat_natCast]; exact h3⟩)
    rw [Int.toNat_natCast, Int.toNat_natCast, g, toN_succ]
    omega
  | down hs => exact absurd hs (by decide)
  | none hs => exact absurd hs (by decide)
/-- the word ahead of u has the number before -/
theorem nei_desc {u : Wd} (hu : ∀ c ∈ u, c ∈ L.map (·.1)) {r : Option Wd} (h : Nei L (L.map (·.1)).reverse (-1) u r) : (u = [] ∧ r = none) ∨ ∃ v, r = some v ∧ (∀ c ∈ v, c ∈ L.map (·.1)) ∧ plc L v + 1 = plc L u := by
  have ndL := asc_nodup ok.asc
  cases h with
  | @here a s v A B1 B2 c p eu ht em hz hw ho =>
    have hov := outm_over (fun c hc => List.mem_reverse.mp hc) ho
    have em2 : L.map (·.1) = B2.reverse ++ p :: (B1.reverse ++ c :: A.reverse) := by
      have := rev_split em
      rw [this]
      simp
    obtain ⟨LA, pp, LB, eL, eA, ep, eB⟩ := split_map em2
    obtain ⟨LB1, pc, LB2, eL2, eB1, ec, eB2⟩ := split_map eB
    subst ec ep
    have eL' : L = (LA ++ pp :: LB1) ++ pc :: LB2 := by rw [eL, eL2]; simp
    have hpp : pp ∈ L := by rw [eL]; exact List.mem_append_right _ List.mem_cons_self
    have hpc : pc ∈ L := by rw [eL']; exact List.mem_append_right _ List.mem_cons_self
    have c1 := costOf_mem ndL hpc
    have c2 := costOf_mem ndL hpp
    have eR : costW L (pc.1 :: s) = pc.2 + costW L s := by rw [costW_cons, c1]
    have t1 := top_desc ok ht
    have o1 := outm_desc ok ho
    refine .inr ⟨_, rfl, fun x hx => ?_, ?_⟩
    · rcases List.mem_append.mp hx with h | h
      · exact hu x (by rw [eu]; exact List.mem_append_left _ h)
      · rcases List.mem_cons.mp h with rfl | h
        · exact List.mem_map.mpr ⟨pp, hpp, rfl⟩
        · exact hov.1 x h
    · have ecost : costW L (pp.1 :: v) = costW L (pc.1 :: s) := by
        rw [costW_cons, hov.2]
        omega
      have key := plc_app ok (a := a) ecost.symm
      rw [← eu] at key
      have k1 : rk L (costW L (pp.1 :: v)) (pp.1 :: v) + 1 = lowS L (costW L (pc.1 :: s)) pp.1 + wN L (costW L (pc.1 :: s) - pp.2) := by
        show lowS L _ pp.1 + rk L (_ - costOf L pp.1) v + 1 = _
        rw [ecost]
        rw [c2] at o1 ⊢
        omega
      have k2 : rk L (costW L (pc.1 :: s)) (pc.1 :: s) = lowS L (costW L (pc.1 :: s)) pc.1 := by
        show lowS L _ pc.1 + rk L (_ - costOf L pc.1) s = _
        rw [c1, show costW L (pc.1 :: s) - pc.2 = costW L s by omega, t1]
        omega
      have k3 : lowS L (costW L (pc.1 :: s)) pc.1 = lowS L (costW L (pc.1 :: s)) pp.1 + wN L (costW L (pc.1 :: s) - pp.2) := by
        rw [low_at ok eL', low_at ok eL, List.map_append, List.sum_append, List.map_cons, List.sum_cons, zero_sum ok (l := LB1) (fun q hq => by rw [eL']; exact List.mem_append_left _ (List.mem_append_right _ (List.mem_cons_of_mem _ hq))) (fun x hx => hz x (by rw [eB1] at hx; exact List.mem_reverse.mp hx))]
        omega
      omega
  | up hs => exact absurd hs (by decide)
  | @down R v hs ht hlt hz hw ho =>
    have hov := outm_over (fun c hc => List.mem_reverse.mp hc) ho
    have t1 := top_desc ok ht
    have o1 := outm_desc ok ho
    have h0 := ((wN_pos _).mp hw).1
    refine .inr ⟨_, rfl, hov.1, ?_⟩
    unfold plc
    rw [hov.2, t1]
    obtain ⟨n, en⟩ : ∃ n : Nat, costW L u = (n : Int) := ⟨(costW L u).toNat, by omega⟩
    obtain ⟨m, rfl⟩ : ∃ m : Nat, R = (m : Int) := ⟨R.toNat, by omega⟩
    rw [en] at hz hlt ⊢
    have e1 : wN L (m : Int) = cN L m := by
      unfold wN
      rw [if_pos (by omega), Int.toNat_natCast]
    have g := toN_gap ok (a := m + 1) (b := n) (by omega) fun r h1 h2 h3 => hz (r : Int) (by omega) (by omega) ((wN_pos _).mpr ⟨by omega, by rw [Int.toNat_natCast]; exact h3⟩)
    rw [Int.toNat_natCast, Int.toNat_natCast, g, toN_succ]
    omega
  | none hs he => exact .inl ⟨he, rfl⟩
end
end K10

namespace Ver
open PySem PySem.Spec PyProof.Rows L2
section
variable {X : Cx}
/-- < of data that are alike -/
def rLtD (K : PySem.W.Frag) : R2 := fun x y H Q => ∃ d e, Do K H x d ∧ Do K H y e ∧ PySem.W.alike d e = true ∧ d ≠ .none ∧ d.depth ≤ 64 ∧ Q (.bl (PySem.W.dataLt d e)) H
theorem op_ltD (sm : Sm X.K) (hu : X.A.units + 64 < cLine) : OpR X (compareOp .Lt) (rLtD X.K) := by
  intro pins s σ H x y v u Q I rx ry h
  obtain ⟨d, e, hd, he, al, dn, dd, q⟩ := h
  obtain ⟨as, r1, _⟩ := Do.reads sm I d x v hd rx
  obtain ⟨bs, r2, _⟩ := Do.reads sm I e y u he ry
  exact PySem.W.lt_data r1 r2 al dn (by omega) ⟨.bl _, H, I, rfl, q⟩
end
end Ver
namespace K10
open PySem PySem.Spec PyProof.Rows L2 Ver Num SX
/-! ### is_before -/
abbrev placeD (L : LC) (u : Wd) : PyData := .tuple [.int (costW L u), .str (S u)]
def befW (L : LC) (u v : Wd) : Bool := PySem.W.dataLt (placeD L u) (placeD L v)
theorem befW_eq (L : LC) (u v : Wd) : befW L u v = (decide (costW L u < costW L v) || (!decide (costW L v < costW L u) && (strKind.blt u v || (!strKind.blt v u && false)))) := by
  unfold befW PySem.W.dataLt
  simp [PySem.W.keyToks, PySem.W.keyToksAll, PyProof.Rows.lexLt, itemLt]
section
variable {P : Program} {w : World} {K : PySem.W.Frag} {mg : Str → Option Value} {base : Heap}
/-- Order.place_of a word: its cost and itself -/
def spPlace (K : PySem.W.Frag) : Sp := fun vs H Q _ => ∃ (o : Addr) (L : LC) (u : Wd), vs = [.ref o, vS u] ∧ OrdAt K H o L ∧ WOk L u ∧ ∀ (p : Addr) (H' : Hp), Same H H' → H' p = some (.tup [.int (costW L u), vS u]) → H p = none → Q (.ref p) H'
theorem ok_place (T : Tx K mg) : FnG P w K mg base CX0 2 (He.ma K (OC K) "place_of") (spPlace K) := by
  refine mk_Order_place_of T.d (fun vs H Q E h => ?_) (fun cdv A outer s H vs Q E hg hr h => ?_)
  · obtain ⟨o, L, u, rfl, _⟩ := h
    rfl
  · obtain ⟨o, L, u, rfl, at_, hw, q⟩ := h
    refine ⟨_, pss_one (ps_ret (pe_tup (pa_cons (pe_methG (pv 0) (kp_Order__cost_of T.d) (ok_cost_w T) hr hg pass0 (pa_cons (pv 1) pa_nil)) (pa_cons (pv 1) pa_nil)))), ?_⟩
    obtain ⟨dx, dc, fw, ho, _⟩ := id at_.ex
    refine ⟨_, rfl, o, OC K, dx, _, rfl, ho, T.o.cl, T.me (by decide +kernel), lk_none (by decide +kernel), _, rfl, o, L, u, rfl, at_, hw.1, Nat.le_trans hw.2 (by decide), fun H1 s1 => ⟨_, rfl, by show 2 ≤ sizeLine; decide, fun p np => ?_⟩⟩
    refine q p _ (s1.trans (same_up np)) upd_same ?_
    cases e : H p with
    | none => rfl
    | some x =>
      have := s1 _ _ e
      rw [np] at this
      cases this
def spBef (K : PySem.W.Frag) : Sp := fun vs H Q _ => ∃ (o : Addr) (L : LC) (u v : Wd), vs = [.ref o, vS u, vS v] ∧ OrdAt K H o L ∧ WOk L u ∧ WOk L v ∧ ∀ H', Same H H' → Q (.bl (befW L u v)) H'
end
end K10

namespace K10
open PySem PySem.Spec PyProof.Rows L2 Ver Num SX
/-! ### after, before -/
theorem rev_S (u : Wd) : revS (S u) = S u.reverse := by
  show (⟨(S u).cps.toList.reverse.toArray⟩ : Str) = _
  rw [chars_S]
section
variable {L : LC} (ok : LOk L)
include ok
theorem next_cost {u : Wd} (hu : ∀ c ∈ u, c ∈ L.map (·.1)) : ∃ s : Int, 1 ≤ s ∧ s ≤ 9 ∧ 0 < wN L (costW L u + s) := by
  obtain ⟨p0, _, _, _, hp0, _⟩ := four L ok.pos ok.few
  have r0 := ok.cost p0 hp0
  have hge := cost_ge ok u
  have hrk := rk_bd ok u hu
  refine ⟨p0.2, r0.1, r0.2, (wN_pos _).mpr ⟨by omega, ?_⟩⟩
  have h1 := rep_add ok hp0 (n := (costW L u).toNat) (by omega)
  rw [show (costW L u).toNat + p0.2.toNat = (costW L u + p0.2).toNat by omega] at h1
  exact h1
theorem nei_cost {ms : List Nat} (hm : ∀ c ∈ ms, c ∈ L.map (·.1)) {step : Int} {u v : Wd} (hu : ∀ c ∈ u, c ∈ L.map (·.1)) (h : Nei L ms step u (some v)) : costW L v ≤ costW L u + 9 := by
  cases h with
  | @here a s w A B1 B2 c p eu ht em hz hw ho =>
    have hov := outm_over hm ho
    rw [eu, costW_app, costW_app, costW_cons, hov.2]
    omega
  | @up R w hs ht hlt hz hw ho =>
    have hov := outm_over hm ho
    obtain ⟨s, s1, s9, hs2⟩ := next_cost ok hu
    by_cases h : R ≤ costW L u + s
    · rw [hov.2]
      omega
    · exact absurd hs2 (hz _ (by omega) (by omega))
  | @down R w hs ht hlt hz hw ho =>
    have hov := outm_over hm ho
    rw [hov.2]
    omega
end
section
variable {P : Program} {w : World} {K : PySem.W.Frag} {mg : Str → Option Value} {base : Heap}
/-- the word behind -/
def spAfter (K : PySem.W.Frag) : Sp := fun vs H Q _ => ∃ (o : Addr) (L : LC) (u : Wd), vs = [.ref o, vS u] ∧ OrdAt K H o L ∧ WOk L u ∧
  ∀ (v : Wd) (H' : Hp), (∀ c ∈ v, c ∈ L.map (·.1)) → v.length ≤ 1500 → plc L v = plc L u + 1 → Same H H' → Q (vS v) H'
theorem ok_after (T : Tx K mg) : FnG P w K mg base CX0 4 (He.ma K (OC K) "after") (spAfter K) := by
  refine mk_Order_after T.d (fun vs H Q E h => ?_) (fun cdv A outer s H vs Q E hg hr h => ?_)
  · obtain ⟨o, L, u, rfl, _⟩ := h
    rfl
  · obtain ⟨o, L, u, rfl, at_, hw, q⟩ := h
    refine ⟨_, pss_cons (ps_expr (pe_methG (pv 0) (kp_Order__check T.d) (ok_check T) (hr.mono (by decide)) hg pass0 (pa_cons (pv 1) pa_nil)))
      (pss_one (ps_ret (pe_methG (pv 0) (kp_Order__neighbour T.d) (ok_nei T) hr hg pass0 (pa_cons (pv 1) (pa_cons (pe_fld (pv 0) rfl) (pa_cons pe_int pa_nil)))))), ?_⟩
    obtain ⟨dx, dc, fw, ho, _⟩ := id at_.ex
    refine ⟨_, rfl, o, OC K, dx, _, rfl, ho, T.o.cl, T.me (by decide +kernel), lk_none (by decide +kernel), _, rfl, o, L, [u], rfl, at_, by show 1 ≤ 100; decide, fun v hv => ?_, fun H1 s1 => ?_⟩
    · obtain rfl : v = u := by simpa using hv
      exact hw
    · have at1 := at_.same s1
      have ok := at_.ok
      obtain ⟨dx1, dc1, fw1, ho1, _⟩ := id at1.ex
      refine ⟨_, rfl, o, OC K, dx1, _, rfl, ho1, T.o.cl, T.me (by decide +kernel), lk_none (by decide +kernel), _, rfl, _, rfl, o, _, dx1, _, _, rfl, ho1, T.o.cl, T.o.na _ (by decide +kernel), rfl, o, L, u, L.map (·.1), 1, rfl, at1, fun c => Iff.rfl, asc_nodup ok.asc, hw.1, Nat.le_trans hw.2 (by decide), .inl rfl, fun r H2 hr2 s2 => ?_⟩
      obtain ⟨v, rfl, hov, hp⟩ := nei_asc ok hw.1 hr2
      have c1 := nei_cost ok (fun c hc => hc) hw.1 hr2
      have c2 := cost_le ok u
      have c3 := cost_ge ok v
      have := hw.2
      exact q v H2 hov (by omega) hp (s1.trans s2)
/-- the word ahead -/
def spAhead (K : PySem.W.Frag) : Sp := fun vs H Q _ => ∃ (o : Addr) (L : LC) (u : Wd), vs = [.ref o, vS u] ∧ OrdAt K H o L ∧ WOk L u ∧
  (u = [] → ∀ H', Same H H' → Q .non H') ∧ (u ≠ [] → ∀ (v : Wd) (H' : Hp), (∀ c ∈ v, c ∈ L.map (·.1)) → v.length ≤ 1500 → plc L v + 1 = plc L u → Same H H' → Q (vS v) H')
theorem ok_ahead (T : Tx K mg) : FnG P w K mg base CX0 4 (He.ma K (OC K) "before") (spAhead K) := by
  refine mk_Order_before T.d (fun vs H Q E h => ?_) (fun cdv A outer s H vs Q E hg hr h => ?_)
  · obtain ⟨o, L, u, rfl, _⟩ := h
    rfl
  · obtain ⟨o, L, u, rfl, at_, hw, q0, q⟩ := h
    refine ⟨_, pss_cons (ps_expr (pe_methG (pv 0) (kp_Order__check T.d) (ok_check T) (hr.mono (by decide)) hg pass0 (pa_cons (pv 1) pa_nil)))
      (pss_one (ps_ret (pe_methG (pv 0) (kp_Order__neighbour T.d) (ok_nei T) hr hg pass0 (pa_cons (pv 1) (pa_cons (pe_revS (pe_fld (pv 0) rfl)) (pa_cons (pe_un un_neg pe_int) pa_nil)))))), ?_⟩
    obtain ⟨dx, dc, fw, ho, _⟩ := id at_.ex
    refine ⟨_, rfl, o, OC K, dx, _, rfl, ho, T.o.cl, T.me (by decide +kernel), lk_none (by decide +kernel), _, rfl, o, L, [u], rfl, at_, by show 1 ≤ 100; decide, fun v hv => ?_, fun H1 s1 => ?_⟩
    · obtain rfl : v = u := by simpa using hv
      exact hw
    · have at1 := at_.same s1
      have ok := at_.ok
      obtain ⟨dx1, dc1, fw1, ho1, _⟩ := id at1.ex
      refine ⟨_, rfl, o, OC K, dx1, _, rfl, ho1, T.o.cl, T.me (by decide +kernel), lk_none (by decide +kernel), _, rfl, _, rfl, o, _, dx1, _, _, rfl, ho1, T.o.cl, T.o.na _ (by decide +kernel), rfl, _, rfl, ?_, ?_⟩
      · rw [S_len, List.length_map]
        have := ok.few
        exact sl_of (by omega)
      rw [rev_S]
      refine ⟨_, rfl, o, L, u, (L.map (·.1)).reverse, -1, rfl, at1, fun c => List.mem_reverse, List.pairwise_reverse.mpr ((asc_nodup ok.asc).imp fun h => Ne.symm h), hw.1, Nat.le_trans hw.2 (by decide), .inr rfl, fun r H2 hr2 s2 => ?_⟩
      rcases nei_desc ok hw.1 hr2 with ⟨eu, rfl⟩ | ⟨v, rfl, hov, hp⟩
      · exact q0 eu H2 (s1.trans s2)
      · have c1 := nei_cost ok (fun c hc => List.mem_reverse.mp hc) hw.1 hr2
        have c2 := cost_le ok u
        have c3 := cost_ge ok v
        have := hw.2
        refine q (fun z => ?_) v H2 hov (by omega) hp (s1.trans s2)
        have h1 := (plc_bd ok v hov).1
        have h2 := (toN_bd ok (costW L v).toNat).1
        rw [z] at hp
        have : plc L [] = 0 := rfl
        omega
end
end K10

namespace K10
open PySem PySem.Spec PyProof.Rows L2 Ver Num SX
section
variable {P : Program} {w : World} {K : PySem.W.Frag} {mg : Str → Option Value} {base : Heap}
theorem yes_t {p q : Prop} (h : p) : if true = true then p else q := h
def spWords (K : PySem.W.Frag) : GW.SpW := fun vs H It N Q E => ∃ (o : Addr) (L : LC) (u : Wd) (f : Nat → Wd) (G : Nat → Prop), vs = [.ref o, vS u] ∧ OrdAt K H o L ∧ WOk L u ∧ 1 ≤ N ∧ f 0 = u ∧ G 0 ∧ (∀ m, m < N → G m → (∀ c ∈ f m, c ∈ L.map (·.1)) ∧ (f m).length ≤ 1600) ∧
  (∀ m r, m + 1 < N → G m → Nei L (L.map (·.1)) 1 (f m) r → r = some (f (m + 1)) ∧ G (m + 1)) ∧ ∀ ys, ys.length < N → G ys.length → It ys (vS (f ys.length))
theorem ok_words (T : Tx K mg) : ∃ fd, GW.GFw P w K mg base 4 (He.ma K (OC K) "words") fd ["self", "word"] (spWords K) ∧ Binds K fd ["self", "word"] [] := by
  refine mkg_Order_words T.d (fun vs H It M Q E h => ?_) (fun cdv A outer s H vs It M Q E pn g hg _ _ hr h => ?_)
  · obtain ⟨o, L, u, f, G, rfl, _⟩ := h
    rfl
  · obtain ⟨o, L, u, f, G, rfl, at_, hw, hN1, hf0, hG0, hfm, hst, hit⟩ := h
    have nd := sc_Order_words.nd
    refine ⟨_, GW.gws_cons (GW.gw_ps fun h0 => ps_expr (pe_methG (pv 0) (kp_Order__check T.d) (ok_check T) (hr.mono (by decide)) hg pass0 (pa_cons (pv 1) pa_nil)))
      (GW.gws_cons (GW.gw_while (fun h0 => GW.owns_gx (K := K) (mg := mg) (base := base) (N := n_Order_words) h0) (fun h0 => pt_val pe_bl)
        (GW.gws_cons (GW.gw_yield fun h0 => pv 1)
        (GW.gws_cons (GW.gw_ps fun h0 => ps_set (i := 1) nd rfl (Or.inl rfl) (pe_methG (pv 0) (kp_Order__neighbour T.d) (ok_nei T) hr hg pass0 (pa_cons (pv 1) (pa_cons (pe_fld (pv 0) rfl) (pa_cons pe_int pa_nil))))) GW.gws_nil)))
      GW.gws_nil), ?_⟩
    obtain ⟨dx, dc, fw, ho, _⟩ := id at_.ex
    have ok := at_.ok
    refine fun h0 => ⟨_, rfl, o, OC K, dx, _, rfl, ho, T.o.cl, T.me (by decide +kernel), lk_none (by decide +kernel), _, rfl, o, L, [u], rfl, at_, by show 1 ≤ 100; decide, fun v hv => ?_, fun H1 s1 => ?_⟩
    · obtain rfl : v = u := by simpa using hv
      exact hw
    refine ⟨fun m ys σ' H' => m + ys.length = M ∧ 1 ≤ m ∧ G ys.length ∧ Same H H' ∧ σ' = [some (.ref o), some (vS (f ys.length))], ⟨M, Nat.add_zero _, hN1, hG0, s1, by rw [List.length_nil, hf0]; rfl⟩, fun m ys σ' H' hV h1 => ?_⟩
    obtain ⟨v1, v2, vG, v3, rfl⟩ := hV
    refine ⟨true, rfl, ?_⟩
    refine yes_t ?_
    refine ⟨fun ys' σ'' H'' => 1 ≤ m - 1 ∧ m - 1 + ys'.length = M ∧ G ys'.length ∧ Same H H'' ∧ σ'' = [some (.ref o), some (vS (f ys'.length))], fun ys' σ'' H'' q => ⟨m - 1, by omega, q.2.1, q.1, q.2.2.1, q.2.2.2.1, q.2.2.2.2⟩, ?_⟩
    have hlt : ys.length < M := by omega
    refine ⟨hlt, fun h2 => ⟨_, rfl, v3, hit ys hlt vG, fun hm => ?_⟩⟩
    obtain ⟨w1, w2⟩ := hfm ys.length hlt vG
    refine fun h3 => ⟨_, rfl, o, OC K, dx, _, rfl, ho, T.o.cl, T.me (by decide +kernel), lk_none (by decide +kernel), _, rfl, _, rfl, o, _, dx, _, _, rfl, ho, T.o.cl, T.o.na _ (by decide +kernel), rfl, o, L, f ys.length, L.map (·.1), 1, rfl, at_, fun c => Iff.rfl, asc_nodup ok.asc, w1, w2, .inl rfl, fun r H2 hr2 s2 => ?_⟩
    obtain ⟨e1, e2⟩ := hst ys.length r (by omega) vG hr2
    rw [e1]
    refine ⟨by omega, by rw [List.length_append, List.length_singleton]; omega, by rw [List.length_append, List.length_singleton]; exact e2, s2, ?_⟩
    rw [List.length_append, List.length_singleton]
    rfl
end
end K10

namespace K10
open PySem PySem.Spec PyProof.Rows L2 Ver Num SX
section
variable {P : Program} {w : World} {K : PySem.W.Frag} {mg : Str → Option Value} {base : Heap}
theorem no_t {p q : Prop} (h : q) : if false = true then p else q := h
/-- Order.spread of the words f 0 to f T -/
def spSpread (K : PySem.W.Frag) : GW.SpW := fun vs H It N Q E => ∃ (o : Addr) (L : LC) (f : Nat → Wd) (T : Nat) (G : Nat → Prop), vs = [.ref o, vS (f 0), vS (f T)] ∧ OrdAt K H o L ∧ WOk L (f 0) ∧ WOk L (f T) ∧ T + 1 < N ∧ befW L (f T) (f 0) = false ∧ G 0 ∧ (∀ m, m ≤ T → G m → (∀ c ∈ f m, c ∈ L.map (·.1)) ∧ (f m).length ≤ 1600) ∧ (∀ m, m < T → S (f m) ≠ S (f T)) ∧
  (∀ m r, m < T → G m → Nei L (L.map (·.1)) 1 (f m) r → r = some (f (m + 1)) ∧ G (m + 1)) ∧ (∀ ys, ys.length ≤ T → It ys (vS (f ys.length))) ∧ ∀ ys, ys.length = T + 1 → Q ys
theorem ok_spread (T : Tx K mg) : ∃ fd, GW.GFw P w K mg base 6 (He.ma K (OC K) "spread") fd ["self", "first", "last"] (spSpread K) ∧ Binds K fd ["self", "first", "last"] [] := by
  obtain ⟨fdw, Fw, Bw⟩ := ok_words (P := P) (w := w) (base := base) T
  refine mkg_Order_spread T.d (fun vs H It M Q E h => ?_) (fun cdv A outer s H vs It M Q E pn g hg hnT hok hr h => ?_)
  · obtain ⟨o, L, f, t, G, rfl, _⟩ := h
    rfl
  · obtain ⟨o, L, f, t, G, rfl, at_, hw0, hwT, hN, hbf, hG0, hfm, hne, hst, hit, hQ⟩ := h
    have nd := sc_Order_spread.nd
    have hu := hr.units
    refine ⟨_, GW.gws_cons (GW.gw_ps fun h0 => ps_expr (pe_methG (pv 0) (kp_Order__check T.d) (ok_check T) (hr.mono (by decide)) hg pass0 (pa_cons (pv 1) (pa_cons (pv 2) pa_nil))))
      (GW.gws_cons (GW.gw_ps fun h0 => ps_if (pt_cmpR (op_ltD T.sm hu) (pe_methG (pv 0) (kp_Order_place_of T.d) (ok_place T) (hr.mono (by decide)) hg pass0 (pa_cons (pv 2) pa_nil)) (pe_methG (pv 0) (kp_Order_place_of T.d) (ok_place T) (hr.mono (by decide)) hg pass0 (pa_cons (pv 1) pa_nil)) (nomark _)) (pss_one ps_retN) pss_nil)
      (GW.gws_cons (GW.gw_forY (i := 3) (j := 2) (fun h0 => GW.pgw_meth (pv 0) T.o.cl (T.me (by decide +kernel)) Fw (hr.mono (by decide)) Bw (Fg := fun H1 Hn => Hn = H ∧ Same H H1) (fun pins σ Ha Hn s' I e => ?_) (pa_cons (pv 1) pa_nil)) hr hg nd rfl rfl (by decide) rfl rfl rfl rfl (fun g' hg' => hg'))
      GW.gws_nil)), ?_⟩
    · obtain ⟨e1, e2⟩ := e
      subst e1
      exact ⟨GW.forget2 hnT ⟨_, hok⟩ I e2, hnT⟩
    obtain ⟨dx, dc, fw, ho, _⟩ := id at_.ex
    refine fun h0 => ⟨_, rfl, o, OC K, dx, _, rfl, ho, T.o.cl, T.me (by decide +kernel), lk_none (by decide +kernel), _, rfl, _, rfl, o, L, [f 0, f t], rfl, at_, by show 2 ≤ 100; decide, fun x hx => ?_, fun H1 s1 => fun h1 => ?_⟩
    · simp only [List.mem_cons, List.not_mem_nil, or_false] at hx
      rcases hx with rfl | rfl
      · exact hw0
      · exact hwT
    have at1 := at_.same s1
    obtain ⟨dx1, dc1, fw1, ho1, _⟩ := id at1.ex
    refine ⟨_, rfl, o, OC K, dx1, _, rfl, ho1, T.o.cl, T.me (by decide +kernel), lk_none (by decide +kernel), _, rfl, o, L, f t, rfl, at1, hwT, fun p H2 s2 hp np => ?_⟩
    have at2 := at1.same s2
    obtain ⟨dx2, dc2, fw2, ho2, _⟩ := id at2.ex
    refine ⟨_, rfl, o, OC K, dx2, _, rfl, ho2, T.o.cl, T.me (by decide +kernel), lk_none (by decide +kernel), _, rfl, o, L, f 0, rfl, at2, hw0, fun p2 H3 s3 hp2 np2 => ?_⟩
    refine ⟨placeD L (f t), placeD L (f 0), .tup (SqT.of (s3 _ _ hp)) (.cons (.int _) (.cons (.str _) .nil)), .tup (SqT.of hp2) (.cons (.int _) (.cons (.str _) .nil)), by simp [PySem.W.alike, PySem.W.alikeAll], (fun z => by cases z), by simp [PyData.depth, PyData.depthAll], befW L (f t) (f 0), rfl, ?_⟩
    rw [hbf]
    have at3 := at2.same s3
    have s03 : Same H H3 := (s1.trans s2).trans s3
    obtain ⟨dx3, dc3, fw3, ho3, _⟩ := id at3.ex
    refine no_t ⟨fun m => S (f m), t + 1, S (f t), fun m ys => ys.length = m ∧ m ≤ t, Nat.le_add_left 1 t, fun h2 => ⟨_, rfl, o, dx3, _, rfl, ho3, lk_none (by decide +kernel), _, rfl, H, ⟨rfl, s03⟩, ⟨o, L, f 0, f, G, rfl, at_, hw0, Nat.le_add_left 1 t, rfl, hG0, fun m hm => hfm m (by omega), fun m r hm => hst m r (by omega), fun ys _ _ => rfl⟩, rfl⟩, rfl, ⟨rfl, Nat.zero_le _⟩, fun m ys hm => ?_⟩
    obtain ⟨rfl, hm⟩ := hm
    refine ⟨by omega, hit ys hm, fun hlt => ?_⟩
    by_cases q : S (f ys.length) = S (f t)
    · rw [if_pos q]
      have e : ys.length = t := by
        rcases Nat.lt_or_ge ys.length t with z | z
        · exact absurd q (hne _ z)
        · omega
      exact ⟨rfl, fun _ _ z => z, hQ _ (by rw [List.length_append, List.length_singleton, e])⟩
    · rw [if_neg q]
      have e : ys.length < t := by
        rcases Nat.lt_or_ge ys.length t with z | z
        · exact z
        · exact absurd (by rw [show ys.length = t by omega]) q
      exact ⟨by omega, by rw [List.length_append, List.length_singleton], by omega⟩
end
end K10

namespace K10
open PySem PySem.Spec PyProof.Rows L2 Ver Num SX
/-! each number is a word's, and one word's -/
theorem pick_at {α : Type} {f : α → Int} : ∀ (l : List α) (r : Int), 0 ≤ r → r < (l.map f).sum → (∀ x ∈ l, 0 ≤ f x) → ∃ A p B, l = A ++ p :: B ∧ (A.map f).sum ≤ r ∧ r < (A.map f).sum + f p
  | [], r, h0, h1, _ => by
    rw [List.map_nil, List.sum_nil] at h1
    omega
  | x :: l, r, h0, h1, hn => by
    rw [List.map_cons, List.sum_cons] at h1
    by_cases q : r < f x
    · exact ⟨[], x, l, rfl, by simpa using h0, by simpa using q⟩
    · obtain ⟨A, p, B, e, h2, h3⟩ := pick_at l (r - f x) (by omega) (by omega) fun y hy => hn y (List.mem_cons_of_mem _ hy)
      refine ⟨x :: A, p, B, by rw [e]; rfl, ?_, ?_⟩ <;> rw [List.map_cons, List.sum_cons] <;> omega
section
variable {L : LC} (ok : LOk L)
include ok
theorem part_of {A B : LC} {p : Nat × Int} (e : L = A ++ p :: B) : (∀ q ∈ A, q.1 < p.1) ∧ (∀ q ∈ B, p.1 < q.1) ∧ (L.filter fun q => decide (q.1 < p.1)) = A := by
  have asc := ok.asc
  rw [e, List.map_append, List.map_cons, List.pairwise_append] at asc
  obtain ⟨_, h2, h3⟩ := asc
  have hB := (List.pairwise_cons.mp h2).1
  have lowA : ∀ q ∈ A, q.1 < p.1 := fun q hq => h3 q.1 (List.mem_map.mpr ⟨q, hq, rfl⟩) p.1 List.mem_cons_self
  have upB : ∀ q ∈ B, p.1 < q.1 := fun q hq => hB q.1 (List.mem_map.mpr ⟨q, hq, rfl⟩)
  refine ⟨lowA, upB, ?_⟩
  rw [e, List.filter_append, List.filter_cons, if_neg (by simp), List.filter_eq_self.mpr fun q hq => decide_eq_true (lowA q hq), List.filter_eq_nil_iff.mpr fun q hq => ?_, List.append_nil]
  have := upB q hq
  rw [decide_eq_true_iff]
  omega
theorem rk_cons {C : Int} {A B : LC} {p : Nat × Int} (e : L = A ++ p :: B) (u : Wd) : rk L C (p.1 :: u) = (A.map fun q => wN L (C - q.2)).sum + rk L (C - p.2) u := by
  have hp : p ∈ L := by rw [e]; exact List.mem_append_right _ List.mem_cons_self
  have hc := costOf_mem (asc_nodup ok.asc) hp
  show lowS L C p.1 + rk L (C - costOf L p.1) u = _
  unfold lowS
  rw [(part_of ok e).2.2, hc]
theorem rk_sur : ∀ (C : Nat) (r : Int), 0 ≤ r → r < cN L C → ∃ u : Wd, (∀ c ∈ u, c ∈ L.map (·.1)) ∧ costW L u = (C : Int) ∧ rk L (C : Int) u = r := by
  intro C
  induction C using Nat.strongRecOn with
  | ind C ih =>
    intro r h0 h1
    rcases Nat.eq_zero_or_pos C with q | q
    · subst q
      rw [cN_zero] at h1
      exact ⟨[], (fun c hc => by cases hc), rfl, by show (0 : Int) = r; omega⟩
    · rw [cN_sum ok q] at h1
      obtain ⟨A, p, B, e, h2, h3⟩ := pick_at (f := fun p : Nat × Int => wN L ((C : Int) - p.2)) L r h0 h1 fun x _ => wN_nn ok _
      have hp : p ∈ L := by rw [e]; exact List.mem_append_right _ List.mem_cons_self
      have hc := costOf_mem (asc_nodup ok.asc) hp
      have hcost := ok.cost p hp
      have hge : 0 ≤ (C : Int) - p.2 := by
        rcases Int.lt_or_le ((C : Int) - p.2) 0 with z | z
        · have : wN L ((C : Int) - p.2) = 0 := by unfold wN; rw [if_neg (by omega)]
          rw [this] at h3
          omega
        · exact z
      have hw : wN L ((C : Int) - p.2) = cN L ((C : Int) - p.2).toNat := by unfold wN; rw [if_pos hge]
      rw [hw] at h3
      obtain ⟨u, u1, u2, u3⟩ := ih ((C : Int) - p.2).toNat (by omega) (r - (A.map fun q => wN L ((C : Int) - q.2)).sum) (by omega) (by omega)
      have ez : (((C : Int) - p.2).toNat : Int) = (C : Int) - p.2 := by omega
      refine ⟨p.1 :: u, fun c hc' => ?_, by rw [costW_cons, hc, u2]; omega, ?_⟩
      · rcases List.mem_cons.mp hc' with rfl | hc'
        · exact List.mem_map.mpr ⟨p, hp, rfl⟩
        · exact u1 c hc'
      · rw [rk_cons ok e, ← ez, u3]
        omega
theorem toN_at : ∀ (M : Nat) (n : Int), 0 ≤ n → n < toN L M → ∃ k, k < M ∧ toN L k ≤ n ∧ n < toN L (k + 1)
  | 0, n, h0, h1 => by
    rw [toN_zero] at h1
    omega
  | M + 1, n, h0, h1 => by
    by_cases q : n < toN L M
    · obtain ⟨k, h2, h3⟩ := toN_at M n h0 q
      exact ⟨k, Nat.lt_succ_of_lt h2, h3⟩
    · exact ⟨M, Nat.lt_succ_self _, by omega, h1⟩
/-- each number below is a word's -/
theorem plc_sur {M : Nat} {n : Int} (h0 : 0 ≤ n) (h1 : n < toN L M) : ∃ u : Wd, (∀ c ∈ u, c ∈ L.map (·.1)) ∧ costW L u < (M : Int) ∧ plc L u = n := by
  obtain ⟨k, k1, k2, k3⟩ := toN_at ok M n h0 h1
  rw [toN_succ] at k3
  obtain ⟨u, u1, u2, u3⟩ := rk_sur ok k (n - toN L k) (by omega) (by omega)
  refine ⟨u, u1, by omega, ?_⟩
  unfold plc
  rw [u2, u3]
  show toN L ((k : Int)).toNat + _ = n
  rw [Int.toNat_natCast]
  omega
theorem rk_lt {C : Int} {A B : LC} {p q : Nat × Int} (e : L = A ++ p :: B) (hq : q ∈ L) (h : p.1 < q.1) : (A.map fun q => wN L (C - q.2)).sum + wN L (C - p.2) ≤ lowS L C q.1 := by
  obtain ⟨h1, h2, _⟩ := part_of ok e
  have ef : (L.filter fun x => decide (x.1 < q.1)) = A ++ p :: B.filter fun x => decide (x.1 < q.1) := by
    conv => lhs; rw [e]
    rw [List.filter_append, List.filter_cons, if_pos (decide_eq_true h), List.filter_eq_self.mpr fun x hx => decide_eq_true (Nat.lt_trans (h1 x hx) h)]
  unfold lowS
  rw [ef, List.map_append, List.sum_append, List.map_cons, List.sum_cons]
  have := sum_nn (f := fun q : Nat × Int => wN L (C - q.2)) (B.filter fun x => decide (x.1 < q.1)) fun x _ => wN_nn ok _
  omega
theorem rk_inj : ∀ (u v : Wd), (∀ c ∈ u, c ∈ L.map (·.1)) → (∀ c ∈ v, c ∈ L.map (·.1)) → costW L u = costW L v → rk L (costW L u) u = rk L (costW L v) v → u = v
  | [], v, _, hv, e, _ => by
    have := cost_ge ok v
    have e : (0 : Int) = costW L v := e
    exact (List.length_eq_zero_iff.mp (by omega)).symm
  | c :: u, [], hu, _, e, _ => by
    have := cost_ge ok (c :: u)
    have e : costW L (c :: u) = 0 := e
    rw [List.length_cons] at this
    omega
  | c :: u, d :: v, hu, hv, e, er => by
    have ne : ∀ (c d : Nat) (u v : Wd), (∀ x ∈ c :: u, x ∈ L.map (·.1)) → (∀ x ∈ d :: v, x ∈ L.map (·.1)) → costW L (c :: u) = costW L (d :: v) → c < d → rk L (costW L (c :: u)) (c :: u) < rk L (costW L (d :: v)) (d :: v) := fun c d u v hu hv e h => by
      obtain ⟨p, hp, rfl⟩ := List.mem_map.mp (hu c List.mem_cons_self)
      obtain ⟨q, hq, rfl⟩ := List.mem_map.mp (hv d List.mem_cons_self)
      obtain ⟨A, B, eL⟩ := List.append_of_mem hp
      obtain ⟨A', B', eL'⟩ := List.append_of_mem hq
      have hc := costOf_mem (asc_nodup ok.asc) hp
      have hd := costOf_mem (asc_nodup ok.asc) hq
      have b1 := rk_bd ok u fun x hx => hu x (List.mem_cons_of_mem _ hx)
      have b2 := rk_bd ok v fun x hx => hv x (List.mem_cons_of_mem _ hx)
      have low := rk_lt ok (C := costW L (p.1 :: u)) eL hq h
      have g1 := cost_ge ok u
      have ec : costW L (p.1 :: u) - p.2 = costW L u := by rw [costW_cons, hc]; omega
      have ed : costW L (p.1 :: u) - q.2 = costW L v := by rw [e, costW_cons, hd]; omega
      have ew : wN L (costW L (p.1 :: u) - p.2) = cN L (costW L u).toNat := by rw [ec]; unfold wN; rw [if_pos (by omega)]
      rw [← e, rk_cons ok eL, ec]
      have : rk L (costW L (p.1 :: u)) (q.1 :: v) = lowS L (costW L (p.1 :: u)) q.1 + rk L (costW L v) v := by
        show lowS L _ q.1 + rk L (_ - costOf L q.1) v = _
        rw [hd, ed]
      rw [this]
      rw [ew] at low
      omega
    rcases Nat.lt_trichotomy c d with h | h | h
    · have := ne c d u v hu hv e h
      omega
    · subst h
      have e2 : costW L u = costW L v := by rw [costW_cons, costW_cons] at e; omega
      have er2 : rk L (costW L u) u = rk L (costW L v) v := by
        have x1 : rk L (costW L (c :: u)) (c :: u) = lowS L (costW L (c :: u)) c + rk L (costW L u) u := by
          show lowS L _ c + rk L (_ - costOf L c) u = _
          rw [costW_cons, show costOf L c + costW L u - costOf L c = costW L u by omega]
        have x2 : rk L (costW L (c :: v)) (c :: v) = lowS L (costW L (c :: v)) c + rk L (costW L v) v := by
          show lowS L _ c + rk L (_ - costOf L c) v = _
          rw [costW_cons, show costOf L c + costW L v - costOf L c = costW L v by omega]
        rw [x1, x2, e] at er
        omega
      rw [rk_inj u v (fun x hx => hu x (List.mem_cons_of_mem _ hx)) (fun x hx => hv x (List.mem_cons_of_mem _ hx)) e2 er2]
    · have := ne d c v u hv hu e.symm h
      omega
theorem plc_inj {u v : Wd} (hu : ∀ c ∈ u, c ∈ L.map (·.1)) (hv : ∀ c ∈ v, c ∈ L.map (·.1)) (e : plc L u = plc L v) : u = v := by
  have b1 := plc_bd ok u hu
  have b2 := plc_bd ok v hv
  have g1 := cost_ge ok u
  have g2 := cost_ge ok v
  have ec : (costW L u).toNat = (costW L v).toNat := by
    rcases Nat.lt_trichotomy (costW L u).toNat (costW L v).toNat with h | h | h
    · have := toN_mono ok (m := (costW L u).toNat + 1) (n := (costW L v).toNat) h
      omega
    · exact h
    · have := toN_mono ok (m := (costW L v).toNat + 1) (n := (costW L u).toNat) h
      omega
  have ec2 : costW L u = costW L v := by omega
  refine rk_inj ok u v hu hv ec2 ?_
  unfold plc at e
  rw [ec] at e
  omega
end
end K10

namespace K10
open PySem PySem.Spec PyProof.Rows L2 Ver Num SX
/-! the words from a number on -/
section
variable {L : LC} (ok : LOk L)
include ok
theorem words_from {n : Int} {T M : Nat} (h0 : 0 ≤ n) (h1 : n + (T : Int) < toN L M) : ∃ f : Nat → Wd, ∀ m, m ≤ T → (∀ c ∈ f m, c ∈ L.map (·.1)) ∧ costW L (f m) < (M : Int) ∧ plc L (f m) = n + (m : Int) := by
  have h : ∀ m : Nat, ∃ u : Wd, m ≤ T → (∀ c ∈ u, c ∈ L.map (·.1)) ∧ costW L u < (M : Int) ∧ plc L u = n + (m : Int) := fun m => by
    by_cases q : m ≤ T
    · obtain ⟨u, h⟩ := plc_sur ok (M := M) (n := n + (m : Int)) (by omega) (by omega)
      exact ⟨u, fun _ => h⟩
    · exact ⟨[], fun z => absurd z q⟩
  exact ⟨fun m => (h m).choose, fun m hm => (h m).choose_spec hm⟩
theorem next_from {n : Int} {T M : Nat} {f : Nat → Wd} (hf : ∀ m, m ≤ T → (∀ c ∈ f m, c ∈ L.map (·.1)) ∧ costW L (f m) < (M : Int) ∧ plc L (f m) = n + (m : Int)) {m : Nat} (hm : m < T) {r : Option Wd} (h : Nei L (L.map (·.1)) 1 (f m) r) : r = some (f (m + 1)) := by
  obtain ⟨a1, _, a3⟩ := hf m (by omega)
  obtain ⟨b1, _, b3⟩ := hf (m + 1) (by omega)
  obtain ⟨v, rfl, hv, hp⟩ := nei_asc ok a1 h
  rw [plc_inj ok hv b1 (by rw [hp, a3, b3]; push_cast; omega)]
theorem last_from {n : Int} {T M : Nat} {f : Nat → Wd} (hf : ∀ m, m ≤ T → (∀ c ∈ f m, c ∈ L.map (·.1)) ∧ costW L (f m) < (M : Int) ∧ plc L (f m) = n + (m : Int)) {m : Nat} (hm : m < T) : f m ≠ f T := fun e => by
  obtain ⟨_, _, a3⟩ := hf m (by omega)
  obtain ⟨_, _, b3⟩ := hf T (Nat.le_refl _)
  rw [e, b3] at a3
  omega
end
end K10

namespace K10
open PySem PySem.Spec PyProof.Rows L2 Ver Num SX
/-! the order of the words is the order of their numbers -/
section
variable {L : LC} (ok : LOk L)
include ok
theorem rk_ne {c d : Nat} {u v : Wd} (hu : ∀ x ∈ c :: u, x ∈ L.map (·.1)) (hv : ∀ x ∈ d :: v, x ∈ L.map (·.1)) (e : costW L (c :: u) = costW L (d :: v)) (h : c < d) : rk L (costW L (c :: u)) (c :: u) < rk L (costW L (d :: v)) (d :: v) := by
  obtain ⟨p, hp, rfl⟩ := List.mem_map.mp (hu c List.mem_cons_self)
  obtain ⟨q, hq, rfl⟩ := List.mem_map.mp (hv d List.mem_cons_self)
  obtain ⟨A, B, eL⟩ := List.append_of_mem hp
  have hc := costOf_mem (asc_nodup ok.asc) hp
  have hd := costOf_mem (asc_nodup ok.asc) hq
  have b1 := rk_bd ok u fun x hx => hu x (List.mem_cons_of_mem _ hx)
  have b2 := rk_bd ok v fun x hx => hv x (List.mem_cons_of_mem _ hx)
  have low := rk_lt ok (C := costW L (p.1 :: u)) eL hq h
  have g1 := cost_ge ok u
  have ec : costW L (p.1 :: u) - p.2 = costW L u := by rw [costW_cons, hc]; omega
  have ed : costW L (p.1 :: u) - q.2 = costW L v := by rw [e, costW_cons, hd]; omega
  have ew : wN L (costW L (p.1 :: u) - p.2) = cN L (costW L u).toNat := by rw [ec]; unfold wN; rw [if_pos (by omega)]
  rw [← e, rk_cons ok eL, ec]
  have : rk L (costW L (p.1 :: u)) (q.1 :: v) = lowS L (costW L (p.1 :: u)) q.1 + rk L (costW L v) v := by
    show lowS L _ q.1 + rk L (_ - costOf L q.1) v = _
    rw [hd, ed]
  rw [this]
  rw [ew] at low
  omega
theorem rk_mono : ∀ (u v : Wd), (∀ c ∈ u, c ∈ L.map (·.1)) → (∀ c ∈ v, c ∈ L.map (·.1)) → costW L u = costW L v → u < v → rk L (costW L u) u < rk L (costW L v) v
  | [], [], _, _, _, h => absurd h (by simp)
  | [], d :: v, _, _, e, _ => by
    have := cost_ge ok (d :: v)
    have e : (0 : Int) = costW L (d :: v) := e
    rw [List.length_cons] at this
    omega
  | c :: u, [], _, _, _, h => absurd h (by simp)
  | c :: u, d :: v, hu, hv, e, h => by
    rcases List.cons_lt_cons_iff.mp h with h2 | ⟨rfl, h2⟩
    · exact rk_ne ok hu hv e h2
    · have e2 : costW L u = costW L v := by rw [costW_cons, costW_cons] at e; omega
      have ih := rk_mono u v (fun x hx => hu x (List.mem_cons_of_mem _ hx)) (fun x hx => hv x (List.mem_cons_of_mem _ hx)) e2 h2
      have x1 : rk L (costW L (c :: u)) (c :: u) = lowS L (costW L (c :: u)) c + rk L (costW L u) u := by
        show lowS L _ c + rk L (_ - costOf L c) u = _
        rw [costW_cons, show costOf L c + costW L u - costOf L c = costW L u by omega]
      have x2 : rk L (costW L (c :: v)) (c :: v) = lowS L (costW L (c :: v)) c + rk L (costW L v) v := by
        show lowS L _ c + rk L (_ - costOf L c) v = _
        rw [costW_cons, show costOf L c + costW L v - costOf L c = costW L v by omega]
      rw [x1, x2, e]
      omega
theorem plc_lt {u v : Wd} (hu : ∀ c ∈ u, c ∈ L.map (·.1)) (hv : ∀ c ∈ v, c ∈ L.map (·.1)) (h : costW L u < costW L v ∨ costW L u = costW L v ∧ u < v) : plc L u < plc L v := by
  have b1 := plc_bd ok u hu
  have b2 := plc_bd ok v hv
  have g1 := cost_ge ok u
  have g2 := cost_ge ok v
  rcases h with h | ⟨e, h⟩
  · have := toN_mono ok (m := (costW L u).toNat + 1) (n := (costW L v).toNat) (by omega)
    omega
  · have := rk_mono ok u v hu hv e h
    unfold plc
    rw [e] at this ⊢
    omega
theorem bef_plc {u v : Wd} (hu : ∀ c ∈ u, c ∈ L.map (·.1)) (hv : ∀ c ∈ v, c ∈ L.map (·.1)) : befW L u v = decide (plc L u < plc L v) := by
  have key : ∀ u v : Wd, befW L u v = decide (costW L u < costW L v ∨ costW L u = costW L v ∧ u < v) := fun u v => by
    rw [befW_eq, Bool.eq_iff_iff]
    simp only [PyProof.Rows.strKind, Bool.or_eq_true, Bool.and_eq_true, Bool.not_eq_true', decide_eq_true_eq, decide_eq_false_iff_not, Bool.and_false, Bool.false_eq_true, or_false]
    constructor
    · rintro (a | ⟨b, c⟩)
      · exact .inl a
      · by_cases q : costW L u < costW L v
        · exact .inl q
        · exact .inr ⟨by omega, c⟩
    · rintro (a | ⟨b, c⟩)
      · exact .inl a
      · exact .inr ⟨by omega, c⟩
  rw [key]
  by_cases h : costW L u < costW L v ∨ costW L u = costW L v ∧ u < v
  · rw [decide_eq_true h, decide_eq_true (plc_lt ok hu hv h)]
  · rw [decide_eq_false h, decide_eq_false]
    intro hp
    by_cases e : u = v
    · rw [e] at hp
      omega
    · have hvu : costW L v < costW L u ∨ costW L v = costW L u ∧ v < u := by
        by_cases q : costW L u = costW L v
        · refine .inr ⟨q.symm, ?_⟩
          have nl : ¬ u < v := fun z => h (.inr ⟨q, z⟩)
          exact Classical.byContradiction fun nv => e (List.le_antisymm (List.not_lt.mp nv) (List.not_lt.mp nl))
        · exact .inl (by omega)
      have := plc_lt ok hv hu hvu
      omega
end
end K10

namespace K10
open PySem PySem.Spec PyProof.Rows L2 Ver Num SX
/-! ### two letters: enough words of little cost -/
section
variable {L : LC} (ok : LOk L)
include ok
theorem two_sum {p q : Nat × Int} {L' : LC} (e : L = p :: q :: L') {n : Nat} (hn : 1 ≤ n) : wN L ((n : Int) - p.2) + wN L ((n : Int) - q.2) ≤ cN L n := by
  rw [cN_sum ok hn]
  have h : ∀ l : LC, 0 ≤ (l.map fun p => wN L ((n : Int) - p.2)).sum := fun l => by
    induction l with
    | nil => exact Int.le_refl _
    | cons x l ih =>
      have := wN_nn ok ((n : Int) - x.2)
      rw [List.map_cons, List.sum_cons]
      omega
  have := h L'
  have e2 : (L.map fun p => wN L ((n : Int) - p.2)).sum = ((p :: q :: L').map fun p => wN L ((n : Int) - p.2)).sum := congrArg (fun l => (l.map fun p : Nat × Int => wN L ((n : Int) - p.2)).sum) e
  rw [e2, List.map_cons, List.map_cons, List.sum_cons, List.sum_cons]
  omega
theorem toN_way (M : Nat) {a : Nat} (c : Int) (ec : c = (a : Int)) (h1 : 1 ≤ a) : toN L (M + 1 - a) = toN L (M - a) + wN L ((M : Int) - c) := by
  subst ec
  unfold wN
  by_cases h : a ≤ M
  · rw [if_pos (by omega), show M + 1 - a = (M - a) + 1 by omega, toN_succ, show ((M : Int) - (a : Int)).toNat = M - a by omega]
  · rw [if_neg (by omega), show M + 1 - a = 0 by omega, show M - a = 0 by omega]
    omega
theorem two_rec {p q : Nat × Int} {L' : LC} (e : L = p :: q :: L') {a b : Nat} (ea : p.2 = (a : Int)) (eb : q.2 = (b : Int)) (h1 : 1 ≤ a) (h2 : 1 ≤ b) : ∀ M : Nat, 1 + toN L (M + 1 - a) + toN L (M + 1 - b) ≤ toN L (M + 1)
  | 0 => by
    rw [show 0 + 1 - a = 0 by omega, show 0 + 1 - b = 0 by omega, toN_succ, toN_zero, cN_zero]
    decide
  | M + 1 => by
    have ih := two_rec e ea eb h1 h2 M
    have w1 := toN_way ok (M + 1) p.2 ea h1
    have w2 := toN_way ok (M + 1) q.2 eb h2
    have hs := two_sum ok e (n := M + 1) (by omega)
    rw [toN_succ (L := L) (M + 1)]
    omega
theorem two_many (hl : 2 ≤ L.length) : ∀ j : Nat, ((2 ^ j : Nat) : Int) ≤ toN L (9 * j) + 1
  | 0 => by rw [toN_zero]; decide
  | j + 1 => by
    have ih := two_many hl j
    obtain ⟨p, q, L', e⟩ : ∃ p q L', L = p :: q :: L' := by
      match L, hl with
      | p :: q :: L', _ => exact ⟨p, q, L', rfl⟩
    have hp := ok.cost p (by rw [e]; exact List.mem_cons_self)
    have hq := ok.cost q (by rw [e]; exact List.mem_cons_of_mem _ List.mem_cons_self)
    have h := two_rec ok e (a := p.2.toNat) (b := q.2.toNat) (by omega) (by omega) (by omega) (by omega) (9 * j + 8)
    have m1 := toN_mono ok (show 9 * j ≤ 9 * j + 8 + 1 - p.2.toNat by omega)
    have m2 := toN_mono ok (show 9 * j ≤ 9 * j + 8 + 1 - q.2.toNat by omega)
    rw [show 9 * (j + 1) = 9 * j + 8 + 1 by omega, Nat.pow_succ]
    omega
theorem two_far (hl : 2 ≤ L.length) : 400 ≤ toN L 81 := by
  have := two_many ok hl 9
  have e : ((2 ^ 9 : Nat) : Int) = 512 := rfl
  have e2 : 9 * 9 = 81 := rfl
  rw [e, e2] at this
  omega
end
/-! ### what stands when dicts with tuples as keys are forgotten -/
def NT (H H' : Hp) : Prop := ∀ b x, H b = some x → (∀ kvs, x ≠ .dT kvs) → H' b = some x
theorem nt_noT {H : Hp} : NT H (GW.noT H) := fun b x e h => GW.noT_of e h
theorem NT.trans {H H1 H2 : Hp} (a : NT H H1) (b : NT H1 H2) : NT H H2 := fun c x e h => b c x (a c x e h) h
theorem nt_same {H H' : Hp} (s : Same H H') : NT H H' := fun b x e _ => s b x e
def ButT (d : Addr) (H H' : Hp) : Prop := ∀ b x, H b = some x → (∀ kvs, x ≠ .dT kvs) → b ≠ d → H' b = some x
theorem ButT.trans {d : Addr} {H H1 H2 : Hp} (a : ButT d H H1) (b : ButT d H1 H2) : ButT d H H2 := fun c x e h n => b c x (a c x e h n) h n
theorem butT_nt {d : Addr} {H H' : Hp} (s : NT H H') : ButT d H H' := fun b x e h _ => s b x e h
theorem butT_but {d : Addr} {H H' : Hp} (s : But d H H') : ButT d H H' := fun b x e _ n => s.1 b x e n
theorem OrdAt.nt {K : PySem.W.Frag} {H H' : Hp} {o : Addr} {L : LC} (h : OrdAt K H o L) (s : NT H H') : OrdAt K H' o L := ⟨h.ok, by
  obtain ⟨dx, dc, fw, h1, h2, h3⟩ := h.ex
  exact ⟨dx, dc, fw, s _ _ h1 (fun _ z => by cases z), s _ _ h2 (fun _ z => by cases z), s _ _ h3 (fun _ z => by cases z)⟩⟩
theorem PenAt.nt {H H' : Hp} {d : Addr} {k : Int} (p : PenAt H d k) (s : NT H H') : PenAt H' d k := by
  obtain ⟨c, cells, b, l, h1, h2, h⟩ := p.ex
  exact ⟨c, cells, b, l, s _ _ h1 (fun _ z => by cases z), s _ _ h2 (fun _ z => by cases z), h⟩
theorem penL_ne {c : Addr} {b l : Int} {L : LC} : HO.dK (penL c b l) ≠ HO.dK (dOf L) := fun z => by
  have z := HO.dK.inj z
  cases L with
  | nil => cases z
  | cons p L =>
    have h := (List.cons.inj z).1
    have h2 := congrArg Prod.snd h
    cases h2
theorem OrdAt.butT {K : PySem.W.Frag} {H H' : Hp} {o d : Addr} {k : Int} {L : LC} (h : OrdAt K H o L) (p : PenAt H d k) (b : ButT d H H') : OrdAt K H' o L := ⟨h.ok, by
  obtain ⟨dx, dc, fw, h1, h2, h3⟩ := h.ex
  obtain ⟨c, cells, b1, l, hd, _⟩ := p.ex
  exact ⟨dx, dc, fw, b _ _ h1 (fun _ z => by cases z) (ne_of h1 hd (by intro z; cases z)), b _ _ h2 (fun _ z => by cases z) (ne_of h2 hd (fun z => penL_ne z.symm)), b _ _ h3 (fun _ z => by cases z) (ne_of h3 hd (by intro z; cases z))⟩⟩
theorem ne_dOf {H : Hp} {a d : Addr} {k : Int} {L : LC} (ha : H a = some (.dK (dOf L))) (p : PenAt H d k) : a ≠ d := by
  obtain ⟨c, cells, b, l, hd, _⟩ := p.ex
  exact ne_of ha hd fun z => penL_ne z.symm
theorem dOf_butT {H H' : Hp} {a d : Addr} {k : Int} {L : LC} (ha : H a = some (.dK (dOf L))) (p : PenAt H d k) (b : ButT d H H') : H' a = some (.dK (dOf L)) := b _ _ ha (fun _ z => by cases z) (ne_dOf ha p)
theorem lst_butT {H H' : Hp} {a d : Addr} {k : Int} {xs : List V} (ha : H a = some (.lst xs)) (p : PenAt H d k) (b : ButT d H H') : H' a = some (.lst xs) := b _ _ ha (fun _ z => by cases z) (pen_ne p ha)
end K10

namespace K10
open PySem PySem.Spec PyProof.Rows L2 Ver Num SX
section
variable {P : Program} {w : World} {K : PySem.W.Frag} {mg : Str → Option Value} {base : Heap}
/-! ### Order.latest -/
/-- the last letter of the greatest cost -/
def Late (L : LC) (c : Nat) : Prop := ∃ p A B, L = A ++ p :: B ∧ p.1 = c ∧ (∀ q ∈ A, q.2 ≤ p.2) ∧ ∀ q ∈ B, q.2 < p.2
def getLate (K : PySem.W.Frag) : Sp := fun vs H Q _ => ∃ (o : Addr) (L : LC), vs = [.ref o] ∧ OrdAt K H o L ∧ ∀ (c : Nat) (H' : Hp), Late L c → c ∈ L.map (·.1) → Same H H' → Q (.str (S [c])) H'
theorem range_filterL {α β : Type} (xs : List α) (d : α) (k : α → Bool) (f : α → β) : ((List.range xs.length).filter fun j => k (xs.getD j d)).map (fun j => f (xs.getD j d)) = (xs.filter k).map f := by
  have e : (List.range xs.length).map (fun j => xs.getD j d) = xs := by
    refine List.ext_getElem (by rw [List.length_map, List.length_range]) fun i h1 h2 => ?_
    rw [List.getElem_map, List.getElem_range, List.getD_eq_getElem?_getD, List.getElem?_eq_getElem h2]
    rfl
  conv => rhs; rw [← e]
  rw [List.filter_map, List.map_map]
  rfl
theorem last_split {α : Type} {P : α → Prop} [DecidablePred P] : ∀ l : List α, (∃ x ∈ l, P x) → ∃ A x B, l = A ++ x :: B ∧ P x ∧ ∀ y ∈ B, ¬ P y
  | [], ⟨x, h, _⟩ => nomatch h
  | a :: l, ⟨x, hx, px⟩ => by
    by_cases h : ∃ y ∈ l, P y
    · obtain ⟨A, y, B, e, py, hB⟩ := last_split l h
      exact ⟨a :: A, y, B, by rw [e]; rfl, py, hB⟩
    · have : x = a := by
        rcases List.mem_cons.mp hx with e | e
        · exact e
        · exact absurd ⟨x, e, px⟩ h
      subst this
      exact ⟨[], x, l, rfl, px, fun y hy py => h ⟨y, hy, py⟩⟩
theorem ok_latest (T : Tx K mg) : ∃ p g fd, PropOf K (OC K) "latest" p g ∧ FnOk P w K mg base CX0 1 g fd ["self"] (getLate K) ∧ Binds K fd ["self"] [] := by
  obtain ⟨p, g, fd, hp, FD⟩ := T.lt
  have hb : Binds K fd ["self"] [] := FD.bindsN fun _ _ _ _ _ _ us hl => match us, hl with | [_], _ => rfl
  obtain ⟨⟨oc, od, dV, kV, doc, pm, an, cdv, ct, osl, rfl, lk, hcd, _⟩, _⟩ := FD
  refine ⟨p, g, _, hp, fn_of lk hcd sc_Order_latest (fun vs H Q E h => ?_) (fun A outer s H vs Q E hr h => ?_), hb⟩
  · obtain ⟨o, L, rfl, _⟩ := h
    rfl
  · obtain ⟨o, L, rfl, at_, q⟩ := h
    have nd := sc_Order_latest.nd
    have hu := hu_of hr
    refine ⟨_, PSs.nox (pss_cons (ps_set (i := 1) nd rfl (Or.inr rfl) (pe_callB (cr_max rfl) (by rfl) (T.z "max" (by decide +kernel)) (by decide +kernel) (pa_cons (pe_listVals rfl (pe_fld (pv 0) rfl) (by rfl) (T.z "list" (by decide +kernel)) (by decide +kernel)) pa_nil)))
      (pss_one (ps_ret (pe_ix ix_list (pe_lc (own := [("letter", 2)]) (g := gName 2) (te := tVar 2) (tt := tTest (tOp rEq (tDGet (tFld K (tVar 0) "_costs") (tVar 2)) (tVar 1))) rfl nd (pi_str (pe_fld (pv 0) rfl)) (blkOk_by (N := n_Order_latest) (sc := defScope s_Order_latest) (by decide +kernel)) (fun _ _ _ _ _ => pg_name (i := 2) nd rfl (Or.inl rfl))
          (fun _ _ _ _ _ => pts_one (pt_cmpR op_eq (pe_dget hu (pe_fld (pv 0) rfl) (pv 2) (fun _ _ => rfl)) (pv 1) (nomark _)))
          (fun _ _ _ _ _ => pv 2)) (pe_un un_neg pe_int) (fun _ _ => rfl))))), ?_⟩
    obtain ⟨dx, dc, fw, ho, hd, _⟩ := id at_.ex
    have ok := at_.ok
    have ndL := asc_nodup ok.asc
    have few := ok.few
    have pos := ok.pos
    refine ⟨_, rfl, o, _, dx, _, _, rfl, ho, T.o.cl, T.o.na _ (by decide +kernel), rfl, dc, _, rfl, hd, fun p1 np => ?_⟩
    have ev : (dOf L).map (·.2) = (L.map (·.2)).map V.int := by
      rw [List.map_map, List.map_map]
      rfl
    rw [ev]
    have s1 := same_up (o := .lst ((L.map (·.2)).map V.int)) np
    refine ⟨p1, L.map (·.2), rfl, SqL.of upd_same, by rw [List.length_map]; omega, fun m hm hmax => ?_⟩
    have at1 := at_.same s1
    generalize upd H p1 (.lst ((L.map (·.2)).map V.int)) = H1 at s1 at1 ⊢
    obtain ⟨dx, dc, fw, ho, hd, _⟩ := id at1.ex
    have asz : (S (L.map (·.1))).cps.size = L.length := by simp
    refine ⟨_, rfl, o, _, dx, _, _, rfl, ho, T.o.cl, T.o.na _ (by decide +kernel), rfl, S (L.map (·.1)), rfl, fun D nD => lc_some wk_str (fun i => vS [(L.map (·.1)).getD i 0]) (fun i => decide ((L.getD i (0, 0)).2 = m)) nD (by rw [asz]; omega) (fun _ _ => trivial) (fun j x H' R hj s' hx hR => ?_) (fun j x H' R hj hk s' hx hR => ?_) (fun H2 s2 hD => ?_)⟩
    · obtain ⟨c, hc, rfl⟩ := hx
      rw [← Array.getElem?_toList, chars_S, List.getElem?_map] at hc
      cases hn : L[j]? with
      | none =>
        rw [hn] at hc
        cases hc
      | some pc =>
        rw [hn] at hc
        cases hc
        have e : L.getD j (0, 0) = pc := by rw [List.getD_eq_getElem?_getD, hn]; rfl
        rw [e] at hR
        obtain ⟨dx, dc, fw, ho', hd', _⟩ := (at1.same s').ex
        have hv := DGet.k (k := Sum.inr (S [pc.1])) hd'
        rw [valV_mem ndL (List.mem_of_getElem? hn)] at hv
        refine ⟨_, rfl, o, _, dx, _, _, rfl, ho', T.o.cl, T.o.na _ (by decide +kernel), rfl, _, rfl, dc, _, rfl, hv, _, rfl, rfl, _, rfl, ?_⟩
        rw [iEq]
        exact hR
    · obtain ⟨c, hc, rfl⟩ := hx
      rw [← Array.getElem?_toList, chars_S] at hc
      have e : (L.map (·.1)).getD j 0 = c := by rw [List.getD_eq_getElem?_getD, hc]; rfl
      rw [e] at hR
      exact ⟨_, rfl, hR⟩
    · have eD : (((List.range (S (L.map (·.1))).cps.size).filter fun i => decide ((L.getD i (0, 0)).2 = m)).map fun i => vS [(L.map (·.1)).getD i 0]) = (L.filter fun q => decide (q.2 = m)).map fun q => vS [q.1] := by
        rw [asz, ← range_filterL L (0, 0) (fun q => decide (q.2 = m)) fun q => vS [q.1]]
        refine List.map_congr_left fun i hi => ?_
        rw [List.getD_eq_getElem?_getD, List.getElem?_map, List.getD_eq_getElem?_getD]
        cases L[i]? <;> rfl
      rw [eD] at hD
      obtain ⟨p, hp, e⟩ := List.mem_map.mp hm
      obtain ⟨A, x, B, eL, hx, hB⟩ := last_split (P := fun q : Nat × Int => q.2 = m) L ⟨p, hp, e⟩
      have eBf : (B.filter fun q => decide (q.2 = m)) = [] := List.filter_eq_nil_iff.mpr fun q hq => by
        rw [decide_eq_true_iff]
        exact hB q hq
      have ef : (L.filter fun q => decide (q.2 = m)) = (A.filter fun q => decide (q.2 = m)) ++ [x] := by
        rw [eL, List.filter_append, List.filter_cons, if_pos (decide_eq_true hx), eBf]
      rw [ef, List.map_append] at hD
      have hxL : x ∈ L := by rw [eL]; exact List.mem_append_right _ List.mem_cons_self
      refine ⟨_, rfl, D, _, _, _, rfl, rfl, SqL.of hD, atI_last _ _, q x.1 H2 ⟨x, A, B, eL, rfl, fun q hq => ?_, fun q hq => ?_⟩ (List.mem_map.mpr ⟨x, hxL, rfl⟩) (s1.trans s2)⟩
      · rw [hx]
        exact hmax q.2 (List.mem_map.mpr ⟨q, by rw [eL]; exact List.mem_append_left _ hq, rfl⟩)
      · have h1 := hmax q.2 (List.mem_map.mpr ⟨q, by rw [eL]; exact List.mem_append_right _ (List.mem_cons_of_mem _ hq), rfl⟩)
        have h2 := hB q hq
        rw [hx]
        omega
end
end K10

namespace K10
open PySem PySem.Spec PyProof.Rows L2 Ver Num SX
/-! ### the law's own counts -/
/-- what is read of a dict while it is walked -/
theorem lock_same {H H1 : Hp} {a : Addr} {od : Obj} {u : HO} (ha : H a = some u) (s : Same (upd H a (.frz od u)) H1) : Same H (upd H1 a u) := fun b o e => by
  by_cases hb : b = a
  · rw [hb, upd_same, ← ha, ← hb, e]
  · rw [upd_ne hb]
    refine s _ _ ?_
    rw [upd_ne hb]
    exact e
theorem getDK {H : Hp} {a : Addr} {od : Obj} {kvs : List (Key × V)} {k : Key} (h : H a = some (.frz od (.dK kvs))) : DGet H a (kV k) (valV kvs k) := .inl ⟨kvs, k, .inr ⟨od, h⟩, rfl, rfl⟩
section
variable {P : Program} {w : World} {K : PySem.W.Frag} {mg : Str → Option Value} {base : Heap}
def spCostOf (K : PySem.W.Frag) : Sp := fun vs H Q _ => ∃ (a : Addr) (L : LC) (u : List Nat), vs = [.ref a, .str (S u)] ∧ LOk L ∧ H a = some (.dK (dOf L)) ∧ (∀ c ∈ u, c ∈ L.map (·.1)) ∧ u.length ≤ 1000 ∧ ∀ H', Same H H' → Q (.int (costW L u)) H'
theorem ok_cost_of (T : Tx K mg) : FnG P w K mg base CX0 1 (He.ga K "_law_cost_of") (spCostOf K) := by
  refine mk__law_cost_of T.d (fun vs H Q E h => ?_) (fun cdv A outer s H vs Q E hg hr h => ?_)
  · obtain ⟨a, L, u, rfl, _⟩ := h
    rfl
  · obtain ⟨a, L, u, rfl, ok, ha, hu2, l9, q⟩ := h
    have nd := sc__law_cost_of.nd
    have hu := hu_of hr
    refine ⟨_, pss_one (ps_ret (pe_callB (cr_sum rfl) (by rfl) (T.z "sum" (by decide +kernel)) (by decide +kernel) (pa_cons
        (pe_lc (own := [("_law_letter", 2)]) (g := gName 2) (tt := tYes) rfl nd (pi_str (pv 1)) (blkOk_by (N := n__law_cost_of) (sc := defScope s__law_cost_of) (by decide +kernel)) (fun _ _ _ _ _ => pg_name (i := 2) nd rfl (Or.inl rfl)) (fun _ _ _ _ _ => pts_nil)
          (fun _ _ _ _ _ => pe_dget hu (pv 0) (pv 2) (fun _ _ => rfl))) pa_nil))), ?_⟩
    have asz : (S u).cps.size = u.length := by simp
    have ndL := asc_nodup ok.asc
    refine ⟨_, rfl, S u, rfl, fun D nD => lc_one wk_str (fun i => .int (costOf L (u.getD i 0))) nD (by rw [asz]; omega) (fun _ _ => trivial) (fun j x H' R hj s' hx hR => ?_) (fun H2 s2 hD => ?_)⟩
    · obtain ⟨c, hc, rfl⟩ := hx
      rw [← Array.getElem?_toList, chars_S] at hc
      have e : u.getD j 0 = c := by rw [List.getD_eq_getElem?_getD, hc]; rfl
      rw [e] at hR
      obtain ⟨pc, hpc, rfl⟩ := List.mem_map.mp (hu2 c (List.mem_of_getElem? hc))
      have hv := DGet.k (k := Sum.inr (S [pc.1])) (s' _ _ ha)
      rw [valV_mem ndL hpc] at hv
      rw [costOf_mem ndL hpc] at hR
      exact ⟨_, rfl, _, rfl, a, _, rfl, hv, hR⟩
    · have e : ((List.range (S u).cps.size).map fun i => V.int (costOf L (u.getD i 0))) = (u.map (costOf L)).map V.int := by
        rw [asz, range_map u (fun c => V.int (costOf L c)) _ fun i x hx => by rw [List.getD_eq_getElem?_getD, hx]; rfl]
        exact (List.map_map ..).symm
      rw [e] at hD
      exact ⟨D, _, rfl, SqL.of hD, q H2 s2⟩
/-! ### _law_counts -/
theorem filt_sum (cts : List Int) : ∀ st : List Int, ((st.filter fun s => decide (s ≤ (cts.length : Int))).map fun s => cts.getD ((cts.length : Int) - s).toNat 0).sum = (st.map (wayC cts)).sum
  | [] => rfl
  | s :: st => by
    have ih := filt_sum cts st
    rw [List.map_cons, List.sum_cons, List.filter_cons]
    unfold wayC at ih ⊢
    by_cases h : s ≤ (cts.length : Int)
    · rw [if_pos (decide_eq_true h), List.map_cons, List.sum_cons, ih, if_pos h]
    · rw [if_neg (by rw [decide_eq_false h]; exact Bool.false_ne_true), ih, if_neg h, Int.zero_add]
theorem range_filter {α β : Type} (xs : List α) (d : α) (k : α → Bool) (f : α → β) : ((List.range xs.length).filter fun j => k (xs.getD j d)).map (fun j => f (xs.getD j d)) = (xs.filter k).map f := by
  have e : (List.range xs.length).map (fun j => xs.getD j d) = xs := by
    refine List.ext_getElem (by rw [List.length_map, List.length_range]) fun i h1 h2 => ?_
    rw [List.getElem_map, List.getElem_range, List.getD_eq_getElem?_getD, List.getElem?_eq_getElem h2]
    rfl
  conv => rhs; rw [← e]
  rw [List.filter_map, List.map_map]
  rfl
def spLCounts (K : PySem.W.Frag) : Sp := fun vs H Q _ => ∃ (a : Addr) (L : LC) (m : Nat), vs = [.ref a, .int m] ∧ LOk L ∧ H a = some (.dK (dOf L)) ∧ m ≤ 2000 ∧ ∀ (p : Addr) (H' : Hp), Same H H' → H' p = some (.lst ((cntL (L.map (·.2)) (m + 1)).map V.int)) → H p = none → Q (.ref p) H'
end
end K10

namespace Ver
open PySem PySem.Spec PyProof.Rows L2
/-- a dict beside {} -/
theorem op_eq_dict0 {X : Cx} (hu : X.A.units < cLine) : OpR X (compareOp .Eq) (fun x y H Q => ∃ a b kvs, x = .ref a ∧ y = .ref b ∧ H a = some (.dK kvs) ∧ H b = some (.dK []) ∧ Q (.bl kvs.isEmpty) H) := by
  intro pins s σ H x y v u Q I rx ry h
  obtain ⟨a, b, kvs, rfl, rfl, ea, eb, q⟩ := h
  obtain rfl : v = Value.ref a := rx
  obtain rfl : u = Value.ref b := ry
  obtain ⟨_, ya, va, ra, da⟩ := (show ObjOk X.prog X.w H s.heap a (.dK kvs) from I.hok a _ ea)
  obtain ⟨_, yb, vb, rb, db⟩ := (show ObjOk X.prog X.w H s.heap b (.dK []) from I.hok b _ eb)
  have hb0 : vb = [] := by cases rb; rfl
  subst hb0
  have la := ra.length
  refine PySem.W.keq_eq (knd := mixKind X.prog X.w) (r := true) ya yb da db hu (fun e => ?_) (fin_bl I q ?_)
  · have : va = [] := by
      cases va with
      | nil => rfl
      | cons z zs => simp at e
    subst this
    have hk : kvs = [] := by
      cases kvs with
      | nil => rfl
      | cons z zs => simp at la
    subst hk
    exact hits_all rb ra fun p hp => nomatch hp
  · cases kvs with
    | nil =>
      cases va with
      | nil => rfl
      | cons z zs => simp at la
    | cons k ks =>
      cases va with
      | nil => simp at la
      | cons z zs => rfl
end Ver
namespace K10
open PySem PySem.Spec PyProof.Rows L2 Ver Num SX
/-! ### words by their costs -/
def wsAt (ws : List (List Wd)) (k : Int) : List Wd := if 0 ≤ k then ws.getD k.toNat [] else []
abbrev lay1 (ws : List (List Wd)) (p : Nat × Int) : List Wd := (wsAt ws ((ws.length : Int) - p.2)).map (p.1 :: ·)
def layer (L : LC) (ws : List (List Wd)) : List Wd := (if ws = [] then [[]] else []) ++ L.flatMap (lay1 ws)
structure GoodW (L : LC) (c0 : Nat) (ws : List (List Wd)) : Prop where
  words : ∀ c, c < ws.length → ∀ u ∈ ws.getD c [], costW L u = (c : Int) ∧ ∀ x ∈ u, x ∈ L.map (·.1)
  count : (ws.map fun l => (l.length : Int)) = cntL (L.map (·.2)) ws.length
  more : ∀ c, c < ws.length → c % c0 = 0 → ws.getD c [] ≠ []
  long : (ws.length + c0 - 1) / c0 ≤ ws.flatten.length
  rank : ∀ c, c < ws.length → ∀ (i : Nat) (u : Wd), (ws.getD c [])[i]? = some u → rk L (c : Int) u = (i : Int)
  srt : ∀ c, c < ws.length → (ws.getD c []).Pairwise (· < ·)
theorem step_ceil {c0 i n m : Nat} (h1 : 1 ≤ c0) (h9 : c0 ≤ 9) (h : (i + c0 - 1) / c0 ≤ n) (hm : n ≤ m) (hz : i % c0 = 0 → n + 1 ≤ m) : (i + 1 + c0 - 1) / c0 ≤ m := by
  rcases (show c0 = 1 ∨ c0 = 2 ∨ c0 = 3 ∨ c0 = 4 ∨ c0 = 5 ∨ c0 = 6 ∨ c0 = 7 ∨ c0 = 8 ∨ c0 = 9 by omega) with rfl | rfl | rfl | rfl | rfl | rfl | rfl | rfl | rfl <;> omega
theorem ceil_lt {c0 i n : Nat} (h1 : 1 ≤ c0) (h9 : c0 ≤ 9) (h : (i + c0 - 1) / c0 ≤ n) (hn : n < 60) : i < 540 := by
  rcases (show c0 = 1 ∨ c0 = 2 ∨ c0 = 3 ∨ c0 = 4 ∨ c0 = 5 ∨ c0 = 6 ∨ c0 = 7 ∨ c0 = 8 ∨ c0 = 9 by omega) with rfl | rfl | rfl | rfl | rfl | rfl | rfl | rfl | rfl <;> omega
theorem wsAt_mem {ws : List (List Wd)} {k : Int} {u : Wd} (h : u ∈ wsAt ws k) : ∃ c : Nat, k = (c : Int) ∧ c < ws.length ∧ u ∈ ws.getD c [] := by
  unfold wsAt at h
  by_cases hk : 0 ≤ k
  · rw [if_pos hk] at h
    refine ⟨k.toNat, by omega, ?_, h⟩
    rcases Nat.lt_or_ge k.toNat ws.length with hl | hl
    · exact hl
    · rw [List.getD_eq_getElem?_getD, List.getElem?_eq_none hl] at h
      cases h
  · rw [if_neg hk] at h
    cases h
theorem wsAt_len {ws : List (List Wd)} : ∀ k : Int, (wsAt ws k).length ≤ ws.flatten.length := fun k => by
  unfold wsAt
  by_cases hk : 0 ≤ k
  · rw [if_pos hk]
    rcases Nat.lt_or_ge k.toNat ws.length with hl | hl
    · rw [List.getD_eq_getElem?_getD, List.getElem?_eq_getElem hl]
      exact (List.sublist_flatten_of_mem (List.getElem_mem hl)).length_le
    · rw [List.getD_eq_getElem?_getD, List.getElem?_eq_none hl]
      exact Nat.zero_le _
  · rw [if_neg hk]
    exact Nat.zero_le _
theorem flat_lay (ws : List (List Wd)) : ∀ L : LC, (L.flatMap (lay1 ws)).length ≤ L.length * ws.flatten.length
  | [] => Nat.zero_le _
  | p :: L => by
    have ih := flat_lay ws L
    have h1 := wsAt_len (ws := ws) ((ws.length : Int) - p.2)
    rw [List.flatMap_cons, List.length_append, List.length_map, List.length_cons, Nat.succ_mul]
    omega
theorem layer_len (L : LC) (ws : List (List Wd)) : ((if ws = [] then [[]] else [] : List Wd) ++ L.flatMap (lay1 ws)).length ≤ 1 + L.length * ws.flatten.length := by
  have := flat_lay ws L
  rw [List.length_append]
  split
  · rw [List.length_singleton]; omega
  · rw [List.length_nil]; omega
theorem lay_sum (ws : List (List Wd)) : ∀ L : LC, (∀ p ∈ L, 1 ≤ p.2) → ((L.flatMap (lay1 ws)).length : Int) = ((L.map (·.2)).map (wayC (ws.map fun l => (l.length : Int)))).sum
  | [], _ => rfl
  | p :: L, h => by
    have ih := lay_sum ws L fun q hq => h q (List.mem_cons_of_mem _ hq)
    have h1 := h p List.mem_cons_self
    rw [List.flatMap_cons, List.length_append, List.length_map, List.map_cons, List.map_cons, List.sum_cons, ← ih]
    have e : ((wsAt ws ((ws.length : Int) - p.2)).length : Int) = wayC (ws.map fun l => (l.length : Int)) p.2 := by
      unfold wsAt wayC
      rw [List.length_map]
      by_cases hk : p.2 ≤ (ws.length : Int)
      · rw [if_pos (by omega), if_pos hk, List.getD_eq_getElem?_getD, List.getD_eq_getElem?_getD, List.getElem?_map]
        have hl : ((ws.length : Int) - p.2).toNat < ws.length := by omega
        rw [List.getElem?_eq_getElem hl]
        rfl
      · rw [if_neg (by omega), if_neg hk]
        rfl
    rw [← e]
    exact Int.natCast_add ..
theorem flat_get {α β : Type} {f : α → List β} : ∀ (l : List α) (i : Nat) (x : β), (l.flatMap f)[i]? = some x → ∃ A p B j, l = A ++ p :: B ∧ i = (A.flatMap f).length + j ∧ (f p)[j]? = some x
  | [], i, x, h => by simp at h
  | a :: l, i, x, h => by
    rw [List.flatMap_cons] at h
    rcases Nat.lt_or_ge i (f a).length with hl | hl
    · rw [List.getElem?_append_left hl] at h
      exact ⟨[], a, l, i, rfl, by simp, h⟩
    · rw [List.getElem?_append_right hl] at h
      obtain ⟨A, p, B, j, e, ei, hj⟩ := flat_get l _ x h
      refine ⟨a :: A, p, B, j, by rw [e]; rfl, ?_, hj⟩
      rw [List.flatMap_cons, List.length_append]
      omega
theorem filt_partW {L A B : LC} {p : Nat × Int} (ok : LOk L) (e : L = A ++ p :: B) : (L.filter fun q => decide (q.1 < p.1)) = A := by
  have asc := ok.asc
  rw [e, List.map_append, List.map_cons, List.pairwise_append] at asc
  obtain ⟨_, h2, h3⟩ := asc
  have hB := (List.pairwise_cons.mp h2).1
  have lowA : ∀ q ∈ A, q.1 < p.1 := fun q hq => h3 q.1 (List.mem_map.mpr ⟨q, hq, rfl⟩) p.1 List.mem_cons_self
  rw [e, List.filter_append, List.filter_cons, if_neg (by simp), List.filter_eq_self.mpr fun q hq => decide_eq_true (lowA q hq), List.filter_eq_nil_iff.mpr fun q hq => ?_, List.append_nil]
  have := hB q.1 (List.mem_map.mpr ⟨q, hq, rfl⟩)
  rw [decide_eq_true_iff]
  omega
theorem len_at {L : LC} {c0 : Nat} {ws : List (List Wd)} (g : GoodW L c0 ws) {c : Nat} (hc : c < ws.length) : ((ws.getD c []).length : Int) = cN L c := by
  unfold cN
  rw [← cntL_get hc, ← g.count, List.getD_eq_getElem?_getD, List.getD_eq_getElem?_getD, List.getElem?_map, List.getElem?_eq_getElem hc]
  rfl
theorem lay_len {L : LC} {c0 : Nat} {ws : List (List Wd)} (ok : LOk L) (g : GoodW L c0 ws) {q : Nat × Int} (hq : q ∈ L) : ((lay1 ws q).length : Int) = wN L ((ws.length : Int) - q.2) := by
  have h1 := (ok.cost q hq).1
  unfold wN
  rw [List.length_map]
  unfold wsAt
  by_cases hk : 0 ≤ (ws.length : Int) - q.2
  · rw [if_pos hk, if_pos hk]
    exact len_at g (by omega)
  · rw [if_neg hk, if_neg hk]
    rfl
theorem lay_lens {L : LC} {c0 : Nat} {ws : List (List Wd)} (ok : LOk L) (g : GoodW L c0 ws) : ∀ A : LC, (∀ q ∈ A, q ∈ L) → (A.map fun q => wN L ((ws.length : Int) - q.2)).sum = ((A.flatMap (lay1 ws)).length : Int)
  | [], _ => rfl
  | q :: A, h => by
    have ih := lay_lens ok g A fun x hx => h x (List.mem_cons_of_mem _ hx)
    rw [List.map_cons, List.sum_cons, ih, ← lay_len ok g (h q List.mem_cons_self), List.flatMap_cons, List.length_append, Int.natCast_add]
theorem lay_rank {L : LC} {c0 : Nat} {ws : List (List Wd)} (ok : LOk L) (g : GoodW L c0 ws) (i : Nat) (u : Wd) (h : (layer L ws)[i]? = some u) : rk L (ws.length : Int) u = (i : Int) := by
  unfold layer at h
  by_cases hw : ws = []
  · subst hw
    have : L.flatMap (lay1 []) = [] := List.flatMap_eq_nil_iff.mpr fun p hp => by
      show List.map _ (wsAt [] _) = []
      have : wsAt [] (((([] : List (List Wd)).length : Nat) : Int) - p.2) = [] := by
        unfold wsAt
        split <;> rfl
      rw [this]
      rfl
    rw [if_pos rfl, this, List.append_nil] at h
    cases i with
    | zero =>
      cases h
      rfl
    | succ i => simp at h
  · rw [if_neg hw, List.nil_append] at h
    obtain ⟨A, p, B, j, eL, ei, hj⟩ := flat_get L i u h
    have hp : p ∈ L := by rw [eL]; exact List.mem_append_right _ List.mem_cons_self
    rw [List.getElem?_map] at hj
    cases hm : (wsAt ws ((ws.length : Int) - p.2))[j]? with
    | none =>
      rw [hm] at hj
      cases hj
    | some v =>
      rw [hm] at hj
      cases hj
      obtain ⟨c, ec, hc, _⟩ := wsAt_mem (List.mem_of_getElem? hm)
      unfold wsAt at hm
      rw [ec, if_pos (by omega), Int.toNat_natCast] at hm
      have hr := g.rank c hc j v hm
      have hl := lay_lens ok g A fun q hq => by rw [eL]; exact List.mem_append_left _ hq
      show lowS L _ p.1 + rk L (_ - costOf L p.1) v = _
      unfold lowS
      rw [filt_partW ok eL, hl, costOf_mem (asc_nodup ok.asc) hp, ec, hr, ei]
      omega
theorem lay_srt {L : LC} {c0 : Nat} {ws : List (List Wd)} (ok : LOk L) (g : GoodW L c0 ws) : (layer L ws).Pairwise (· < ·) := by
  unfold layer
  by_cases hw : ws = []
  · subst hw
    have : L.flatMap (lay1 []) = [] := List.flatMap_eq_nil_iff.mpr fun p hp => by
      show List.map _ (wsAt [] _) = []
      have : wsAt [] (((([] : List (List Wd)).length : Nat) : Int) - p.2) = [] := by
        unfold wsAt
        split <;> rfl
      rw [this]
      rfl
    rw [if_pos rfl, this, List.append_nil]
    exact List.pairwise_singleton _ _
  · rw [if_neg hw, List.nil_append, List.pairwise_flatMap]
    refine ⟨fun p hp => ?_, ?_⟩
    · rw [List.pairwise_map]
      have hs : (wsAt ws ((ws.length : Int) - p.2)).Pairwise (· < ·) := by
        unfold wsAt
        by_cases hk : 0 ≤ (ws.length : Int) - p.2
        · rw [if_pos hk]
          have := (ok.cost p hp).1
          exact g.srt _ (by omega)
        · rw [if_neg hk]
          exact List.Pairwise.nil
      exact hs.imp fun h => List.cons_lt_cons_iff.mpr (.inr ⟨rfl, h⟩)
    · have asc := ok.asc
      rw [List.pairwise_map] at asc
      refine asc.imp fun {p q} h x hx y hy => ?_
      obtain ⟨v, _, rfl⟩ := List.mem_map.mp hx
      obtain ⟨w, _, rfl⟩ := List.mem_map.mp hy
      exact List.cons_lt_cons_iff.mpr (.inl h)
theorem le_risingW : ∀ (ds : List Wd) (p : Wd), risingS (S p) (ds.map S) = true → (p :: ds).Pairwise (· ≤ ·)
  | [], p, _ => List.pairwise_singleton _ _
  | d :: ds, p, h => by
    have h : (!ltCps (S d).cps.toList (S p).cps.toList && risingS (S d) (ds.map S)) = true := h
    rw [Bool.and_eq_true, chars_S, chars_S, ltCps_eq] at h
    have ih := le_risingW ds d h.2
    have e : p ≤ d := by
      have h1 := h.1
      rw [Bool.not_eq_true', decide_eq_false_iff_not] at h1
      exact h1
    refine List.pairwise_cons.mpr ⟨fun x hx => ?_, ih⟩
    rcases List.mem_cons.mp hx with rfl | hx
    · exact e
    · exact List.le_trans e ((List.pairwise_cons.mp ih).1 x hx)
theorem le_sortedW {ds : List Wd} (h : sortedS (ds.map S) = true) : ds.Pairwise (· ≤ ·) := by
  cases ds with
  | nil => exact List.Pairwise.nil
  | cons d ds => exact le_risingW ds d h
/-- words in order are the layer itself -/
theorem lay_eq {L : LC} {c0 : Nat} {ws : List (List Wd)} {us : List Wd} (ok : LOk L) (g : GoodW L c0 ws) (pm : us.Perm (layer L ws)) (h : sortedS (us.map S) = true) : us = layer L ws :=
  List.Perm.eq_of_pairwise (fun a b _ _ h1 h2 => List.le_antisymm h1 h2) (le_sortedW h) ((lay_srt ok g).imp fun h => List.le_of_lt h) pm
theorem layer_good {L : LC} {c0 : Nat} {ws : List (List Wd)} {ys : List Wd} (ok : LOk L) (hc : ∃ p ∈ L, p.2 = (c0 : Int)) (g : GoodW L c0 ws) (eys : ys = layer L ws) : GoodW L c0 (ws ++ [ys]) := by
  have pm : ys.Perm (layer L ws) := by rw [eys]
  obtain ⟨p0, hp0, e0⟩ := hc
  have r0 := ok.cost p0 hp0
  have ndL := asc_nodup ok.asc
  have getL : ∀ c, c < ws.length → (ws ++ [ys]).getD c [] = ws.getD c [] := fun c h => by rw [List.getD_eq_getElem?_getD, List.getElem?_append_left h, List.getD_eq_getElem?_getD]
  have getE : (ws ++ [ys]).getD ws.length [] = ys := by rw [List.getD_eq_getElem?_getD, List.getElem?_append_right (Nat.le_refl _), Nat.sub_self]; rfl
  have ll : (ws ++ [ys]).length = ws.length + 1 := by rw [List.length_append]; rfl
  have ne : ws.length % c0 = 0 → ys ≠ [] := fun hm z => by
    subst z
    have hl : layer L ws = [] := pm.symm.eq_nil
    unfold layer at hl
    by_cases hw : ws = []
    · rw [if_pos hw] at hl
      cases hl
    · rw [if_neg hw, List.nil_append, List.flatMap_eq_nil_iff] at hl
      have h1 := hl p0 hp0
      have h2 : wsAt ws ((ws.length : Int) - p0.2) = [] := List.map_eq_nil_iff.mp h1
      have wl : 0 < ws.length := List.length_pos_iff.mpr hw
      have hle : c0 ≤ ws.length := by
        rcases Nat.lt_or_ge ws.length c0 with h | h
        · rw [Nat.mod_eq_of_lt h] at hm
          omega
        · exact h
      unfold wsAt at h2
      rw [if_pos (by omega)] at h2
      refine g.more (ws.length - c0) (by omega) ?_ ?_
      · rw [← Nat.mod_eq_sub_mod hle]
        exact hm
      · have : ((ws.length : Int) - p0.2).toNat = ws.length - c0 := by omega
        rw [← this]
        exact h2
  refine ⟨fun c hcl u hu => ?_, ?_, fun c hcl hm => ?_, ?_, fun c hcl i u hu => ?_, fun c hcl => ?_⟩
  · rw [ll] at hcl
    by_cases hlt : c < ws.length
    · rw [getL c hlt] at hu
      exact g.words c hlt u hu
    · have e : c = ws.length := by omega
      subst e
      rw [getE] at hu
      have hu := pm.mem_iff.mp hu
      unfold layer at hu
      rcases List.mem_append.mp hu with h | h
      · by_cases hw : ws = []
        · rw [if_pos hw] at h
          obtain rfl : u = [] := by simpa using h
          subst hw
          exact ⟨rfl, fun x hx => nomatch hx⟩
        · rw [if_neg hw] at h
          cases h
      · obtain ⟨p, hp, h⟩ := List.mem_flatMap.mp h
        obtain ⟨v, hv, rfl⟩ := List.mem_map.mp h
        obtain ⟨c, e, hc, hv⟩ := wsAt_mem hv
        obtain ⟨w1, w2⟩ := g.words c hc v hv
        refine ⟨?_, fun x hx => ?_⟩
        · rw [costW_cons, w1, costOf_mem ndL hp]
          omega
        · rcases List.mem_cons.mp hx with rfl | hx
          · exact List.mem_map.mpr ⟨p, hp, rfl⟩
          · exact w2 x hx
  · rw [List.map_append, ll]
    show _ = cntL _ ws.length ++ [nextC (L.map (·.2)) (cntL (L.map (·.2)) ws.length)]
    rw [← g.count]
    refine congrArg (_ ++ ·) ?_
    show [(ys.length : Int)] = _
    refine congrArg (fun x : Int => [x]) ?_
    rw [pm.length_eq]
    unfold layer nextC
    by_cases hw : ws = []
    · subst hw
      rw [if_pos rfl, List.map_nil, if_pos rfl]
      have : L.flatMap (lay1 []) = [] := List.flatMap_eq_nil_iff.mpr fun p hp => by
        show List.map _ (wsAt [] _) = []
        have : wsAt [] (((([] : List (List Wd)).length : Nat) : Int) - p.2) = [] := by
          unfold wsAt
          split <;> rfl
        rw [this]
        rfl
      rw [this]
      rfl
    · rw [if_neg hw, if_neg (fun z => hw (List.map_eq_nil_iff.mp z)), List.nil_append]
      exact lay_sum ws L fun p hp => (ok.cost p hp).1
  · rw [ll] at hcl
    by_cases hlt : c < ws.length
    · rw [getL c hlt]
      exact g.more c hlt hm
    · have e : c = ws.length := by omega
      subst e
      rw [getE]
      exact ne hm
  · rw [ll, List.flatten_append, List.length_append]
    have fe : ([ys] : List (List Wd)).flatten = ys := by simp
    rw [fe]
    refine step_ceil (by omega) (by omega) g.long (Nat.le_add_right _ _) fun hm => ?_
    have := List.length_pos_iff.mpr (ne hm)
    omega
  · rw [ll] at hcl
    by_cases hlt : c < ws.length
    · rw [getL c hlt] at hu
      exact g.rank c hlt i u hu
    · have e : c = ws.length := by omega
      subst e
      rw [getE, eys] at hu
      exact lay_rank ok g i u hu
  · rw [ll] at hcl
    by_cases hlt : c < ws.length
    · rw [getL c hlt]
      exact g.srt c hlt
    · have e : c = ws.length := by omega
      subst e
      rw [getE, eys]
      exact lay_srt ok g
theorem good_nil {L : LC} {c0 : Nat} (h1 : 1 ≤ c0) : GoodW L c0 [] := ⟨fun c h => absurd h (Nat.not_lt_zero _), rfl, fun c h => absurd h (Nat.not_lt_zero _), by
  show (0 + c0 - 1) / c0 ≤ 0
  rw [Nat.div_eq_of_lt (by omega)]
  exact Nat.le_refl _, fun c h => absurd h (Nat.not_lt_zero _), fun c h => absurd h (Nat.not_lt_zero _)⟩
/-! ### the first words, each at its number -/
structure FirstOk (L : LC) (F : List Wd) : Prop where
  len : F.length = 60
  over : ∀ u ∈ F, ∀ x ∈ u, x ∈ L.map (·.1)
  at_ : ∀ (k : Nat) (u : Wd), F[k]? = some u → plc L u = (k : Int)
theorem sum_lens : ∀ A : List (List Wd), (A.map fun l => (l.length : Int)).sum = (A.flatten.length : Int)
  | [] => rfl
  | a :: A => by
    rw [List.map_cons, List.sum_cons, sum_lens A, List.flatten_cons, List.length_append, Int.natCast_add]
theorem first_ok {L : LC} {c0 : Nat} {ws : List (List Wd)} (ok : LOk L) (g : GoodW L c0 ws) (h60 : 60 ≤ ws.flatten.length) : FirstOk L (ws.flatten.take 60) := by
  have at_ : ∀ (k : Nat) (u : Wd), ws.flatten[k]? = some u → (∀ x ∈ u, x ∈ L.map (·.1)) ∧ plc L u = (k : Int) := fun k u h => by
    have h2 : (ws.flatMap id)[k]? = some u := by
      rw [List.flatMap_id]
      exact h
    obtain ⟨A, l, B, j, e, ek, hj⟩ := flat_get ws k u h2
    rw [List.flatMap_id] at ek
    have hj : l[j]? = some u := hj
    have hc : A.length < ws.length := by
      rw [e, List.length_append, List.length_cons]
      omega
    have eg : ws.getD A.length [] = l := by
      rw [List.getD_eq_getElem?_getD, e, List.getElem?_append_right (Nat.le_refl _), Nat.sub_self]
      rfl
    obtain ⟨w1, w2⟩ := g.words A.length hc u (by rw [eg]; exact List.mem_of_getElem? hj)
    have hr := g.rank A.length hc j u (by rw [eg]; exact hj)
    have ht : toN L A.length = (A.flatten.length : Int) := by
      unfold toN
      rw [← cntL_take (n := ws.length) (by omega), ← g.count, ← sum_lens, ← List.map_take]
      have : ws.take A.length = A := by rw [e, List.take_left]
      rw [this]
    refine ⟨w2, ?_⟩
    unfold plc
    rw [w1, Int.toNat_natCast, ht, hr, ek]
    omega
  refine ⟨by rw [List.length_take]; omega, fun u hu => ?_, fun k u hk => ?_⟩
  · obtain ⟨k, hk⟩ := List.mem_iff_getElem?.mp (List.mem_of_mem_take hu)
    exact (at_ k u hk).1
  · have hl : k < (ws.flatten.take 60).length := by
      rcases Nat.lt_or_ge k (ws.flatten.take 60).length with h | h
      · exact h
      · rw [List.getElem?_eq_none h] at hk
        cases hk
    rw [List.length_take] at hl
    rw [List.getElem?_take_of_lt (by omega)] at hk
    exact (at_ k u hk).2
end K10

namespace K10
open PySem PySem.Spec PyProof.Rows L2 Ver Num SX
/-! ### a dict of rows by cost -/
def dicF : Nat → List Addr → List (Key × V)
  | _, [] => []
  | n, a :: as => (Sum.inl (n : Int), V.ref a) :: dicF (n + 1) as
theorem dicF_len : ∀ (as : List Addr) (n : Nat), (dicF n as).length = as.length
  | [], _ => rfl
  | a :: as, n => by
    show (dicF (n + 1) as).length + 1 = _
    rw [dicF_len as (n + 1)]
    rfl
theorem dicF_snoc (s : Addr) : ∀ (as : List Addr) (n : Nat), dicF n (as ++ [s]) = dicF n as ++ [(Sum.inl ((n + as.length : Nat) : Int), V.ref s)]
  | [], n => rfl
  | a :: as, n => by
    show (Sum.inl (n : Int), V.ref a) :: dicF (n + 1) (as ++ [s]) = _ :: (dicF (n + 1) as ++ _)
    rw [dicF_snoc s as (n + 1)]
    have : n + 1 + as.length = n + (a :: as).length := by rw [List.length_cons]; omega
    rw [this]
theorem valF_low : ∀ (as : List Addr) (n : Nat) (i : Int), i < n → valV (dicF n as) (.inl i) = none
  | [], _, _, _ => rfl
  | a :: as, n, i, h => by
    refine (valV_neg (p := (Sum.inl (n : Int), V.ref a)) fun e => ?_).trans (valF_low as (n + 1) i (by omega))
    have := Sum.inl.inj e
    omega
theorem valF : ∀ (as : List Addr) (n k : Nat), valV (dicF n as) (.inl ((n + k : Nat) : Int)) = as[k]?.map V.ref
  | [], _, _ => rfl
  | a :: as, n, 0 => valV_pos rfl
  | a :: as, n, k + 1 => by
    refine (valV_neg (p := (Sum.inl (n : Int), V.ref a)) fun e => ?_).trans ?_
    · have := Sum.inl.inj e
      omega
    · have := valF as (n + 1) k
      rw [show n + 1 + k = n + (k + 1) by omega] at this
      rw [this]
      rfl
/-- the rows' lists -/
def rowOf (as : List Addr) (ws : List (List Wd)) (H : Hp) : Prop := ∀ c s, as[c]? = some s → H s = some (.lst ((ws.getD c []).map vS))
structure WInv (L : LC) (c0 : Nat) (H : Hp) (a d f : Addr) (ws : List (List Wd)) (as : List Addr) (σ : L2.St) (H' : Hp) : Prop where
  la : as.length = ws.length
  good : GoodW L c0 ws
  few : ws.length ≤ 600
  same : Same H H'
  hd : H' d = some (.dK (dicF 0 as))
  hf : H' f = some (.lst (ws.flatten.map vS))
  rows : rowOf as ws H'
  ne : ∀ s ∈ as, s ≠ f
  st : ∃ v4 v5 v6 : Option V, σ = [some (.ref a), some (.int 60), some (.ref d), some (.ref f), v4, v5, v6, none]
/-- the row asked for, or the new list g -/
theorem row_get {H : Hp} {d g : Addr} {as : List Addr} {ws : List (List Wd)} (la : as.length = ws.length) (hd : H d = some (.dK (dicF 0 as))) (hr : rowOf as ws H) (hg : H g = some (.lst [])) (s : Int) (h1 : 1 ≤ s) :
    ∃ o l, DGet H d (.int ((ws.length : Int) - s)) o ∧ o.getD (.ref g) = .ref l ∧ H l = some (.lst ((wsAt ws ((ws.length : Int) - s)).map vS)) := by
  by_cases hk : s ≤ (ws.length : Int)
  · obtain ⟨k, hk2⟩ : ∃ k : Nat, (ws.length : Int) - s = (k : Int) := ⟨((ws.length : Int) - s).toNat, by omega⟩
    have kl : k < as.length := by omega
    refine ⟨some (.ref as[k]), as[k], ?_, rfl, ?_⟩
    · have g := DGet.k (k := Sum.inl ((0 + k : Nat) : Int)) hd
      rw [valF as 0 k, List.getElem?_eq_getElem kl, Nat.zero_add] at g
      rw [hk2]
      exact g
    · rw [hk2]
      unfold wsAt
      rw [if_pos (by omega), Int.toNat_natCast]
      exact hr k _ (List.getElem?_eq_getElem kl)
  · refine ⟨none, g, ?_, rfl, ?_⟩
    · have gg := DGet.k (k := Sum.inl ((ws.length : Int) - s)) hd
      rw [valF_low as 0 _ (by omega)] at gg
      exact gg
    · unfold wsAt
      rw [if_neg (by omega)]
      exact hg
section
variable {P : Program} {w : World} {K : PySem.W.Frag} {mg : Str → Option Value} {base : Heap}
def spFirsts (K : PySem.W.Frag) : Sp := fun vs H Q _ => ∃ (a : Addr) (L : LC), vs = [.ref a, .int 60] ∧ LOk L ∧ H a = some (.dK (dOf L)) ∧ ∀ (p : Addr) (F : List Wd) (H' : Hp), Same H H' → H' p = some (.lst (F.map vS)) → FirstOk L F → Q (.ref p) H'
theorem ok_firsts (T : Tx K mg) : FnG P w K mg base CX0 1 (He.ga K "_law_first_words") (spFirsts K) := by
  refine mk__law_first_words T.d (fun vs H Q E h => ?_) (fun cdv A outer s H vs Q E hg hr h => ?_)
  · obtain ⟨a, L, rfl, _⟩ := h
    rfl
  · obtain ⟨a, L, rfl, ok, ha, q⟩ := h
    have nd := sc__law_first_words.nd
    have hu := hu_of hr
    have zl := T.z "len" (by decide +kernel)
    have bl : bootBuiltins "len" = some (.builtin "len") := by decide +kernel
    refine ⟨_, pss_cons (ps_par (i := 2) (j := 3) rfl nd rfl rfl (by decide) rfl rfl (pa_cons pe_dnewK (pa_cons (pe_lst pa_nil) pa_nil)) rfl)
      (pss_cons (ps_while PassesOwn.never (pt_cmpR op_lt (pe_callB call_len_seq (by rfl) zl bl (pa_cons (pv 3) pa_nil)) (pv 1) (nomark _))
        (pss_cons (ps_par (i := 4) (j := 5) rfl nd rfl rfl (by decide) rfl rfl (pa_cons (pe_callB call_lenD (by rfl) zl bl (pa_cons (pv 2) pa_nil)) (pa_cons (pe_op op_rep (pe_lst (pa_cons pe_str pa_nil)) (pe_callTy call_int1 (by rfl) (T.z "int" (by decide +kernel)) (by decide +kernel) (pa_cons (pe_cmpR (op_eq_dict0 (Nat.lt_of_le_of_lt (Nat.le_add_right _ 1) hu)) (pv 2) pe_dnewK (nomark _)) pa_nil))) pa_nil)) rfl)
        (pss_cons (ps_lock (ps_for PassesOwn.never rfl (pi_keys (pv 0)) (pg_name (i := 6) nd rfl (.inr rfl))
          (pss_one (ps_expr (pe_bm PySem.F.plainAttrs_list PySem.F.slot_list_extend PySem.F.type_list_extend mt_extend (pv 5) (pa_cons
            (pe_lc (own := [("_law_word", 7)]) (g := gName 7) (tt := tYes) rfl nd (pi_list (pe_dget2 hu (pv 2) (pe_op op_sub (pv 4) (pe_dget hu (pv 0) (pv 6) (fun _ _ => rfl))) (pe_lst pa_nil) ⟨rfl, rfl, rfl, rfl⟩)) (blkOk_by (N := n__law_first_words) (sc := defScope s__law_first_words) (by decide +kernel)) (fun _ _ _ _ _ => pg_name (i := 7) nd rfl (Or.inl rfl)) (fun _ _ _ _ _ => pts_nil)
              (fun _ _ _ _ _ => pe_op op_add_str (pv 6) (pv 7))) pa_nil))))))
        (pss_cons (ps_dput hu (pv 2) (pv 4) (pe_callB cr_sortedSA (by rfl) (T.z "sorted" (by decide +kernel)) (by decide +kernel) (pa_cons (pv 5) pa_nil)) rfl)
        (pss_one (ps_expr (pe_bm PySem.F.plainAttrs_list PySem.F.slot_list_extend PySem.F.type_list_extend mt_extend (pv 3) (pa_cons (pe_dget hu (pv 2) (pv 4) (fun _ _ => rfl)) pa_nil))))))))
      (pss_one (ps_ret (pe_slice sl_list (pv 3) po_none (po_some (pv 1)))))), ?_⟩
    have ndL := asc_nodup ok.asc
    have l4 := ok.few
    obtain ⟨p0, hp0⟩ : ∃ p, p ∈ L := by
      have := ok.pos
      cases L with
      | nil => simp at this
      | cons p L => exact ⟨p, List.mem_cons_self⟩
    have r0 := ok.cost p0 hp0
    obtain ⟨c0, hc0⟩ : ∃ c0 : Nat, p0.2 = (c0 : Int) := ⟨p0.2.toNat, by omega⟩
    have c1 : 1 ≤ c0 := by omega
    have c9 : c0 ≤ 9 := by omega
    refine fun d nd0 => ⟨by show 0 ≤ sizeLine; decide, fun f nf => ⟨_, _, rfl, ?_⟩⟩
    have da : d ≠ a := (ne_of_none ha nd0).symm
    have s1 := same_up (o := .dK []) nd0
    have s2 := same_up (o := .lst []) nf
    have df : d ≠ f := ne_of_none upd_same nf
    have nf0 : H f = none := by
      rw [upd_ne (Ne.symm df)] at nf
      exact nf
    refine ⟨fun n σ H' => ∃ ws as, n = 600 - ws.length ∧ WInv L c0 H a d f ws as σ H', ⟨600, [], [], rfl, rfl, good_nil c1, by decide, s1.trans s2, s2 _ _ upd_same, upd_same, fun c s h => by simp at h, fun s h => by simp at h, none, none, none, rfl⟩, ?_⟩
    rintro n σ H' ⟨ws, as, rfl, la, good, few, sm, hd, hf, rows, ne, v4, v5, v6, rfl⟩
    refine ⟨_, rfl, f, _, rfl, .inl (SqL.of hf), _, rfl, _, _, rfl, rfl, _, rfl, ?_⟩
    rw [List.length_map]
    by_cases hlt : (ws.flatten.length : Int) < 60
    · refine ifT (decide_eq_true hlt) ?_
      have wl := ceil_lt c1 c9 good.long (by omega)
      have hlay := layer_len L ws
      refine ⟨fun σ' H'' => ∃ us s, WInv L c0 H a d f (ws ++ [us]) (as ++ [s]) σ' H'', ?_, ?_⟩
      · rintro σ' H'' ⟨us, s, wi⟩
        refine ⟨600 - (ws ++ [us]).length, ?_, _, _, rfl, wi⟩
        rw [List.length_append, List.length_singleton]
        omega
      have dl : (dicF 0 as).length = ws.length := by rw [dicF_len, la]
      refine ⟨_, rfl, d, _, rfl, hd, ?_⟩
      rw [dl]
      refine ⟨by show 1 ≤ sizeLine; decide, fun z nz => ?_⟩
      have sz := same_up (o := .lst [.str ""]) nz
      refine ⟨_, rfl, fun y ny => ⟨d, y, dicF 0 as, rfl, rfl, ?_, upd_same, .inr ⟨_, rfl, ?_⟩⟩⟩
      · exact (sz.trans (same_up ny)) _ _ hd
      have sy := same_up (o := .dK []) ny
      have zy : z ≠ y := ne_of_none upd_same ny
      generalize hinit : (if ws = [] then [[]] else [] : List Wd) = init at hlay
      have ek : (List.replicate ((if (dicF 0 as).isEmpty = true then 1 else 0 : Int)).toNat [V.str ""]).flatten = init.map vS ∧ 0 ≤ (if (dicF 0 as).isEmpty = true then 1 else 0 : Int) ∧ (if (dicF 0 as).isEmpty = true then 1 else 0 : Int) ≤ 1 := by
        by_cases hw : ws = []
        · subst hw
          obtain rfl : as = [] := List.length_eq_zero_iff.mp la
          rw [if_pos rfl] at hinit
          subst hinit
          exact ⟨rfl, by decide, by decide⟩
        · rw [if_neg hw] at hinit
          subst hinit
          have : (dicF 0 as).isEmpty = false := by
            cases as with
            | nil => exact absurd (List.length_eq_zero_iff.mp la.symm) hw
            | cons b bs => rfl
          rw [this]
          exact ⟨rfl, by decide, by decide⟩
      generalize (if (dicF 0 as).isEmpty = true then 1 else 0 : Int) = kk at ek
      obtain ⟨ek, k0, k1⟩ := ek
      refine ⟨z, kk, _, rfl, rfl, sy _ _ upd_same, by omega, by omega, ?_, fun e ne0 => ⟨_, _, rfl, ?_⟩⟩
      · rw [List.length_singleton, sizeLine_eq]
        omega
      rw [ek]
      have s3 := sz.trans sy
      generalize upd (upd H' z (.lst [.str ""])) y (.dK []) = H3 at ne0 s3 ⊢
      have ha3 := (sm.trans s3) _ _ ha
      have ae : a ≠ e := ne_of_none ha3 ne0
      refine ⟨a, _, (same_up ne0) _ _ ha3, trivial, fun od => ?_⟩
      have eF : upd H3 a (.frz od (.dK (dOf L))) e = none := by
        rw [upd_ne (Ne.symm ae)]
        exact ne0
      have dlL : (dOf L).length = L.length := List.length_map ..
      refine ⟨_, rfl, a, od, rfl, .inl ⟨dOf L, upd_same, for_it wk_keys (fun j σ H5 => ∃ v6 : Option V, σ = [some (.ref a), some (.int 60), some (.ref d), some (.ref f), some (.int (ws.length : Int)), some (.ref e), v6, none] ∧ Same (upd H3 a (.frz od (.dK (dOf L)))) H5 ∧ H5 e = some (.lst ((init ++ (L.take j).flatMap (lay1 ws)).map vS))) ⟨v6, rfl, ?_, ?_⟩ (fun j σ H5 _ ⟨_, _, h, _⟩ => h _ _ upd_same) ?_ ?_⟩⟩
      · intro b u eb
        by_cases hb : b = a
        · rw [hb, upd_same] at eb ⊢
          exact eb
        · rw [upd_ne hb] at eb ⊢
          rw [upd_ne (ne_of_none eb ne0)]
          exact eb
      · rw [upd_ne (Ne.symm ae), upd_same, List.take_zero, List.flatMap_nil, List.append_nil]
      · rintro j x σ H5 H5' hj ⟨v6', rfl, sF, he⟩ ⟨rfl, k, v, hk, rfl⟩
        rw [List.getElem?_map] at hk
        cases hn : L[j]? with
        | none =>
          rw [hn] at hk
          cases hk
        | some pc =>
          rw [hn] at hk
          cases hk
          have hp := List.mem_of_getElem? hn
          have r1 := (ok.cost pc hp).1
          have hv := getDK (k := Sum.inr (S [pc.1])) (sF _ _ upd_same)
          rw [valV_mem ndL hp] at hv
          have tk : L.take (j + 1) = L.take j ++ [pc] := by
            rw [List.take_add_one, hn]
            rfl
          have s3F : ∀ {b u}, H3 b = some u → b ≠ a → H5' b = some u := fun {b u} eb hb => sF _ _ (by rw [upd_ne hb]; exact eb)
          have hd5 := s3F (s3 _ _ hd) da
          refine ⟨_, rfl, .inl ⟨rfl, _, SqL.of he⟩, ?_⟩
          refine ⟨_, rfl, d, rfl, .inl ⟨_, .inl hd5⟩, _, rfl, ⟨_, rfl, _, rfl, a, _, rfl, hv, _, _, rfl, rfl, by show 0 ≤ sizeLine; decide, fun g ng => ?_⟩⟩
          have sg := same_up (o := .lst []) ng
          have rw6 : rowOf as ws (upd H5' g (.lst [])) := fun c s hs => by
            have h1 := rows c s hs
            refine sg _ _ (s3F (s3 _ _ h1) fun z => ?_)
            rw [z, sm _ _ ha] at h1
            cases h1
          obtain ⟨o, l, ho, hol, hl⟩ := row_get la (sg _ _ hd5) rw6 upd_same pc.2 r1
          refine ⟨o, ho, l, hol, ⟨_, SqL.of hl⟩, fun D nD => lc_one wk_list (fun i => vS (pc.1 :: (wsAt ws ((ws.length : Int) - pc.2)).getD i [])) nD ?_ (fun H' s' => s'.seq (SqL.of hl)) (fun i x H6 R hi s' hx hR => ?_) (fun H7 s7 hD => ?_)⟩
          · have := wsAt_len (ws := ws) ((ws.length : Int) - pc.2)
            rw [List.length_map]
            omega
          · rw [List.getElem?_map] at hx
            cases hm : (wsAt ws ((ws.length : Int) - pc.2))[i]? with
            | none =>
              rw [hm] at hx
              cases hx
            | some u =>
              rw [hm] at hx
              cases hx
              have e : (wsAt ws ((ws.length : Int) - pc.2)).getD i [] = u := by rw [List.getD_eq_getElem?_getD, hm]; rfl
              rw [e] at hR
              obtain ⟨c, _, hc, hu1⟩ := wsAt_mem (List.mem_of_getElem? hm)
              obtain ⟨w1, w2⟩ := good.words c hc u hu1
              have := cost_ge ok u
              refine ⟨_, rfl, _, rfl, _, _, rfl, rfl, ?_, ?_⟩
              · rw [S_len, S_len, sizeLine_eq, List.length_singleton]
                omega
              · rw [S_cat]
                exact hR
          · have eD : ((List.range ((wsAt ws ((ws.length : Int) - pc.2)).map vS).length).map fun i => vS (pc.1 :: (wsAt ws ((ws.length : Int) - pc.2)).getD i [])) = (lay1 ws pc).map vS := by
              rw [List.length_map, range_map (wsAt ws ((ws.length : Int) - pc.2)) (fun u => vS (pc.1 :: u)) _ fun i x hx => by rw [List.getD_eq_getElem?_getD, hx]; rfl]
              show List.map (fun u => vS (pc.1 :: u)) _ = List.map vS (List.map (pc.1 :: ·) _)
              rw [List.map_map]
              rfl
            rw [eD] at hD
            have he7 := s7 _ _ (sg _ _ he)
            refine ⟨e, D, _, _, rfl, rfl, he7, hD, ?_, _, rfl, same_new eF ((sF.trans sg).trans s7), ?_⟩
            · have h1 := flat_lay ws (L.take j)
              have h2 := wsAt_len (ws := ws) ((ws.length : Int) - pc.2)
              have h3 : (L.take j).length ≤ 4 := by rw [List.length_take]; omega
              have h4 : init.length ≤ 1 := by
                rw [← hinit]
                split <;> decide
              have h5 : (L.take j).length * ws.flatten.length ≤ 4 * ws.flatten.length := Nat.mul_le_mul_right _ h3
              rw [List.length_map, List.length_map, List.length_append, List.length_map, sizeLine_eq]
              omega
            · rw [upd_same, tk, List.flatMap_append, List.map_append, List.map_append, List.map_append, List.flatMap_singleton, List.append_assoc]
      · rintro σ H5 ⟨v6', rfl, sF, he⟩
        rw [dlL, List.take_length, ← hinit] at he
        refine ⟨sF _ _ upd_same, ?_⟩
        have s8 := lock_same ha3 sF
        have he8 : upd H5 a (.dK (dOf L)) e = some (.lst (((layer L ws).map S).map V.str)) := by
          rw [upd_ne (Ne.symm ae), he, List.map_map]
          rfl
        refine ⟨_, rfl, e, (layer L ws).map S, rfl, SqL.of he8, fun ys s pm srt ns => ?_⟩
        have se := s3.trans s8
        have s9 := same_up (o := .lst (ys.map V.str)) ns
        have sAll := se.trans s9
        have hd9 := sAll _ _ hd
        have hf9 := sAll _ _ hf
        obtain ⟨us, rfl, pu⟩ := perm_map (f := S) (fun z => z.cps.toList) (fun _ => rfl) pm
        have sd : s ≠ d := (ne_of_none (se _ _ hd) ns).symm
        have sf : s ≠ f := (ne_of_none (se _ _ hf) ns).symm
        have sof : ∀ b ∈ as, b ≠ s := fun b hb z => by
          obtain ⟨c, hc⟩ := List.mem_iff_getElem?.mp hb
          have := se _ _ (rows c b hc)
          rw [z, ns] at this
          cases this
        have sod : ∀ b ∈ as, b ≠ d := fun b hb z => by
          obtain ⟨c, hc⟩ := List.mem_iff_getElem?.mp hb
          have := rows c b hc
          rw [z, hd] at this
          cases this
        have sH := sm.trans sAll
        have hs9 : upd (upd H5 a (.dK (dOf L))) s (.lst ((us.map S).map V.str)) s = some (.lst (us.map vS)) := by
          rw [upd_same, List.map_map]
          rfl
        have rows9 : rowOf as ws (upd (upd H5 a (.dK (dOf L))) s (.lst ((us.map S).map V.str))) := fun c b hb => sAll _ _ (rows c b hb)
        refine ⟨_, rfl, _, rfl, d, _, rfl, .inl ⟨_, Sum.inl (ws.length : Int), hd9, rfl, ?_, rfl⟩, ?_⟩
        · rw [dl, sizeLine_eq]
          omega
        generalize upd (upd H5 a (.dK (dOf L))) s (.lst ((us.map S).map V.str)) = H9 at hd9 hf9 sH hs9 rows9 ⊢
        have ep : putK (dicF 0 as) (Sum.inl (ws.length : Int)) (V.ref s) = dicF 0 (as ++ [s]) := by
          have h0 := valF as 0 ws.length
          rw [Nat.zero_add, List.getElem?_eq_none (by omega)] at h0
          rw [putK_new _ h0, dicF_snoc, la, Nat.zero_add]
        rw [ep]
        have hf10 : upd H9 d (.dK (dicF 0 (as ++ [s]))) f = some (.lst (ws.flatten.map vS)) := by
          rw [upd_ne (Ne.symm df)]
          exact hf9
        have hs10 : upd H9 d (.dK (dicF 0 (as ++ [s]))) s = some (.lst (us.map vS)) := by
          rw [upd_ne sd]
          exact hs9
        have hv := DGet.k (k := Sum.inl ((0 + ws.length : Nat) : Int)) (upd_same (H := H9) (a := d) (o := .dK (dicF 0 (as ++ [s]))))
        rw [valF (as ++ [s]) 0 ws.length, List.getElem?_append_right (by omega), la, Nat.sub_self, Nat.zero_add] at hv
        have eus := lay_eq ok good pu srt
        have gw := layer_good ok ⟨p0, hp0, hc0⟩ good eus
        have ul := pu.length_eq
        refine ⟨_, rfl, .inl ⟨rfl, _, SqL.of hf10⟩, _, rfl, _, rfl, d, _, rfl, hv, f, s, _, _, rfl, rfl, hf10, hs10, ?_, us, s, ?_⟩
        · have h5 : L.length * ws.flatten.length ≤ 4 * ws.flatten.length := Nat.mul_le_mul_right _ l4
          rw [hinit] at he
          have : (layer L ws).length ≤ 1 + L.length * ws.flatten.length := layer_len L ws
          rw [List.length_map, List.length_map, sizeLine_eq]
          omega
        · refine ⟨by rw [List.length_append, List.length_append, la]; rfl, gw, by rw [List.length_append, List.length_singleton]; omega, ?_, ?_, ?_, ?_, ?_, _, _, _, rfl⟩
          · exact same_new nf0 (same_new nd0 sH)
          · rw [upd_ne df, upd_same]
          · rw [upd_same, List.flatten_append, List.map_append]
            simp
          · intro c b hb
            by_cases hc : c < as.length
            · rw [List.getElem?_append_left hc] at hb
              have hm := List.mem_of_getElem? hb
              rw [upd_ne (ne b hm), upd_ne (sod b hm), rows9 c b hb, List.getD_eq_getElem?_getD, List.getD_eq_getElem?_getD, List.getElem?_append_left (by omega)]
            · have hcl : c < (as ++ [s]).length := by
                rcases Nat.lt_or_ge c (as ++ [s]).length with h | h
                · exact h
                · rw [List.getElem?_eq_none h] at hb
                  cases hb
              rw [List.length_append, List.length_singleton] at hcl
              have ec : c = as.length := by omega
              subst ec
              rw [List.getElem?_append_right (Nat.le_refl _), Nat.sub_self] at hb
              cases hb
              rw [upd_ne sf, hs10, List.getD_eq_getElem?_getD, List.getElem?_append_right (by omega), la, Nat.sub_self]
              rfl
          · intro b hb
            rcases List.mem_append.mp hb with h | h
            · exact ne b h
            · obtain rfl : b = s := by simpa using h
              exact sf
    · refine ifF (decide_eq_false hlt) ⟨_, rfl, _, rfl, _, rfl, f, _, rfl, SqL.of hf, fun p np => ?_⟩
      have ec : cutV (ws.flatten.map vS) none (some 60) = (ws.flatten.take 60).map vS := by
        unfold cutV
        rw [HT.sIx_none, List.drop_zero, Nat.sub_zero, List.length_map, ← List.map_take]
        have e : HT.sIx ws.flatten.length ws.flatten.length (some 60) = 60 := by
          rw [show (60 : Int) = ((60 : Nat) : Int) from rfl, HT.sIx_nat]
          omega
        rw [e]
      rw [ec]
      exact q p _ _ (sm.trans (same_up np)) upd_same (first_ok ok good (by omega))
end
end K10

namespace K10
open PySem PySem.Spec PyProof.Rows L2 Ver Num SX
section
variable {P : Program} {w : World} {K : PySem.W.Frag} {mg : Str → Option Value} {base : Heap}
/-- Order.words, asleep while anything is done -/
theorem ok_wordsV (T : Tx K mg) : ∃ fd, GW.GFv P w K mg base 4 (He.ma K (OC K) "words") fd ["self", "word"] (spWords K) ∧ Binds K fd ["self", "word"] [] ∧ ∃ ds, Vals [V.str ""] ds ∧ Binds K fd ["self", "word"] ds := by
  obtain ⟨fd, F⟩ := T.d.def_ 31 (d := d_Order_words) rfl
  obtain ⟨oc, od, dV, kV, doc, pm, an, cdv, ct, osl, e, lk, hcd, _⟩ := id F.ex
  refine ⟨fd, ?_, by
    obtain ⟨ds, r, b⟩ := F.binds1 (ps := ["self", "word"]) 2 1 (by intro z; cases z) rfl (fun T kV doc pm an cdv ct us its h1 h2 => match us, its, h1, h2 with | [_, _], [_], _, _ => ⟨_, rfl, rfl⟩)
    cases r
    exact b, by
    obtain ⟨ds, r, b⟩ := F.binds1 (ps := ["self", "word"]) 1 0 (by intro z; cases z) rfl (fun T kV doc pm an cdv ct us its h1 h2 => match us, its, h1, h2 with | [_], [_], _, _ => ⟨_, rfl, rfl⟩)
    exact ⟨ds, r, b⟩⟩
  subst e
  refine GW.gfv_of lk hcd sc_Order_words (fun _ _ => rfl) (fun vs H It M Q E h => ?_) (fun A outer s H vs It M Q E pn g hg hnT hok hr h => ?_)
  · obtain ⟨o, L, u, f, G, rfl, _⟩ := h
    rfl
  · obtain ⟨o, L, u, f, G, rfl, at_, hw, hN1, hf0, hG0, hfm, hst, hit⟩ := h
    have nd := sc_Order_words.nd
    refine ⟨_, GW.gvs_cons (GW.gv_ps fun h0 => ps_expr (pe_methG (pv 0) (kp_Order__check T.d) (ok_check T) (hr.mono (by decide)) hg pass0 (pa_cons (pv 1) pa_nil)))
      (GW.gvs_cons (GW.gv_while (fun h0 => GW.owns_gx (K := K) (mg := mg) (base := base) (N := n_Order_words) h0) (fun h0 => pt_val pe_bl)
        (GW.gvs_cons (GW.gv_yield fun h0 => pv 1)
        (GW.gvs_cons (GW.gv_ps fun h0 => ps_set (i := 1) nd rfl (Or.inl rfl) (pe_methG (pv 0) (kp_Order__neighbour T.d) (ok_nei T) hr hg pass0 (pa_cons (pv 1) (pa_cons (pe_fld (pv 0) rfl) (pa_cons pe_int pa_nil))))) GW.gvs_nil)))
      GW.gvs_nil), ?_⟩
    obtain ⟨dx, dc, fw, ho, _⟩ := id at_.ex
    have ok := at_.ok
    refine fun h0 => ⟨_, rfl, o, OC K, dx, _, rfl, ho, T.o.cl, T.me (by decide +kernel), lk_none (by decide +kernel), _, rfl, o, L, [u], rfl, at_, by show 1 ≤ 100; decide, fun v hv => ?_, fun H1 s1 => ?_⟩
    · obtain rfl : v = u := by simpa using hv
      exact hw
    refine ⟨fun m ys σ' H' => m + ys.length = M ∧ 1 ≤ m ∧ G ys.length ∧ Same H H' ∧ σ' = [some (.ref o), some (vS (f ys.length))], ⟨M, Nat.add_zero _, hN1, hG0, s1, by rw [List.length_nil, hf0]; rfl⟩, fun m ys σ' H' hV h1 => ?_⟩
    obtain ⟨v1, v2, vG, v3, rfl⟩ := hV
    refine ⟨true, rfl, ?_⟩
    refine yes_t ?_
    refine ⟨fun ys' σ'' H'' => 1 ≤ m - 1 ∧ m - 1 + ys'.length = M ∧ G ys'.length ∧ Same H H'' ∧ σ'' = [some (.ref o), some (vS (f ys'.length))], fun ys' σ'' H'' q => ⟨m - 1, by omega, q.2.1, q.1, q.2.2.1, q.2.2.2.1, q.2.2.2.2⟩, ?_⟩
    have hlt : ys.length < M := by omega
    refine ⟨hlt, fun h2 => ⟨_, rfl, v3, hit ys hlt vG, fun hm => ?_⟩⟩
    obtain ⟨w1, w2⟩ := hfm ys.length hlt vG
    refine fun h3 => ⟨_, rfl, o, OC K, dx, _, rfl, ho, T.o.cl, T.me (by decide +kernel), lk_none (by decide +kernel), _, rfl, _, rfl, o, _, dx, _, _, rfl, ho, T.o.cl, T.o.na _ (by decide +kernel), rfl, o, L, f ys.length, L.map (·.1), 1, rfl, at_, fun c => Iff.rfl, asc_nodup ok.asc, w1, w2, .inl rfl, fun r H2 hr2 s2 => ?_⟩
    obtain ⟨e1, e2⟩ := hst ys.length r (by omega) vG hr2
    rw [e1]
    refine ⟨by omega, by rw [List.length_append, List.length_singleton]; omega, by rw [List.length_append, List.length_singleton]; exact e2, s2, ?_⟩
    rw [List.length_append, List.length_singleton]
    rfl
end
end K10

namespace K10
open PySem PySem.Spec PyProof.Rows L2 Ver Num SX
section
variable {P : Program} {w : World} {K : PySem.W.Frag} {mg : Str → Option Value} {base : Heap}
/-- the first words of Order.spread, N of them asked at most -/
def spSpreadP (K : PySem.W.Frag) : GW.SpW := fun vs H It N Q E => ∃ (o : Addr) (L : LC) (f : Nat → Wd) (l : Wd) (G : Nat → Prop), vs = [.ref o, vS (f 0), vS l] ∧ OrdAt K H o L ∧ WOk L (f 0) ∧ WOk L l ∧ 1 ≤ N ∧ befW L l (f 0) = false ∧ G 0 ∧ (∀ m, m < N → G m → (∀ c ∈ f m, c ∈ L.map (·.1)) ∧ (f m).length ≤ 1600) ∧ (∀ m, m < N → S (f m) ≠ S l) ∧
  (∀ m r, m + 1 < N → G m → Nei L (L.map (·.1)) 1 (f m) r → r = some (f (m + 1)) ∧ G (m + 1)) ∧ ∀ ys, ys.length < N → It ys (vS (f ys.length))
/-- Order.spread backward: no word -/
def spSpreadB (K : PySem.W.Frag) : GW.SpW := fun vs H It N Q E => ∃ (o : Addr) (L : LC) (u v : Wd), vs = [.ref o, vS u, vS v] ∧ OrdAt K H o L ∧ WOk L u ∧ WOk L v ∧ befW L v u = true ∧ Q []
theorem ok_spreadP (T : Tx K mg) : ∃ fd, GW.GFw P w K mg base 6 (He.ma K (OC K) "spread") fd ["self", "first", "last"] (spSpreadP K) ∧ Binds K fd ["self", "first", "last"] [] := by
  obtain ⟨fdw, Fw, Bw⟩ := ok_words (P := P) (w := w) (base := base) T
  refine mkg_Order_spread T.d (fun vs H It M Q E h => ?_) (fun cdv A outer s H vs It M Q E pn g hg hnT hok hr h => ?_)
  · obtain ⟨o, L, f, l, G, rfl, _⟩ := h
    rfl
  · obtain ⟨o, L, f, l, G, rfl, at_, hw0, hwT, hN, hbf, hG0, hfm, hne, hst, hit⟩ := h
    have nd := sc_Order_spread.nd
    have hu := hr.units
    refine ⟨_, GW.gws_cons (GW.gw_ps fun h0 => ps_expr (pe_methG (pv 0) (kp_Order__check T.d) (ok_check T) (hr.mono (by decide)) hg pass0 (pa_cons (pv 1) (pa_cons (pv 2) pa_nil))))
      (GW.gws_cons (GW.gw_ps fun h0 => ps_if (pt_cmpR (op_ltD T.sm hu) (pe_methG (pv 0) (kp_Order_place_of T.d) (ok_place T) (hr.mono (by decide)) hg pass0 (pa_cons (pv 2) pa_nil)) (pe_methG (pv 0) (kp_Order_place_of T.d) (ok_place T) (hr.mono (by decide)) hg pass0 (pa_cons (pv 1) pa_nil)) (nomark _)) (pss_one ps_retN) pss_nil)
      (GW.gws_cons (GW.gw_forY (i := 3) (j := 2) (fun h0 => GW.pgw_meth (pv 0) T.o.cl (T.me (by decide +kernel)) Fw (hr.mono (by decide)) Bw (Fg := fun H1 Hn => Hn = H ∧ Same H H1) (fun pins σ Ha Hn s' I e => ?_) (pa_cons (pv 1) pa_nil)) hr hg nd rfl rfl (by decide) rfl rfl rfl rfl (fun g' hg' => hg'))
      GW.gws_nil)), ?_⟩
    · obtain ⟨e1, e2⟩ := e
      subst e1
      exact ⟨GW.forget2 hnT ⟨_, hok⟩ I e2, hnT⟩
    obtain ⟨dx, dc, fw, ho, _⟩ := id at_.ex
    refine fun h0 => ⟨_, rfl, o, OC K, dx, _, rfl, ho, T.o.cl, T.me (by decide +kernel), lk_none (by decide +kernel), _, rfl, _, rfl, o, L, [f 0, l], rfl, at_, by show 2 ≤ 100; decide, fun x hx => ?_, fun H1 s1 => fun h1 => ?_⟩
    · simp only [List.mem_cons, List.not_mem_nil, or_false] at hx
      rcases hx with rfl | rfl
      · exact hw0
      · exact hwT
    have at1 := at_.same s1
    obtain ⟨dx1, dc1, fw1, ho1, _⟩ := id at1.ex
    refine ⟨_, rfl, o, OC K, dx1, _, rfl, ho1, T.o.cl, T.me (by decide +kernel), lk_none (by decide +kernel), _, rfl, o, L, l, rfl, at1, hwT, fun p H2 s2 hp np => ?_⟩
    have at2 := at1.same s2
    obtain ⟨dx2, dc2, fw2, ho2, _⟩ := id at2.ex
    refine ⟨_, rfl, o, OC K, dx2, _, rfl, ho2, T.o.cl, T.me (by decide +kernel), lk_none (by decide +kernel), _, rfl, o, L, f 0, rfl, at2, hw0, fun p2 H3 s3 hp2 np2 => ?_⟩
    refine ⟨placeD L (l), placeD L (f 0), .tup (SqT.of (s3 _ _ hp)) (.cons (.int _) (.cons (.str _) .nil)), .tup (SqT.of hp2) (.cons (.int _) (.cons (.str _) .nil)), by simp [PySem.W.alike, PySem.W.alikeAll], (fun z => by cases z), by simp [PyData.depth, PyData.depthAll], befW L (l) (f 0), rfl, ?_⟩
    rw [hbf]
    have at3 := at2.same s3
    have s03 : Same H H3 := (s1.trans s2).trans s3
    obtain ⟨dx3, dc3, fw3, ho3, _⟩ := id at3.ex
    refine no_t ⟨fun m => S (f m), M, S l, fun m ys => ys.length = m ∧ m < M, hN, fun h2 => ⟨_, rfl, o, dx3, _, rfl, ho3, lk_none (by decide +kernel), _, rfl, H, ⟨rfl, s03⟩, ⟨o, L, f 0, f, G, rfl, at_, hw0, hN, rfl, hG0, fun m hm => hfm m hm, fun m r hm => hst m r hm, fun ys _ _ => rfl⟩, rfl⟩, rfl, ⟨rfl, hN⟩, fun m ys hm => ?_⟩
    obtain ⟨rfl, hm⟩ := hm
    refine ⟨hm, hit ys hm, fun hlt => ?_⟩
    rw [if_neg (hne _ hm)]
    exact ⟨hlt, by rw [List.length_append, List.length_singleton], hlt⟩
theorem ok_spreadB (T : Tx K mg) : ∃ fd, GW.GFw P w K mg base 6 (He.ma K (OC K) "spread") fd ["self", "first", "last"] (spSpreadB K) ∧ Binds K fd ["self", "first", "last"] [] := by
  obtain ⟨fdw, Fw, Bw⟩ := ok_words (P := P) (w := w) (base := base) T
  refine mkg_Order_spread T.d (fun vs H It M Q E h => ?_) (fun cdv A outer s H vs It M Q E pn g hg hnT hok hr h => ?_)
  · obtain ⟨o, L, u, v, rfl, _⟩ := h
    rfl
  · obtain ⟨o, L, u, v, rfl, at_, hw0, hwT, hbf, hQ⟩ := h
    have nd := sc_Order_spread.nd
    have hu := hr.units
    refine ⟨_, GW.gws_cons (GW.gw_ps fun h0 => ps_expr (pe_methG (pv 0) (kp_Order__check T.d) (ok_check T) (hr.mono (by decide)) hg pass0 (pa_cons (pv 1) (pa_cons (pv 2) pa_nil))))
      (GW.gws_cons (GW.gw_ps fun h0 => ps_if (pt_cmpR (op_ltD T.sm hu) (pe_methG (pv 0) (kp_Order_place_of T.d) (ok_place T) (hr.mono (by decide)) hg pass0 (pa_cons (pv 2) pa_nil)) (pe_methG (pv 0) (kp_Order_place_of T.d) (ok_place T) (hr.mono (by decide)) hg pass0 (pa_cons (pv 1) pa_nil)) (nomark _)) (pss_one ps_retN) pss_nil)
      (GW.gws_cons (GW.gw_forY (i := 3) (j := 2) (fun h0 => GW.pgw_meth (pv 0) T.o.cl (T.me (by decide +kernel)) Fw (hr.mono (by decide)) Bw (Fg := fun H1 Hn => Hn = H ∧ Same H H1) (fun pins σ Ha Hn s' I e => ?_) (pa_cons (pv 1) pa_nil)) hr hg nd rfl rfl (by decide) rfl rfl rfl rfl (fun g' hg' => hg'))
      GW.gws_nil)), ?_⟩
    · obtain ⟨e1, e2⟩ := e
      subst e1
      exact ⟨GW.forget2 hnT ⟨_, hok⟩ I e2, hnT⟩
    obtain ⟨dx, dc, fw, ho, _⟩ := id at_.ex
    refine fun h0 => ⟨_, rfl, o, OC K, dx, _, rfl, ho, T.o.cl, T.me (by decide +kernel), lk_none (by decide +kernel), _, rfl, _, rfl, o, L, [u, v], rfl, at_, by show 2 ≤ 100; decide, fun x hx => ?_, fun H1 s1 => fun h1 => ?_⟩
    · simp only [List.mem_cons, List.not_mem_nil, or_false] at hx
      rcases hx with rfl | rfl
      · exact hw0
      · exact hwT
    have at1 := at_.same s1
    obtain ⟨dx1, dc1, fw1, ho1, _⟩ := id at1.ex
    refine ⟨_, rfl, o, OC K, dx1, _, rfl, ho1, T.o.cl, T.me (by decide +kernel), lk_none (by decide +kernel), _, rfl, o, L, v, rfl, at1, hwT, fun p H2 s2 hp np => ?_⟩
    have at2 := at1.same s2
    obtain ⟨dx2, dc2, fw2, ho2, _⟩ := id at2.ex
    refine ⟨_, rfl, o, OC K, dx2, _, rfl, ho2, T.o.cl, T.me (by decide +kernel), lk_none (by decide +kernel), _, rfl, o, L, u, rfl, at2, hw0, fun p2 H3 s3 hp2 np2 => ?_⟩
    refine ⟨placeD L (v), placeD L (u), .tup (SqT.of (s3 _ _ hp)) (.cons (.int _) (.cons (.str _) .nil)), .tup (SqT.of hp2) (.cons (.int _) (.cons (.str _) .nil)), by simp [PySem.W.alike, PySem.W.alikeAll], (fun z => by cases z), by simp [PyData.depth, PyData.depthAll], befW L (v) (u), rfl, ?_⟩
    rw [hbf]
    exact yes_t ⟨rfl, fun b x e => ((s1.trans s2).trans s3) b x e, hQ⟩
end
end K10

namespace K10
open PySem PySem.Spec PyProof.Rows L2 Ver Num SX
section
variable {L : LC} (ok : LOk L)
include ok
/-- the next number is a word's, of a cost not much more -/
theorem next_num {u : Wd} (hu : ∀ c ∈ u, c ∈ L.map (·.1)) {c : Nat} (hc : costW L u ≤ (c : Int)) : plc L u + 1 < toN L (c + 10) := by
  obtain ⟨s, s1, s9, hs⟩ := next_cost ok hu
  have h0 := cost_ge ok u
  obtain ⟨h2, h3⟩ := (wN_pos (L := L) _).mp hs
  have hb := (plc_bd ok u hu).2
  have hm := toN_mono ok (show (costW L u).toNat + 1 ≤ (costW L u + s).toNat by omega)
  have hs2 := toN_succ (L := L) (costW L u + s).toNat
  have hm2 := toN_mono ok (show (costW L u + s).toNat + 1 ≤ c + 10 by omega)
  omega
/-- three words, one behind the other -/
theorem three_words {u : Wd} (hw : WOk L u) : ∃ f : Nat → Wd, f 0 = u ∧ (∀ m, m < 3 → (∀ c ∈ f m, c ∈ L.map (·.1)) ∧ (f m).length ≤ 1600) ∧ (∀ m r, m + 1 < 3 → Nei L (L.map (·.1)) 1 (f m) r → r = some (f (m + 1))) ∧ plc L (f 1) = plc L u + 1 := by
  have cu := cost_le ok u
  have cg := cost_ge ok u
  have hb := (plc_bd ok u hw.1).1
  have hb0 := (toN_bd ok (costW L u).toNat).1
  have hl := hw.2
  obtain ⟨C, hC⟩ : ∃ C : Nat, costW L u = (C : Int) := ⟨(costW L u).toNat, by omega⟩
  have n1 := next_num ok hw.1 (c := C) (by omega)
  obtain ⟨v, hv, cv, pv⟩ := plc_sur ok (M := C + 10) (n := plc L u + 1) (by omega) n1
  have n2 := next_num ok hv (c := C + 10) (by omega)
  obtain ⟨f, hf⟩ := words_from ok (n := plc L u) (T := 2) (M := C + 10 + 10) (by omega) (by push_cast; omega)
  refine ⟨f, plc_inj ok (hf 0 (by omega)).1 hw.1 (by rw [(hf 0 (by omega)).2.2]; push_cast; omega), fun m hm => ⟨(hf m (by omega)).1, ?_⟩, fun m r hm hn => next_from ok hf (by omega) hn, by rw [(hf 1 (by omega)).2.2]; rfl⟩
  have h1 := (hf m (by omega)).2.1
  have h2 := cost_ge ok (f m)
  omega
/-- a word's number is at least its length -/
theorem len_plc : ∀ (n : Nat) (u : Wd), u.length = n → (∀ c ∈ u, c ∈ L.map (·.1)) → (n : Int) ≤ plc L u
  | 0, u, h, hu => by
    have h1 := (plc_bd ok u hu).1
    have h2 := (toN_bd ok (costW L u).toNat).1
    omega
  | n + 1, u, h, hu => by
    have hne : u ≠ [] := fun z => by rw [z] at h; cases h
    have e := List.dropLast_concat_getLast hne
    have hv : ∀ c ∈ u.dropLast, c ∈ L.map (·.1) := fun c hc => hu c (List.dropLast_subset _ hc)
    have ih := len_plc n u.dropLast (by rw [List.length_dropLast, h]; rfl) hv
    have h1 : costW L u.dropLast < costW L u := by
      conv => rhs; rw [← e]
      rw [costW_app]
      have := cost_ge ok [u.getLast hne]
      have e1 : (([u.getLast hne].length : Nat) : Int) = 1 := rfl
      omega
    have := plc_lt ok hv hu (.inl h1)
    push_cast
    omega
variable {F : List Wd} (fo : FirstOk L F)
include fo
theorem fo_get {m : Nat} (hm : m < 60) : F[m]? = some (F.getD m []) := by
  rw [List.getD_eq_getElem?_getD, List.getElem?_eq_getElem (by rw [fo.len]; exact hm)]
  rfl
theorem fo_plc {m : Nat} (hm : m < 60) : plc L (F.getD m []) = (m : Int) := fo.at_ m _ (fo_get ok fo hm)
theorem fo_over {m : Nat} (hm : m < 60) : ∀ c ∈ F.getD m [], c ∈ L.map (·.1) := fo.over _ (List.mem_of_getElem? (fo_get ok fo hm))
theorem fo_len {m : Nat} (hm : m < 60) : (F.getD m []).length ≤ m := by
  have h1 := len_plc ok _ (F.getD m []) rfl (fo_over ok fo hm)
  rw [fo_plc ok fo hm] at h1
  omega
theorem fo_wok {m : Nat} (hm : m < 60) : WOk L (F.getD m []) := ⟨fo_over ok fo hm, by have := fo_len ok fo hm; omega⟩
theorem fo_nil : F.getD 0 [] = [] := by
  have := fo_len ok fo (m := 0) (by decide)
  exact List.length_eq_zero_iff.mp (by omega)
theorem fo_next {m : Nat} (hm : m + 1 < 60) {r : Option Wd} (h : Nei L (L.map (·.1)) 1 (F.getD m []) r) : r = some (F.getD (m + 1) []) := by
  obtain ⟨v, rfl, hv, hp⟩ := nei_asc ok (fo_over ok fo (by omega)) h
  rw [plc_inj ok hv (fo_over ok fo hm) (by rw [hp, fo_plc ok fo (by omega), fo_plc ok fo hm]; push_cast; omega)]
theorem fo_inj {a b : Nat} (ha : a < 60) (hb : b < 60) (h : a ≠ b) : F.getD a [] ≠ F.getD b [] := fun e => by
  have h1 := fo_plc ok fo ha
  rw [e, fo_plc ok fo hb] at h1
  omega
theorem fo_at {v : Wd} (hv : ∀ c ∈ v, c ∈ L.map (·.1)) {m : Nat} (hm : m < 60) (h : plc L v = (m : Int)) : v = F.getD m [] := plc_inj ok hv (fo_over ok fo hm) (by rw [h, fo_plc ok fo hm])
/-- a part of the first words -/
theorem fo_cut {a b : Nat} (hab : a ≤ b) (hb : b ≤ 60) : cutV (F.map vS) (some (a : Int)) (some (b : Int)) = (List.range (b - a)).map fun m => vS (F.getD (a + m) []) := by
  unfold cutV
  have hl := fo.len
  rw [HT.sIx_nat, HT.sIx_nat, List.length_map, hl, Nat.min_eq_left (by omega), Nat.min_eq_left (by omega)]
  refine List.ext_getElem? fun i => ?_
  rw [List.getElem?_take]
  by_cases hi : i < b - a
  · rw [if_pos hi, List.getElem?_drop, List.getElem?_map, List.getElem?_map, List.getElem?_range hi, fo_get ok fo (by omega)]
    rfl
  · rw [if_neg hi, List.getElem?_map, List.getElem?_eq_none (by rw [List.length_range]; omega)]
    rfl
theorem fo_cut0 {b : Nat} (hb : b ≤ 60) : cutV (F.map vS) none (some (b : Int)) = (List.range b).map fun m => vS (F.getD m []) := by
  have h := fo_cut ok fo (a := 0) (b := b) (Nat.zero_le _) hb
  rw [Nat.sub_zero] at h
  have e : cutV (F.map vS) none (some (b : Int)) = cutV (F.map vS) (some ((0 : Nat) : Int)) (some (b : Int)) := by
    unfold cutV
    rw [HT.sIx_nat, HT.sIx_none]
    first | rfl | (rw [show HT.sIx (F.map vS).length 0 (some ((0:Nat):Int)) = 0 from by rw [HT.sIx_nat]; omega])
  rw [e, h]
  simp only [Nat.zero_add]
end
/-! ### lists of words as data -/
theorem can_words : ∀ us : List Wd, (∀ u ∈ us, ∀ c ∈ u, c ≤ 122) → PyData.canLayAll0 (us.map fun u => PyData.str (S u)) = true
  | [], _ => by simp [PyData.canLayAll0]
  | u :: us, h => by
    have h1 : PyData.strOk (S u) = true := by
      simp only [PyData.strOk]
      have := h u List.mem_cons_self
      first
        | (simp; intro c hc; have := this c hc; omega)
        | (simp [Array.all_eq_true]; intro i hi; have := this u[i] (List.getElem_mem hi); omega)
    simp only [List.map_cons, PyData.canLayAll0, PyData.canLay0, h1, can_words us fun v hv => h v (List.mem_cons_of_mem _ hv), Bool.and_true]
theorem depth_strs : ∀ ss : List Str, PyData.depthAll (ss.map PyData.str) ≤ 1
  | [] => by simp [PyData.depthAll]
  | s :: ss => by
    have := depth_strs ss
    simp only [List.map_cons, PyData.depthAll, PyData.depth]
    omega
theorem depth_words (us : List Wd) : PyData.depthAll (us.map fun u => PyData.str (S u)) ≤ 1 := by
  have := depth_strs (us.map S)
  rwa [List.map_map] at this
theorem shaped_words {us : List Wd} (h : ∀ u ∈ us, ∀ c ∈ u, c ≤ 122) : SeqAt.shaped (.list (us.map fun u => PyData.str (S u))) = true := by
  unfold SeqAt.shaped
  have h1 := depth_words us
  have h2 := can_words us h
  have e1 : (PyData.list (us.map fun u => PyData.str (S u))).canLay0 = true := by simp only [PyData.canLay0, h2]
  have e2 : (PyData.list (us.map fun u => PyData.str (S u))).depth ≤ 64 := by
    simp only [PyData.depth]
    omega
  rw [e1, decide_eq_true e2]
  rfl
theorem dp_words {K : PySem.W.Frag} {H : Hp} : ∀ us : List Wd, DoAll K H (us.map vS) (us.map fun u => PyData.str (S u))
  | [] => .nil
  | u :: us => .cons (.str (S u)) (dp_words us)
theorem plain_words : ∀ us : List Wd, PyData.plainAll (us.map fun u => PyData.str (S u)) = true
  | [] => by simp [PyData.plainAll]
  | u :: us => by simp [PyData.plainAll, PyData.plain, plain_words us]
theorem eqv_words (us : List Wd) : PyData.eqv (.list (us.map fun u => PyData.str (S u))) (.list (us.map fun u => PyData.str (S u))) = true := eqv_same (by simp [PyData.plain, plain_words])
theorem over_122 {L : LC} (ok : LOk L) {u : Wd} (hw : ∀ c ∈ u, c ∈ L.map (·.1)) : ∀ c ∈ u, c ≤ 122 := fun c hc => by
  obtain ⟨p, hp, rfl⟩ := List.mem_map.mp (hw c hc)
  exact (ok.rng p hp).2
/-- the same words twice -/
theorem same_words {K : PySem.W.Frag} {H : Hp} {L : LC} (ok : LOk L) {a b : Addr} (f : Nat → Wd) (n : Nat) (hf : ∀ m, m < n → ∀ c ∈ f m, c ∈ L.map (·.1)) (ha : H a = some (.lst ((List.range n).map fun m => vS (f m)))) (hb : H b = some (.lst ((List.range n).map fun m => vS (f m)))) :
    ∃ d, Do K H (.ref a) d ∧ Do K H (.ref b) d ∧ SeqAt.shaped d = true ∧ PyData.eqv d d = true := by
  have e : ((List.range n).map fun m => vS (f m)) = ((List.range n).map f).map vS := by rw [List.map_map]; rfl
  rw [e] at ha hb
  refine ⟨_, .lst (SqL.of ha) (dp_words _), .lst (SqL.of hb) (dp_words _), shaped_words fun u hu => ?_, eqv_words _⟩
  obtain ⟨m, hm, rfl⟩ := List.mem_map.mp hu
  exact over_122 ok (hf m (List.mem_range.mp hm))
end K10

namespace K10
open PySem PySem.Spec PyProof.Rows L2 Ver Num SX
theorem noT_id {H : Hp} (h : ∀ b kvs, H b ≠ some (.dT kvs)) : GW.noT H = H := by
  funext b
  cases e : H b with
  | none => exact GW.noT_none e
  | some u => exact GW.noT_of e fun kvs z => h b kvs (by rw [e, z])
theorem gd_up {Hn Hc : Hp} {p : Addr} {o : HO} (g : GW.Gd Hn Hc) (h : Hn p = none) (ho : GW.SmpT o) : GW.Gd Hn (upd Hc p o) := ⟨fun b u e => by
    have : b ≠ p := fun z => by rw [z, h] at e; cases e
    rw [upd_ne this]
    exact g.sub b u e, fun b u e n => by
    by_cases hb : b = p
    · rw [hb, upd_same] at e
      cases e
      exact ho
    · rw [upd_ne hb] at e
      exact g.smp b u e n⟩
theorem gd_none {Hn Hc : Hp} {p : Addr} (g : GW.Gd Hn Hc) (h : Hc p = none) : Hn p = none := by
  cases e : Hn p with
  | none => rfl
  | some u =>
    have := g.sub _ _ e
    rw [h] at this
    cases this
theorem gd_nt {Hn Hc : Hp} (g : GW.Gd Hn Hc) (h : ∀ b kvs, Hn b ≠ some (.dT kvs)) : ∀ b kvs, Hc b ≠ some (.dT kvs) := fun b kvs e => by
  cases n : Hn b with
  | none => rcases g.smp b _ e n with ⟨_, z⟩ | ⟨_, z⟩ | ⟨_, z⟩ <;> cases z
  | some u =>
    have := g.sub _ _ n
    rw [e] at this
    exact h b kvs (by rw [n, ← this])
theorem strOk_S {L : LC} (ok : LOk L) {u : Wd} (hw : ∀ c ∈ u, c ∈ L.map (·.1)) : PyData.strOk (S u) = true := by
  simp only [PyData.strOk]
  rw [← Array.all_toList, chars_S]
  refine List.all_eq_true.mpr fun c hc => decide_eq_true ?_
  obtain ⟨p, hp, rfl⟩ := List.mem_map.mp (hw c hc)
  exact Nat.lt_of_le_of_lt (ok.rng p hp).2 (by decide)
/-! ### pairs of a word and two words -/
def pd (F : List Wd) (k : Nat) : PyData := .tuple [.str (S (F.getD k [])), .list [.str (S (F.getD 3 [])), .str (S (F.getD 4 []))]]
def PairAt (H : Hp) (F : List Wd) (k : Nat) (t : Addr) : Prop := ∃ q, H t = some (.tup [vS (F.getD k []), .ref q]) ∧ H q = some (.lst [vS (F.getD 3 []), vS (F.getD 4 [])])
theorem PairAt.but {H H' : Hp} {F : List Wd} {k : Nat} {t b : Addr} {xs : List V} (p : PairAt H F k t) (hb : H b = some (.lst xs)) (h3 : F.getD 3 [] ≠ [] ) (hx : ∀ x ∈ xs, ∃ r, x = V.ref r) (s : ∀ c u, H c = some u → c ≠ b → H' c = some u) : PairAt H' F k t := by
  obtain ⟨q, h1, h2⟩ := p
  refine ⟨q, s _ _ h1 fun z => ?_, s _ _ h2 fun z => ?_⟩
  · rw [z, hb] at h1
    cases h1
  · rw [z, hb] at h2
    have e := HO.lst.inj (Option.some.inj h2)
    obtain ⟨r, z2⟩ := hx (vS (F.getD 3 [])) (by rw [e]; exact List.mem_cons_self)
    cases z2
theorem pair_do {K : PySem.W.Frag} {H : Hp} {F : List Wd} {k : Nat} {t : Addr} (p : PairAt H F k t) : Do K H (.ref t) (pd F k) := by
  obtain ⟨q, h1, h2⟩ := p
  exact .tup (SqT.of h1) (.cons (.str _) (.cons (.lst (SqL.of h2) (.cons (.str _) (.cons (.str _) .nil))) .nil))
theorem pairs_do {K : PySem.W.Frag} {H : Hp} {F : List Wd} : ∀ (ts : List Addr) (n : Nat), (∀ (i : Nat) (t : Addr), ts[i]? = some t → PairAt H F (n + i) t) → DoAll K H (ts.map V.ref) ((List.range ts.length).map fun i => pd F (n + i))
  | [], n, h => .nil
  | t :: ts, n, h => by
    rw [List.length_cons, List.range_succ_eq_map, List.map_cons, List.map_cons, List.map_map]
    refine .cons (pair_do (h 0 t rfl)) ?_
    have := pairs_do (K := K) ts (n + 1) fun i u hu => by
      have := h (i + 1) u (by simpa using hu)
      rw [show n + 1 + i = n + (i + 1) by omega]
      exact this
    refine (congrArg (DoAll K H (ts.map V.ref)) (List.map_congr_left fun i _ => ?_)).mp this
    show pd F (n + 1 + i) = pd F (n + (i + 1))
    rw [show n + 1 + i = n + (i + 1) by omega]
section
variable {L : LC} (ok : LOk L) {F : List Wd} (fo : FirstOk L F)
include ok fo
theorem pairs_shaped : SeqAt.shaped (.list ((List.range 5).map fun i => pd F (0 + i))) = true := by
  have h : ∀ m, m < 60 → PyData.strOk (S (F.getD m [])) = true := fun m hm => strOk_S ok (fo_over ok fo hm)
  have e : ((List.range 5).map fun i => pd F (0 + i)) = [pd F 0, pd F 1, pd F 2, pd F 3, pd F 4] := rfl
  rw [e]
  unfold pd
  simp only [SeqAt.shaped, PyData.canLay0, PyData.canLayAll0, PyData.depth, PyData.depthAll, h 0 (by decide), h 1 (by decide), h 2 (by decide), h 3 (by decide), h 4 (by decide)]
  rfl
theorem pairs_eqv : PyData.eqv (.list ((List.range 5).map fun i => pd F (0 + i))) (.list ((List.range 5).map fun i => pd F (0 + i))) = true := eqv_same (by
  have e : ((List.range 5).map fun i => pd F (0 + i)) = [pd F 0, pd F 1, pd F 2, pd F 3, pd F 4] := rfl
  rw [e]
  simp [pd, PyData.plain, PyData.plainAll])
theorem fo_ne3 : F.getD 3 [] ≠ [] := fun z => by
  have h := fo_plc ok fo (m := 3) (by decide)
  have h0 := fo_plc ok fo (m := 0) (by decide)
  rw [fo_nil ok fo] at h0
  rw [z, h0] at h
  exact absurd h (by decide)
end
end K10

namespace K10
open PySem PySem.Spec PyProof.Rows L2 Ver Num SX
def spFar (K : PySem.W.Frag) : Sp := fun vs H Q _ => ∃ (o du : Addr) (L : LC) (F : List Wd), vs = [.ref o, .ref du] ∧ OrdAt K H o L ∧ H du = some (.lst (F.map vS)) ∧ FirstOk L F ∧ ∀ H', NT H H' → Q (.bl true) H'
section
variable {P : Program} {w : World} {K : PySem.W.Frag} {mg : Str → Option Value} {base : Heap}
theorem ok_far (T : Tx K mg) : FnG P w K mg base CX0 9 (He.ga K "_law_far_right") (spFar K) := by
  refine mk__law_far_right T.d (fun vs H Q E h => ?_) (fun cdv A outer s H vs Q E hg hr h => ?_)
  · obtain ⟨o, du, L, F, rfl, _⟩ := h
    rfl
  · obtain ⟨o, du, L, F, rfl, at_, hdu, fo, q⟩ := h
    have nd := sc__law_far_right.nd
    have hu := hr.units
    have zg := T.z "range" (by decide +kernel)
    have zl := T.z "len" (by decide +kernel)
    have bl : bootBuiltins "len" = some (.builtin "len") := by decide +kernel
    obtain ⟨pL, gL, fdL, hpL, GL, bL⟩ := ok_latest (P := P) (w := w) (base := base) T
    obtain ⟨fds, Fs, Bs⟩ := ok_spreadP (P := P) (w := w) (base := base) T
    obtain ⟨fdw, Fw, Bw⟩ := ok_words (P := P) (w := w) (base := base) T
    obtain ⟨fdv, Fv, Bv, dsv, rdv, Bv0⟩ := ok_wordsV (P := P) (w := w) (base := base) T
    refine ⟨_, pss_cons (ps_set (i := 2) nd rfl (Or.inl rfl) (pe_op op_strMul (pe_prop (pv 0) T.o.cl hpL GL (hr.mono (by decide)) bL .nil pass0 (by rfl)) pe_int))
      (pss_cons (ps_if (pt_cmpR (op_neO T.sm hu)
          (GW.pe_lcR (c := 3) rfl (by decide) (i := 3) (j := 4) (own := [("_law_word", 3), ("_law_k", 4)]) rfl nd (GW.pgw_meth (pv 0) T.o.cl (T.me (by decide +kernel)) Fs (hr.mono (by decide)) Bs (Fg := fun H1 Hn => Hn = GW.noT H1) GW.forg_noT (pa_cons pe_str (pa_cons (pv 2) pa_nil))) (hr.mono (by decide)) hg
            (blkOk_by (N := n__law_far_right) (sc := defScope s__law_far_right) (by decide +kernel)) (by rfl) (T.z "zip" (by decide +kernel)) (by rfl) zg rfl (by decide) rfl rfl (by decide) rfl (by decide) (by decide))
          (pe_slice sl_list (pv 1) po_none (po_some pe_int)) (nomark _)) pss_never pss_nil)
      (pss_cons (ps_if (pt_cmpR (op_neO T.sm hu)
          (GW.pe_lcR (c := 2) rfl (by decide) (i := 3) (j := 4) (own := [("_law_word", 3), ("_law_k", 4)]) rfl nd (GW.pgw_meth (pv 0) T.o.cl (T.me (by decide +kernel)) Fw (hr.mono (by decide)) Bw (Fg := fun H1 Hn => Hn = GW.noT H1) GW.forg_noT (pa_cons (pv 2) pa_nil)) (hr.mono (by decide)) hg
            (blkOk_by (N := n__law_far_right) (sc := defScope s__law_far_right) (by decide +kernel)) (by rfl) (T.z "zip" (by decide +kernel)) (by rfl) zg rfl (by decide) rfl rfl (by decide) rfl (by decide) (by decide))
          (pe_lst (pa_cons (pv 2) (pa_cons (pe_methG (pv 0) (kp_Order_after T.d) (ok_after T) (hr.mono (by decide)) hg pass0 (pa_cons (pv 2) pa_nil)) pa_nil))) (nomark _)) pss_never pss_nil)
      (pss_cons (ps_set (i := 5) nd rfl (Or.inl rfl) (pe_lst pa_nil))
      (pss_cons (GW.ps_forV PassesOwn.never (fun _ _ h => h) (GW.pgv_meth0 (pv 0) T.o.cl (T.me (by decide +kernel)) Fv (hr.mono (by decide)) Bv0 rdv) (hr.mono (by decide)) hg (pg_name (i := 3) nd rfl (.inl rfl))
        (pss_cons (ps_expr (pe_bm PySem.F.plainAttrs_list PySem.F.slot_list_append PySem.F.type_list_append mt_append (pv 5) (pa_cons (pe_tup (pa_cons (pv 3) (pa_cons
          (GW.pe_lcR (c := 2) rfl (by decide) (i := 6) (j := 4) (own := [("_law_other", 6), ("_law_k", 4)]) rfl nd (GW.pgw_meth (pv 0) T.o.cl (T.me (by decide +kernel)) Fw (hr.mono (by decide)) Bw (Fg := fun H1 Hn => Hn = GW.noT H1) GW.forg_noT (pa_cons (pe_ix ix_list (pv 1) pe_int (fun _ _ => rfl)) pa_nil)) (hr.mono (by decide)) hg
            (blkOk_by (N := n__law_far_right) (sc := defScope s__law_far_right) (by decide +kernel)) (by rfl) (T.z "zip" (by decide +kernel)) (by rfl) zg rfl (by decide) rfl rfl (by decide) rfl (by decide) (by decide)) pa_nil))) pa_nil)))
        (pss_one (ps_if (pt_cmpR op_eq (pe_callB call_len_seq (by rfl) zl bl (pa_cons (pv 5) pa_nil)) pe_int (nomark _)) (pss_one ps_break) pss_nil))))
      (pss_one (ps_ret (pe_cmpR (op_eqO T.sm hu) (pv 5)
        (pe_lc (own := [("_law_k", 4)]) (g := gName 4) (tt := tYes) rfl nd (pi_range1 (by rfl) zg (pa_cons pe_int pa_nil)) (blkOk_by (N := n__law_far_right) (sc := defScope s__law_far_right) (by decide +kernel)) (fun _ _ _ _ _ => pg_name (i := 4) nd rfl (Or.inl rfl)) (fun _ _ _ _ _ => pts_nil)
          (fun _ _ _ _ _ => pe_tup (pa_cons (pe_ix (r := rIxL K) ix_list (pv 1) (pv 4) (fun _ _ => rfl)) (pa_cons (pe_slice (r := rSlL K) sl_list (pv 1) (po_some pe_int) (po_some pe_int)) pa_nil)))) (nomark _)))))))), ?_⟩
    have ok := at_.ok
    obtain ⟨dx, dc, fw, ho, _⟩ := id at_.ex
    refine ⟨_, rfl, o, dx, _, rfl, ho, o, L, rfl, at_, fun c H1 hla hc s1 => ?_⟩
    have e160 : (⟨(List.replicate (160 : Int).toNat (S [c]).cps).foldl (· ++ ·) #[]⟩ : Str) = S (List.replicate 160 c) := mul_S c 160
    obtain ⟨l, hl⟩ : ∃ l, l = List.replicate 160 c := ⟨_, rfl⟩
    have ll : l.length = 160 := by rw [hl, List.length_replicate]
    have lov : ∀ x ∈ l, x ∈ L.map (·.1) := fun x hx => by
      rw [hl] at hx
      rw [(List.mem_replicate.mp hx).2]
      exact hc
    have hw : WOk L l := ⟨lov, Nat.le_of_eq ll⟩
    have pl : (160 : Int) ≤ plc L l := len_plc ok 160 l ll lov
    refine ⟨S [c], 160, rfl, rfl, by rw [S_len]; exact (by decide : 1 ≤ 1000), by rw [S_len]; exact (by decide : 0 < 1), by decide, by decide, by rw [e160, ← hl, S_len, ll]; exact sl_of (by decide), ?_⟩
    rw [e160, ← hl]
    clear hl e160
    have at1 := at_.same s1
    have hdu1 := s1 _ _ hdu
    obtain ⟨dx1, dc1, fw1, ho1, _⟩ := id at1.ex
    have e0 : ([V.ref o, V.str "", vS l] : List V) = [.ref o, vS (F.getD 0 []), vS l] := by rw [fo_nil ok fo]; rfl
    have at1n := at1.nt nt_noT
    refine ⟨fun m => vS (F.getD m []), _, rfl, o, dx1, _, rfl, ho1, lk_none (by decide +kernel), _, rfl, GW.noT H1, rfl, ⟨o, L, fun m => F.getD m [], l, fun _ => True, e0, at1n, fo_wok ok fo (by decide), hw, by decide, ?_, trivial, fun m hm _ => ?_, fun m hm z => ?_, fun m r hm _ hn => ⟨fo_next ok fo (by omega) hn, trivial⟩, fun ys hy => rfl⟩, fun D nD => ?_⟩
    · show befW L l (F.getD 0 []) = false
      rw [bef_plc ok lov (fo_over ok fo (by decide)), fo_plc ok fo (by decide)]
      refine decide_eq_false ?_
      have : ((0 : Nat) : Int) = 0 := rfl
      omega
    · have h1 := fo_len ok fo (m := m) (by omega)
      exact ⟨fo_over ok fo (by omega), Nat.le_trans h1 (by omega)⟩
    · have h1 := fo_len ok fo (m := m) (by omega)
      have h2 := congrArg Str.length z
      rw [S_len, S_len, ll] at h2
      dsimp only at h2
      omega
    have sD := same_up (o := .lst ((List.range 3).map fun m => vS (F.getD m []))) nD
    have hD := upd_same (H := GW.noT H1) (a := D) (o := .lst ((List.range 3).map fun m => vS (F.getD m [])))
    have n2 : NT H (upd (GW.noT H1) D (.lst ((List.range 3).map fun m => vS (F.getD m [])))) := ((nt_same s1).trans nt_noT).trans (nt_same sD)
    generalize upd (GW.noT H1) D (.lst ((List.range 3).map fun m => vS (F.getD m []))) = H2 at sD hD n2 ⊢
    have lst2 : ∀ {H' : Hp}, NT H H' → H' du = some (.lst (F.map vS)) := fun n => n _ _ hdu fun _ z => by cases z
    have e3 : cutV (F.map vS) none (some 3) = (List.range 3).map fun m => vS (F.getD m []) := fo_cut0 ok fo (b := 3) (by decide)
    refine ⟨_, rfl, 3, rfl, du, _, rfl, SqL.of (lst2 n2), fun p np => ?_⟩
    rw [e3]
    have sp := same_up (o := .lst ((List.range 3).map fun m => vS (F.getD m []))) np
    obtain ⟨d, d1, d2, d3, d4⟩ := same_words (K := K) ok (fun m => F.getD m []) 3 (fun m hm => fo_over ok fo (by omega)) (sp _ _ hD) (upd_same (H := H2) (a := p))
    refine ⟨d, d, d1, d2, d3, d3, _, rfl, ?_⟩
    rw [d4]
    refine ifF rfl ?_
    have n3 := n2.trans (nt_same sp)
    clear d1 d2 d3 d4 sD hD n2
    generalize upd H2 p (.lst ((List.range 3).map fun m => vS (F.getD m []))) = H3 at sp n3 ⊢
    have at3 := at_.nt n3
    obtain ⟨dx3, dc3, fw3, ho3, _⟩ := id at3.ex
    obtain ⟨f, f0, fl, fn_, f1⟩ := three_words ok hw
    refine ⟨fun m => vS (f m), _, rfl, o, dx3, _, rfl, ho3, lk_none (by decide +kernel), _, rfl, GW.noT H3, rfl, ⟨o, L, l, f, fun _ => True, rfl, at3.nt nt_noT, hw, by decide, f0, trivial, fun m hm _ => fl m hm, fun m r hm _ hn => ⟨fn_ m r hm hn, trivial⟩, fun ys hy _ => rfl⟩, fun D4 nD4 => ?_⟩
    have sD4 := same_up (o := .lst ((List.range 2).map fun m => vS (f m))) nD4
    have hD4 := upd_same (H := GW.noT H3) (a := D4) (o := .lst ((List.range 2).map fun m => vS (f m)))
    have n4 := (n3.trans nt_noT).trans (nt_same sD4)
    generalize upd (GW.noT H3) D4 (.lst ((List.range 2).map fun m => vS (f m))) = H4 at sD4 hD4 n4 ⊢
    have at4 := at_.nt n4
    obtain ⟨dx4, dc4, fw4, ho4, _⟩ := id at4.ex
    refine ⟨_, rfl, _, rfl, o, OC K, dx4, _, rfl, ho4, T.o.cl, T.me (by decide +kernel), lk_none (by decide +kernel), _, rfl, o, L, l, rfl, at4, hw, fun v H5 hv l15 hp s5 => ⟨by show 2 ≤ sizeLine; decide, fun l2 nl2 => ?_⟩⟩
    have ev : v = f 1 := plc_inj ok hv (fl 1 (by decide)).1 (by rw [hp, f1])
    have ew : ([vS l, vS v] : List V) = (List.range 2).map fun m => vS (f m) := by
      rw [ev, ← f0]
      rfl
    rw [ew]
    have s6 := same_up (o := .lst ((List.range 2).map fun m => vS (f m))) nl2
    obtain ⟨d, d1, d2, d3, d4⟩ := same_words (K := K) ok f 2 (fun m hm => (fl m (by omega)).1) (s6 _ _ (s5 _ _ hD4)) (upd_same (H := H5) (a := l2))
    refine ⟨d, d, d1, d2, d3, d3, _, rfl, ?_⟩
    rw [d4]
    refine ifF rfl ?_
    have n6 := (n4.trans (nt_same s5)).trans (nt_same s6)
    clear d1 d2 d3 d4 sD4 hD4 n4 s5 nl2 n3 sp
    generalize upd H5 l2 (.lst ((List.range 2).map fun m => vS (f m))) = H6 at s6 n6 ⊢
    clear s6
    refine ⟨by show 0 ≤ sizeLine; decide, fun bo nbo => ?_⟩
    have s7 := same_up (o := .lst []) nbo
    have hbo := upd_same (H := H6) (a := bo) (o := .lst [])
    have n7 := n6.trans (nt_same s7)
    generalize upd H6 bo (.lst []) = H7 at s7 hbo n7 ⊢
    have at7 := at_.nt n7
    obtain ⟨dx7, dc7, fw7, ho7, _⟩ := id at7.ex
    have nob : ∀ {b : Addr} {u : HO}, H6 b = some u → b ∉ [bo] := fun e z => by
      rw [List.mem_singleton.mp z, nbo] at e
      cases e
    have dr : ∀ {b : Addr} {u : HO}, H6 b = some u → (∀ kvs, u ≠ .dT kvs) → GW.drop [bo] (GW.noT H7) b = some u := fun e t => GW.drop_of (GW.noT_of (s7 _ _ e) t) (nob e)
    have at6 := at_.nt n6
    have atN : OrdAt K (GW.drop [bo] (GW.noT H7)) o L := by
      obtain ⟨dx6, dc6, fw6, ho6, dk6, fk6⟩ := id at6.ex
      exact ⟨ok, dx6, dc6, fw6, dr ho6 (by intro _ z; cases z), dr dk6 (by intro _ z; cases z), dr fk6 (by intro _ z; cases z)⟩
    have duN : GW.drop [bo] (GW.noT H7) du = some (.lst (F.map vS)) := dr (lst2 n6) (by intro _ z; cases z)
    have boN : GW.drop [bo] (GW.noT H7) bo = none := by
      unfold GW.drop
      rw [if_pos (List.mem_singleton.mpr rfl)]
    have ntN : ∀ b kvs, GW.drop [bo] (GW.noT H7) b ≠ some (.dT kvs) := fun b kvs e => GW.noT_no b kvs (GW.drop_some e).1
    have NTN : ∀ {H' : Hp}, GW.Gd (GW.drop [bo] (GW.noT H7)) H' → NT H H' := fun g b u e t => by
      refine g.sub _ _ ?_
      have e7 := n7 _ _ e t
      refine GW.drop_of (GW.noT_of e7 t) fun z => ?_
      rw [List.mem_singleton.mp z] at e
      have := n6 _ _ e t
      rw [nbo] at this
      cases this
    refine ⟨fun m => vS (F.getD m []), 5, fun m σ' Hc => ∃ (w3 : Option V) (ts : List Addr), σ' = [some (.ref o), some (.ref du), some (vS l), w3, none, some (.ref bo), none] ∧ ts.length = m ∧ Hc bo = some (.lst (ts.map V.ref)) ∧ ∀ i t, ts[i]? = some t → PairAt Hc F i t, by decide, _, rfl, o, dx7, _, rfl, ho7, lk_none (by decide +kernel), [bo], fun b hb u e => ?_, ⟨o, L, [], fun m => F.getD m [], fun _ => True, rfl, atN, ⟨fun c h => (by cases h), by decide⟩, by decide, fo_nil ok fo, trivial, fun m hm _ => ?_, fun m r hm _ hn => ⟨fo_next ok fo (by omega) hn, trivial⟩, fun ys hy _ => rfl⟩, ⟨none, [], rfl, rfl, GW.noT_of hbo (by intro _ z; cases z), fun i t h => by simp at h⟩, fun m σ' Hc hm gd V => ?_⟩
    · rw [List.mem_singleton.mp hb, GW.noT_of hbo (by intro _ z; cases z)] at e
      exact .inl ⟨_, (Option.some.inj e).symm⟩
    · have h1 := fo_len ok fo (m := m) (by omega)
      exact ⟨fo_over ok fo (by omega), Nat.le_trans h1 (by omega)⟩
    obtain ⟨w3, ts, rfl, tl, hb, hts⟩ := V
    have atc := OrdAt.nt (K := K) (L := L) atN (nt_same fun b u e => gd.sub b u e)
    have duc := gd.sub _ _ duN
    have ntc := gd_nt gd ntN
    have idc := noT_id ntc
    obtain ⟨dxc, dcc, fwc, hoc, _⟩ := id atc.ex
    have du3 : atI (F.map vS) 3 = some (vS (F.getD 3 [])) := by
      have h := fo_get ok fo (m := 3) (by decide)
      exact atI_nat (j := 3) (by rw [List.getElem?_map, h]; rfl)
    refine ⟨_, rfl, .inl ⟨rfl, _, SqL.of hb⟩, _, rfl, fun m => vS (F.getD (3 + m) []), _, rfl, o, dxc, _, rfl, hoc, lk_none (by decide +kernel), _, rfl, du, _, _, _, rfl, rfl, SqL.of duc, du3, GW.noT Hc, rfl, ⟨o, L, F.getD 3 [], fun m => F.getD (3 + m) [], fun _ => True, rfl, atc.nt nt_noT, fo_wok ok fo (by decide), by decide, rfl, trivial, fun k hk _ => ?_, fun k r hk _ hn => ⟨fo_next ok fo (m := 3 + k) (by omega) hn, trivial⟩, fun ys hy _ => rfl⟩, fun q2 nq => ⟨by show 2 ≤ sizeLine; decide, fun t nt => ?_⟩⟩
    · have h1 := fo_len ok fo (m := 3 + k) (by omega)
      exact ⟨fo_over ok fo (by omega), Nat.le_trans h1 (by omega)⟩
    rw [idc] at nq nt ⊢
    have sq := same_up (o := .lst ((List.range 2).map fun m => vS (F.getD (3 + m) []))) nq
    have hq := upd_same (H := Hc) (a := q2) (o := .lst ((List.range 2).map fun m => vS (F.getD (3 + m) [])))
    have gq := gd_up gd (gd_none gd nq) (o := .lst ((List.range 2).map fun m => vS (F.getD (3 + m) []))) (.inl ⟨_, rfl⟩)
    generalize upd Hc q2 (.lst ((List.range 2).map fun m => vS (F.getD (3 + m) []))) = Hq at sq hq gq nt ⊢
    have st := same_up (o := .tup [vS (F.getD m []), .ref q2]) nt
    have ht := upd_same (H := Hq) (a := t) (o := .tup [vS (F.getD m []), .ref q2])
    have gt := gd_up gq (gd_none gq nt) (o := .tup [vS (F.getD m []), .ref q2]) (.inr (.inl ⟨_, rfl⟩))
    have tb : t ≠ bo := (ne_of_none (sq _ _ hb) nt).symm
    have qb : q2 ≠ bo := (ne_of_none hb nq).symm
    have hb2 := st _ _ (sq _ _ hb)
    have sct := sq.trans st
    have hq2 := st _ _ hq
    generalize upd Hq t (.tup [vS (F.getD m []), .ref q2]) = Ht at st ht gt hb2 sct hq2 ⊢
    refine ⟨bo, _, .ref t, rfl, rfl, hb2, by rw [List.length_map, tl, sizeLine_eq]; omega, ?_⟩
    have gb := gd_up gt boN (o := .lst (ts.map V.ref ++ [V.ref t])) (.inl ⟨_, rfl⟩)
    have hb3 := upd_same (H := Ht) (a := bo) (o := .lst (ts.map V.ref ++ [V.ref t]))
    have ub : ∀ c u, Ht c = some u → c ≠ bo → upd Ht bo (.lst (ts.map V.ref ++ [V.ref t])) c = some u := fun c u e n => by
      rw [upd_ne n]
      exact e
    have V5 : (ts ++ [t]).length = m + 1 ∧ upd Ht bo (.lst (ts.map V.ref ++ [V.ref t])) bo = some (.lst ((ts ++ [t]).map V.ref)) ∧ ∀ i u, (ts ++ [t])[i]? = some u → PairAt (upd Ht bo (.lst (ts.map V.ref ++ [V.ref t]))) F i u := by
      refine ⟨by rw [List.length_append, tl]; rfl, by rw [hb3, List.map_append]; rfl, fun i u h => ?_⟩
      rcases Nat.lt_or_ge i ts.length with hi | hi
      · rw [List.getElem?_append_left hi] at h
        exact (hts i u h).but hb (fo_ne3 ok fo) (fun x hx => by
          obtain ⟨r, _, rfl⟩ := List.mem_map.mp hx
          exact ⟨r, rfl⟩) fun c v e n => ub _ _ (sct _ _ e) n
      · rw [List.getElem?_append_right hi] at h
        have : i - ts.length = 0 := by
          cases e : i - ts.length with
          | zero => rfl
          | succ z => rw [e] at h; simp at h
        rw [this] at h
        obtain rfl : t = u := by simpa using h
        have : i = m := by omega
        subst this
        exact ⟨q2, ub _ _ ht tb, ub _ _ hq2 qb⟩
    generalize upd Ht bo (.lst (ts.map V.ref ++ [V.ref t])) = H5 at gb V5 ⊢
    clear hb3 ub ht gt hb2 sct hq2 gq hq sq nq nt st
    obtain ⟨v1, v2, v3⟩ := V5
    refine ⟨_, rfl, bo, _, rfl, .inl (SqL.of v2), ?_⟩
    refine ⟨rfl, _, rfl, ?_⟩
    rw [List.length_map, v1]
    by_cases h5 : m + 1 = 5
    rotate_left
    · exact ifF (by rw [iEq]; exact decide_eq_false (by omega)) ⟨by omega, gb, _, _, rfl, v1, v2, v3⟩
    refine ifT (by rw [iEq]; exact decide_eq_true (by omega)) ?_
    have n5 := NTN gb
    have du5 := lst2 n5
    obtain ⟨us, hus⟩ : ∃ us, us = ts ++ [t] := ⟨_, rfl⟩
    rw [← hus, h5] at v1
    rw [← hus] at v2 v3
    clear hus h5 gb
    refine ⟨_, rfl, ((5 : Nat) : Int), rfl, by decide, by decide, fun D5 nD5 => ?_⟩
    have e35 : cutV (F.map vS) (some 3) (some 5) = (List.range 2).map fun m => vS (F.getD (3 + m) []) := fo_cut ok fo (a := 3) (b := 5) (by decide) (by decide)
    refine lc_it (te := tTup (tCons (tOp (rIxL K) (tVar 1) (tVar 4)) (tCons (tSl (rSlL K) (tVar 1) (tPart (tC (V.int 3))) (tPart (tC (V.int 5)))) tNil))) (g := gName 4) (tt := tYes) (wk_range (n := 5))
      (fun j H' => ∃ ws : List Addr, ws.length = j ∧ H' D5 = some (.lst (ws.map V.ref)) ∧ (∀ i u, ws[i]? = some u → PairAt H' F i u) ∧ Same H5 H') ?_ (fun _ _ _ _ => trivial) ?_ ?_
    · exact ⟨[], rfl, upd_same, fun i u h => by simp at h, same_up nD5⟩
    · rintro j x G G' hj ⟨ws, wl, hD, hws, sG⟩ ⟨rfl, rfl⟩
      refine ⟨rfl, ?_⟩
      unfold tYes
      dsimp only
      rw [if_pos rfl]
      have ej : atI (F.map vS) (0 + (j : Int)) = some (vS (F.getD j [])) := by
        rw [Int.zero_add]
        have h := fo_get ok fo (m := j) (by omega)
        exact atI_nat (by rw [List.getElem?_map, h]; rfl)
      refine ⟨_, rfl, _, rfl, du, _, _, _, rfl, rfl, SqL.of (sG _ _ du5), ej, _, rfl, 3, rfl, 5, rfl, du, _, rfl, SqL.of (sG _ _ du5), fun p np => ⟨by show 2 ≤ sizeLine; decide, fun u nu => ?_⟩⟩
      rw [e35] at nu ⊢
      have sp := same_up (o := .lst ((List.range 2).map fun m => vS (F.getD (3 + m) []))) np
      have hp := upd_same (H := G') (a := p) (o := .lst ((List.range 2).map fun m => vS (F.getD (3 + m) [])))
      generalize upd G' p (.lst ((List.range 2).map fun m => vS (F.getD (3 + m) []))) = Gp at sp hp nu ⊢
      have su := same_up (o := .tup [vS (F.getD j []), .ref p]) nu
      have hu' := upd_same (H := Gp) (a := u) (o := .tup [vS (F.getD j []), .ref p])
      have uD : u ≠ D5 := (ne_of_none (sp _ _ hD) nu).symm
      have pD : p ≠ D5 := (ne_of_none hD np).symm
      have hD2 := su _ _ (sp _ _ hD)
      have scu := sp.trans su
      have hp2 := su _ _ hp
      generalize upd Gp u (.tup [vS (F.getD j []), .ref p]) = Gu at su hu' hD2 scu hp2 ⊢
      refine ⟨_, hD2, by rw [List.length_map, wl, sizeLine_eq]; omega, ws ++ [u], by rw [List.length_append, wl]; rfl, by rw [upd_same, List.map_append]; rfl, fun i v h => ?_, fun b v e => ?_⟩
      · rcases Nat.lt_or_ge i ws.length with hi | hi
        · rw [List.getElem?_append_left hi] at h
          exact (hws i v h).but hD (fo_ne3 ok fo) (fun x hx => by
            obtain ⟨r, _, rfl⟩ := List.mem_map.mp hx
            exact ⟨r, rfl⟩) fun c v e n => by
              rw [upd_ne n]
              exact scu _ _ e
        · rw [List.getElem?_append_right hi] at h
          have : i - ws.length = 0 := by
            cases e : i - ws.length with
            | zero => rfl
            | succ z => rw [e] at h; simp at h
          rw [this] at h
          obtain rfl : u = v := by simpa using h
          have : i = j := by omega
          subst this
          refine ⟨p, ?_, ?_⟩
          · rw [upd_ne uD]
            exact hu'
          · rw [upd_ne pD]
            exact hp2
      · have : b ≠ D5 := ne_of_none e nD5
        rw [upd_ne this]
        exact scu _ _ (sG _ _ e)
    · rintro G ⟨ws, wl, hD, hws, sG⟩
      have dA : ∀ (xs : List Addr), xs.length = 5 → (∀ i u, xs[i]? = some u → PairAt G F i u) → DoAll K G (xs.map V.ref) ((List.range 5).map fun i => pd F (0 + i)) := fun xs hx hp => by
        have := pairs_do (K := K) xs 0 fun i u h => by
          rw [Nat.zero_add]
          exact hp i u h
        rw [hx] at this
        exact this
      have keepP : ∀ i u, us[i]? = some u → PairAt G F i u := fun i u h => by
        obtain ⟨q3, a1, a2⟩ := v3 i u h
        exact ⟨q3, sG _ _ a1, sG _ _ a2⟩
      refine ⟨_, _, .lst (SqL.of (sG _ _ v2)) (dA us v1 keepP), .lst (SqL.of hD) (dA ws wl hws), pairs_shaped ok fo, pairs_shaped ok fo, ?_⟩
      rw [pairs_eqv ok fo]
      exact q _ (n5.trans (nt_same sG))
end
end K10

namespace K10
open PySem PySem.Spec PyProof.Rows L2 Ver Num SX
theorem shown_words (us : List Wd) : PyData.shownAll (us.map fun u => PyData.str (S u)) = us.map fun u => reprText (S u) := by
  induction us with
  | nil => simp [PyData.shownAll]
  | cons u us ih => simp only [List.map_cons, PyData.shownAll, PyData.shown, ih]
theorem showable_words : ∀ us : List Wd, PyData.showableAll (us.map fun u => PyData.str (S u)) = true
  | [] => by simp [PyData.showableAll]
  | u :: us => by simp [PyData.showableAll, PyData.showable, showable_words us]
theorem sum_words : ∀ us : List Wd, (∀ u ∈ us, u.length ≤ 160 ∧ ∀ c ∈ u, c ≤ 122) → ((us.map fun u => reprText (S u)).map (·.length)).sum ≤ 1602 * us.length
  | [], _ => Nat.le_refl _
  | u :: us, h => by
    obtain ⟨h1, h2⟩ := h u List.mem_cons_self
    have a := PySem.StrLaws.reprText_len (S u) fun c hc => by
      rw [chars_S] at hc
      exact Nat.lt_of_le_of_lt (h2 c hc) (by decide)
    rw [S_len u] at a
    have b := sum_words us fun v hv => h v (List.mem_cons_of_mem _ hv)
    simp only [List.map_cons, List.sum_cons, List.length_cons] at b ⊢
    omega
theorem show_words {us : List Wd} (few : us.length ≤ 200) (h : ∀ u ∈ us, u.length ≤ 160 ∧ ∀ c ∈ u, c ≤ 122) : (PyData.list (us.map fun u => PyData.str (S u))).showable = true ∧ (PyData.list (us.map fun u => PyData.str (S u))).shown.length ≤ sizeLine ∧ (PyData.list (us.map fun u => PyData.str (S u))).depth ≤ 60 := by
  have hd := depth_words us
  refine ⟨by simp [PyData.showable, showable_words us], ?_, by simp only [PyData.depth]; omega⟩
  simp only [PyData.shown]
  rw [shown_words, sizeLine_eq]
  have a := listText_len_le (us.map fun u => reprText (S u))
  have b := sum_words us h
  rw [List.length_map] at a
  omega
/-! ### how many words of a cost -/
theorem count_range {a b : Nat} (hab : a ≤ b) : ∀ n : Nat, ((List.range n).filter fun m => decide (a ≤ m ∧ m < b)).length = min n b - min n a
  | 0 => by simp
  | n + 1 => by
    rw [List.range_succ, List.filter_append, List.length_append, count_range hab n, List.filter_cons, List.filter_nil]
    by_cases h : a ≤ n ∧ n < b
    · rw [if_pos (decide_eq_true h), List.length_singleton]
      omega
    · rw [if_neg (by rw [decide_eq_false h]; exact Bool.false_ne_true), List.length_nil]
      omega
section
variable {L : LC} (ok : LOk L) {F : List Wd} (fo : FirstOk L F)
include ok fo
theorem fo_map {α : Type} (f : Wd → α) : F.map f = (List.range 60).map fun m => f (F.getD m []) := by
  have hl := fo.len
  refine List.ext_getElem? fun i => ?_
  by_cases hi : i < 60
  · rw [List.getElem?_map, fo_get ok fo hi, List.getElem?_map, List.getElem?_range hi]
    rfl
  · rw [List.getElem?_eq_none (by rw [List.length_map]; omega), List.getElem?_eq_none (by rw [List.length_map, List.length_range]; omega)]
theorem count_cost {c : Nat} (h : (c : Int) < costW L (F.getD 59 [])) : ((List.count (c : Int) (F.map (costW L)) : Nat) : Int) = cN L c := by
  have b59 := (plc_bd ok _ (fo_over ok fo (m := 59) (by decide))).1
  rw [fo_plc ok fo (by decide)] at b59
  have hs := toN_succ (L := L) c
  have h0 := (toN_bd ok c).1
  have hm := toN_mono ok (show c ≤ c + 1 by omega)
  have hm2 := toN_mono ok (show c + 1 ≤ (costW L (F.getD 59 [])).toNat by omega)
  obtain ⟨A, hA⟩ : ∃ A : Nat, toN L c = (A : Int) := ⟨(toN L c).toNat, by omega⟩
  obtain ⟨B, hB⟩ : ∃ B : Nat, toN L (c + 1) = (B : Int) := ⟨(toN L (c + 1)).toNat, by omega⟩
  have key : ∀ m, m < 60 → (costW L (F.getD m []) = (c : Int) ↔ A ≤ m ∧ m < B) := fun m hm => by
    have hb := plc_bd ok _ (fo_over ok fo hm)
    rw [fo_plc ok fo hm] at hb
    have hg := cost_ge ok (F.getD m [])
    constructor
    · intro e
      rw [e, Int.toNat_natCast] at hb
      omega
    · intro ⟨h1, h2⟩
      rcases Int.lt_trichotomy (costW L (F.getD m [])) (c : Int) with z | z | z
      · have := toN_mono ok (show (costW L (F.getD m [])).toNat + 1 ≤ c by omega)
        omega
      · exact z
      · have := toN_mono ok (show c + 1 ≤ (costW L (F.getD m [])).toNat by omega)
        omega
  rw [fo_map ok fo, List.count_eq_countP, List.countP_map, List.countP_eq_length_filter]
  have e : (List.range 60).filter ((fun x => x == (c : Int)) ∘ fun m => costW L (F.getD m [])) = (List.range 60).filter fun m => decide (A ≤ m ∧ m < B) := by
    refine List.filter_congr fun m hm => ?_
    have := key m (List.mem_range.mp hm)
    show (costW L (F.getD m []) == (c : Int)) = _
    by_cases h : A ≤ m ∧ m < B
    · rw [this.mpr h, decide_eq_true h]
      exact beq_self_eq_true _
    · rw [decide_eq_false h]
      exact beq_eq_false_iff_ne.mpr fun z => h (this.mp z)
  rw [e, count_range (by omega) 60]
  have hp : toN L (costW L (F.getD 59 [])).toNat ≤ 59 := b59
  omega
end
section
variable {P : Program} {w : World} {K : PySem.W.Frag} {mg : Str → Option Value} {base : Heap}
/-! ### Order.count_words -/
def spCount (K : PySem.W.Frag) : Sp := fun vs H Q _ => ∃ (o : Addr) (L : LC) (c : Nat), vs = [.ref o, .int (c : Int)] ∧ OrdAt K H o L ∧ c ≤ 1000 ∧ ∀ H', Same H H' → Q (.int (cN L c)) H'
theorem ok_count (T : Tx K mg) : FnG P w K mg base CX0 4 (He.ma K (OC K) "count_words") (spCount K) := by
  refine mk_Order_count_words T.d (fun vs H Q E h => ?_) (fun cdv A outer s H vs Q E hg hr h => ?_)
  · obtain ⟨o, L, c, rfl, _⟩ := h
    rfl
  · obtain ⟨o, L, c, rfl, at_, c9, q⟩ := h
    have nd := sc_Order_count_words.nd
    obtain ⟨tg, gg⟩ := T.gn
    refine ⟨_, pss_cons (ps_if (pt_not (pt_val (pe_callG (ok_is_between T) (hr.mono (by decide)) hg (by rfl) (T.g "is_between" (by decide +kernel)) (kp_is_between T.d) pass0 (pa_cons (pv 1) (pa_cons pe_int (pa_cons (pe_glob (v := .int 1000) (by rfl) gg ⟨_, rfl⟩) pa_nil)))))) pss_never pss_nil)
      (pss_one (ps_ret (pe_ix ix_list (pe_methG (pv 0) (kp_Order__counts T.d) (ok_counts T) hr hg pass0 (pa_cons (pv 1) pa_nil)) (pv 1) (fun _ _ => rfl)))), ?_⟩
    refine ⟨_, rfl, .int (c : Int), .int (c : Int), 0, 1000, rfl, .int _, ?_⟩
    have e : btw 0 1000 (.int (c : Int)) = true := by
      show (decide ((0 : Int) ≤ (c : Int)) && decide ((c : Int) ≤ 1000)) = true
      rw [decide_eq_true (by omega : (0 : Int) ≤ (c : Int)), decide_eq_true (by omega : (c : Int) ≤ 1000)]
      rfl
    rw [e]
    refine ⟨_, rfl, ifF rfl ?_⟩
    obtain ⟨dx, dc, fw, ho, _⟩ := id at_.ex
    refine ⟨_, rfl, o, OC K, dx, _, rfl, ho, T.o.cl, T.me (by decide +kernel), lk_none (by decide +kernel), _, rfl, o, L, c, rfl, at_, by omega, fun p H' s1 hp np => ⟨_, rfl, p, _, _, _, rfl, rfl, SqL.of hp, atI_nat (v := .int (cN L c)) ?_, q H' s1⟩⟩
    have hl : c < (cntL (L.map (·.2)) (c + 1)).length := by rw [cntL_len]; omega
    rw [List.getElem?_map, List.getElem?_eq_getElem hl]
    unfold cN
    rw [List.getD_eq_getElem?_getD, List.getElem?_eq_getElem hl]
    rfl
end
end K10

namespace K10
open PySem PySem.Spec PyProof.Rows L2 Ver Num SX
section
variable {L : LC} (ok : LOk L) {F : List Wd} (fo : FirstOk L F)
include ok fo
theorem fo_cutG {a b : Nat} (ha : a ≤ 60) (hb : b ≤ 60) : cutV (F.map vS) (some (a : Int)) (some (b : Int)) = (List.range (b - a)).map fun m => vS (F.getD (a + m) []) := by
  unfold cutV
  have hl := fo.len
  rw [HT.sIx_nat, HT.sIx_nat, List.length_map, hl, Nat.min_eq_left (by omega), Nat.min_eq_left (by omega)]
  refine List.ext_getElem? fun i => ?_
  rw [List.getElem?_take]
  by_cases hi : i < b - a
  · rw [if_pos hi, List.getElem?_drop, List.getElem?_map, List.getElem?_map, List.getElem?_range hi, fo_get ok fo (by omega)]
    rfl
  · rw [if_neg hi, List.getElem?_map, List.getElem?_eq_none (by rw [List.length_range]; omega)]
    rfl
end
theorem ne_words {K : PySem.W.Frag} {H : Hp} {L : LC} (ok : LOk L) {a b : Addr} (f : Nat → Wd) (n : Nat) {Q : VK} (hf : ∀ m, m < n → ∀ c ∈ f m, c ∈ L.map (·.1)) (ha : H a = some (.lst ((List.range n).map fun m => vS (f m)))) (hb : H b = some (.lst ((List.range n).map fun m => vS (f m)))) (q : Q (.bl false) H) : rNeO K (.ref a) (.ref b) H Q := by
  obtain ⟨d, d1, d2, d3, d4⟩ := same_words (K := K) ok f n hf ha hb
  exact ⟨d, d, d1, d2, d3, d3, by rw [d4]; exact q⟩
section
variable {P : Program} {w : World} {K : PySem.W.Frag} {mg : Str → Option Value} {base : Heap}
theorem ok_words0 (T : Tx K mg) : ∃ fd, GW.GFw P w K mg base 4 (He.ma K (OC K) "words") fd ["self", "word"] (spWords K) ∧ ∃ ds, Vals [V.str ""] ds ∧ Binds K fd ["self", "word"] ds := by
  obtain ⟨fd, F⟩ := T.d.def_ 31 (d := d_Order_words) rfl
  obtain ⟨oc, od, dV, kV, doc, pm, an, cdv, ct, osl, e, lk, hcd, _⟩ := id F.ex
  refine ⟨fd, ?_, by
    obtain ⟨ds, r, b⟩ := F.binds1 (ps := ["self", "word"]) 1 0 (by intro z; cases z) rfl (fun T kV doc pm an cdv ct us its h1 h2 => match us, its, h1, h2 with | [_], [_], _, _ => ⟨_, rfl, rfl⟩)
    exact ⟨ds, r, b⟩⟩
  subst e
  refine GW.gfw_of lk hcd sc_Order_words (fun vs H It M Q E h => ?_) (fun A outer s H vs It M Q E pn g hg _ _ hr h => ?_)
  · obtain ⟨o, L, u, f, G, rfl, _⟩ := h
    rfl
  · obtain ⟨o, L, u, f, G, rfl, at_, hw, hN1, hf0, hG0, hfm, hst, hit⟩ := h
    have nd := sc_Order_words.nd
    refine ⟨_, GW.gws_cons (GW.gw_ps fun h0 => ps_expr (pe_methG (pv 0) (kp_Order__check T.d) (ok_check T) (hr.mono (by decide)) hg pass0 (pa_cons (pv 1) pa_nil)))
      (GW.gws_cons (GW.gw_while (fun h0 => GW.owns_gx (K := K) (mg := mg) (base := base) (N := n_Order_words) h0) (fun h0 => pt_val pe_bl)
        (GW.gws_cons (GW.gw_yield fun h0 => pv 1)
        (GW.gws_cons (GW.gw_ps fun h0 => ps_set (i := 1) nd rfl (Or.inl rfl) (pe_methG (pv 0) (kp_Order__neighbour T.d) (ok_nei T) hr hg pass0 (pa_cons (pv 1) (pa_cons (pe_fld (pv 0) rfl) (pa_cons pe_int pa_nil))))) GW.gws_nil)))
      GW.gws_nil), ?_⟩
    obtain ⟨dx, dc, fw, ho, _⟩ := id at_.ex
    have ok := at_.ok
    refine fun h0 => ⟨_, rfl, o, OC K, dx, _, rfl, ho, T.o.cl, T.me (by decide +kernel), lk_none (by decide +kernel), _, rfl, o, L, [u], rfl, at_, by show 1 ≤ 100; decide, fun v hv => ?_, fun H1 s1 => ?_⟩
    · obtain rfl : v = u := by simpa using hv
      exact hw
    refine ⟨fun m ys σ' H' => m + ys.length = M ∧ 1 ≤ m ∧ G ys.length ∧ Same H H' ∧ σ' = [some (.ref o), some (vS (f ys.length))], ⟨M, Nat.add_zero _, hN1, hG0, s1, by rw [List.length_nil, hf0]; rfl⟩, fun m ys σ' H' hV h1 => ?_⟩
    obtain ⟨v1, v2, vG, v3, rfl⟩ := hV
    refine ⟨true, rfl, ?_⟩
    refine yes_t ?_
    refine ⟨fun ys' σ'' H'' => 1 ≤ m - 1 ∧ m - 1 + ys'.length = M ∧ G ys'.length ∧ Same H H'' ∧ σ'' = [some (.ref o), some (vS (f ys'.length))], fun ys' σ'' H'' q => ⟨m - 1, by omega, q.2.1, q.1, q.2.2.1, q.2.2.2.1, q.2.2.2.2⟩, ?_⟩
    have hlt : ys.length < M := by omega
    refine ⟨hlt, fun h2 => ⟨_, rfl, v3, hit ys hlt vG, fun hm => ?_⟩⟩
    obtain ⟨w1, w2⟩ := hfm ys.length hlt vG
    refine fun h3 => ⟨_, rfl, o, OC K, dx, _, rfl, ho, T.o.cl, T.me (by decide +kernel), lk_none (by decide +kernel), _, rfl, _, rfl, o, _, dx, _, _, rfl, ho, T.o.cl, T.o.na _ (by decide +kernel), rfl, o, L, f ys.length, L.map (·.1), 1, rfl, at_, fun c => Iff.rfl, asc_nodup ok.asc, w1, w2, .inl rfl, fun r H2 hr2 s2 => ?_⟩
    obtain ⟨e1, e2⟩ := hst ys.length r (by omega) vG hr2
    rw [e1]
    refine ⟨by omega, by rw [List.length_append, List.length_singleton]; omega, by rw [List.length_append, List.length_singleton]; exact e2, s2, ?_⟩
    rw [List.length_append, List.length_singleton]
    rfl
def spSpreadX (K : PySem.W.Frag) : GW.SpW := fun vs H It N Q E => spSpread K vs H It N Q E ∨ spSpreadB K vs H It N Q E
theorem ok_spreadX (T : Tx K mg) : ∃ fd, GW.GFw P w K mg base 6 (He.ma K (OC K) "spread") fd ["self", "first", "last"] (spSpreadX K) ∧ Binds K fd ["self", "first", "last"] [] := by
  obtain ⟨fdw, Fw, Bw⟩ := ok_words (P := P) (w := w) (base := base) T
  refine mkg_Order_spread T.d (fun vs H It M Q E h => ?_) (fun cdv A outer s H vs It M Q E pn g hg hnT hok hr h => ?_)
  · rcases h with ⟨o, L, f, T, G, rfl, _⟩ | ⟨o, L, u, v, rfl, _⟩
    · rfl
    · rfl
  · rcases h with h | h
    · obtain ⟨o, L, f, t, G, rfl, at_, hw0, hwT, hN, hbf, hG0, hfm, hne, hst, hit, hQ⟩ := h
      have nd := sc_Order_spread.nd
      have hu := hr.units
      refine ⟨_, GW.gws_cons (GW.gw_ps fun h0 => ps_expr (pe_methG (pv 0) (kp_Order__check T.d) (ok_check T) (hr.mono (by decide)) hg pass0 (pa_cons (pv 1) (pa_cons (pv 2) pa_nil))))
        (GW.gws_cons (GW.gw_ps fun h0 => ps_if (pt_cmpR (op_ltD T.sm hu) (pe_methG (pv 0) (kp_Order_place_of T.d) (ok_place T) (hr.mono (by decide)) hg pass0 (pa_cons (pv 2) pa_nil)) (pe_methG (pv 0) (kp_Order_place_of T.d) (ok_place T) (hr.mono (by decide)) hg pass0 (pa_cons (pv 1) pa_nil)) (nomark _)) (pss_one ps_retN) pss_nil)
        (GW.gws_cons (GW.gw_forY (i := 3) (j := 2) (fun h0 => GW.pgw_meth (pv 0) T.o.cl (T.me (by decide +kernel)) Fw (hr.mono (by decide)) Bw (Fg := fun H1 Hn => Hn = H ∧ Same H H1) (fun pins σ Ha Hn s' I e => ?_) (pa_cons (pv 1) pa_nil)) hr hg nd rfl rfl (by decide) rfl rfl rfl rfl (fun g' hg' => hg'))
        GW.gws_nil)), ?_⟩
      · obtain ⟨e1, e2⟩ := e
        subst e1
        exact ⟨GW.forget2 hnT ⟨_, hok⟩ I e2, hnT⟩
      obtain ⟨dx, dc, fw, ho, _⟩ := id at_.ex
      refine fun h0 => ⟨_, rfl, o, OC K, dx, _, rfl, ho, T.o.cl, T.me (by decide +kernel), lk_none (by decide +kernel), _, rfl, _, rfl, o, L, [f 0, f t], rfl, at_, by show 2 ≤ 100; decide, fun x hx => ?_, fun H1 s1 => fun h1 => ?_⟩
      · simp only [List.mem_cons, List.not_mem_nil, or_false] at hx
        rcases hx with rfl | rfl
        · exact hw0
        · exact hwT
      have at1 := at_.same s1
      obtain ⟨dx1, dc1, fw1, ho1, _⟩ := id at1.ex
      refine ⟨_, rfl, o, OC K, dx1, _, rfl, ho1, T.o.cl, T.me (by decide +kernel), lk_none (by decide +kernel), _, rfl, o, L, f t, rfl, at1, hwT, fun p H2 s2 hp np => ?_⟩
      have at2 := at1.same s2
      obtain ⟨dx2, dc2, fw2, ho2, _⟩ := id at2.ex
      refine ⟨_, rfl, o, OC K, dx2, _, rfl, ho2, T.o.cl, T.me (by decide +kernel), lk_none (by decide +kernel), _, rfl, o, L, f 0, rfl, at2, hw0, fun p2 H3 s3 hp2 np2 => ?_⟩
      refine ⟨placeD L (f t), placeD L (f 0), .tup (SqT.of (s3 _ _ hp)) (.cons (.int _) (.cons (.str _) .nil)), .tup (SqT.of hp2) (.cons (.int _) (.cons (.str _) .nil)), by simp [PySem.W.alike, PySem.W.alikeAll], (fun z => by cases z), by simp [PyData.depth, PyData.depthAll], befW L (f t) (f 0), rfl, ?_⟩
      rw [hbf]
      have at3 := at2.same s3
      have s03 : Same H H3 := (s1.trans s2).trans s3
      obtain ⟨dx3, dc3, fw3, ho3, _⟩ := id at3.ex
      refine no_t ⟨fun m => S (f m), t + 1, S (f t), fun m ys => ys.length = m ∧ m ≤ t, Nat.le_add_left 1 t, fun h2 => ⟨_, rfl, o, dx3, _, rfl, ho3, lk_none (by decide +kernel), _, rfl, H, ⟨rfl, s03⟩, ⟨o, L, f 0, f, G, rfl, at_, hw0, Nat.le_add_left 1 t, rfl, hG0, fun m hm => hfm m (by omega), fun m r hm => hst m r (by omega), fun ys _ _ => rfl⟩, rfl⟩, rfl, ⟨rfl, Nat.zero_le _⟩, fun m ys hm => ?_⟩
      obtain ⟨rfl, hm⟩ := hm
      refine ⟨by omega, hit ys hm, fun hlt => ?_⟩
      by_cases q : S (f ys.length) = S (f t)
      · rw [if_pos q]
        have e : ys.length = t := by
          rcases Nat.lt_or_ge ys.length t with z | z
          · exact absurd q (hne _ z)
          · omega
        exact ⟨rfl, fun _ _ z => z, hQ _ (by rw [List.length_append, List.length_singleton, e])⟩
      · rw [if_neg q]
        have e : ys.length < t := by
          rcases Nat.lt_or_ge ys.length t with z | z
          · exact z
          · exact absurd (by rw [show ys.length = t by omega]) q
        exact ⟨by omega, by rw [List.length_append, List.length_singleton], by omega⟩
    · obtain ⟨o, L, u, v, rfl, at_, hw0, hwT, hbf, hQ⟩ := h
      have nd := sc_Order_spread.nd
      have hu := hr.units
      refine ⟨_, GW.gws_cons (GW.gw_ps fun h0 => ps_expr (pe_methG (pv 0) (kp_Order__check T.d) (ok_check T) (hr.mono (by decide)) hg pass0 (pa_cons (pv 1) (pa_cons (pv 2) pa_nil))))
        (GW.gws_cons (GW.gw_ps fun h0 => ps_if (pt_cmpR (op_ltD T.sm hu) (pe_methG (pv 0) (kp_Order_place_of T.d) (ok_place T) (hr.mono (by decide)) hg pass0 (pa_cons (pv 2) pa_nil)) (pe_methG (pv 0) (kp_Order_place_of T.d) (ok_place T) (hr.mono (by decide)) hg pass0 (pa_cons (pv 1) pa_nil)) (nomark _)) (pss_one ps_retN) pss_nil)
        (GW.gws_cons (GW.gw_forY (i := 3) (j := 2) (fun h0 => GW.pgw_meth (pv 0) T.o.cl (T.me (by decide +kernel)) Fw (hr.mono (by decide)) Bw (Fg := fun H1 Hn => Hn = H ∧ Same H H1) (fun pins σ Ha Hn s' I e => ?_) (pa_cons (pv 1) pa_nil)) hr hg nd rfl rfl (by decide) rfl rfl rfl rfl (fun g' hg' => hg'))
        GW.gws_nil)), ?_⟩
      · obtain ⟨e1, e2⟩ := e
        subst e1
        exact ⟨GW.forget2 hnT ⟨_, hok⟩ I e2, hnT⟩
      obtain ⟨dx, dc, fw, ho, _⟩ := id at_.ex
      refine fun h0 => ⟨_, rfl, o, OC K, dx, _, rfl, ho, T.o.cl, T.me (by decide +kernel), lk_none (by decide +kernel), _, rfl, _, rfl, o, L, [u, v], rfl, at_, by show 2 ≤ 100; decide, fun x hx => ?_, fun H1 s1 => fun h1 => ?_⟩
      · simp only [List.mem_cons, List.not_mem_nil, or_false] at hx
        rcases hx with rfl | rfl
        · exact hw0
        · exact hwT
      have at1 := at_.same s1
      obtain ⟨dx1, dc1, fw1, ho1, _⟩ := id at1.ex
      refine ⟨_, rfl, o, OC K, dx1, _, rfl, ho1, T.o.cl, T.me (by decide +kernel), lk_none (by decide +kernel), _, rfl, o, L, v, rfl, at1, hwT, fun p H2 s2 hp np => ?_⟩
      have at2 := at1.same s2
      obtain ⟨dx2, dc2, fw2, ho2, _⟩ := id at2.ex
      refine ⟨_, rfl, o, OC K, dx2, _, rfl, ho2, T.o.cl, T.me (by decide +kernel), lk_none (by decide +kernel), _, rfl, o, L, u, rfl, at2, hw0, fun p2 H3 s3 hp2 np2 => ?_⟩
      refine ⟨placeD L (v), placeD L (u), .tup (SqT.of (s3 _ _ hp)) (.cons (.int _) (.cons (.str _) .nil)), .tup (SqT.of hp2) (.cons (.int _) (.cons (.str _) .nil)), by simp [PySem.W.alike, PySem.W.alikeAll], (fun z => by cases z), by simp [PyData.depth, PyData.depthAll], befW L (v) (u), rfl, ?_⟩
      rw [hbf]
      exact yes_t ⟨rfl, fun b x e => ((s1.trans s2).trans s3) b x e, hQ⟩
end
end K10

namespace K10
open PySem PySem.Spec PyProof.Rows L2 Ver Num SX
def spLaw (K : PySem.W.Frag) : Sp := fun vs H Q _ => ∃ (a : Addr) (ns : List Int), vs = [.ref a] ∧ SqL K H a (ns.map V.int) ∧ ns.length ≤ 63 ∧ ∀ H', Q (.bl true) H'
theorem OrdAt.but {K : PySem.W.Frag} {H H' : Hp} {o d : Addr} {k : Int} {L : LC} (h : OrdAt K H o L) (p : PenAt H d k) (b : But d H H') : OrdAt K H' o L := h.butT p (butT_but b)
theorem dOf_but {H H' : Hp} {a d : Addr} {k : Int} {L : LC} (ha : H a = some (.dK (dOf L))) (p : PenAt H d k) (b : But d H H') : H' a = some (.dK (dOf L)) := b.1 _ _ ha (ne_dOf ha p)
section
variable {P : Program} {w : World} {K : PySem.W.Frag} {mg : Str → Option Value} {base : Heap}
theorem ok_law (T : Tx K mg) : FnG P w K mg base CX0 11 (He.ga K "law") (spLaw K) := by
  refine mk_law T.d (fun vs H Q E h => ?_) (fun cdv A outer s H vs Q E hg hr h => ?_)
  · obtain ⟨a, ns, rfl, _⟩ := h
    rfl
  · obtain ⟨ad, ns, rfl, hs, hl, q⟩ := h
    have nd := sc_law.nd
    have hu := hr.units
    have hu1 := hu_of (hr.mono (by decide : 1 ≤ 10))
    have zg := T.z "range" (by decide +kernel)
    have zz := T.z "zip" (by decide +kernel)
    have zr := T.z "repr" (by decide +kernel)
    have br : bootBuiltins "repr" = some (.builtin "repr") := by decide +kernel
    obtain ⟨fdw, Fw, Bw⟩ := ok_words (P := P) (w := w) (base := base) T
    obtain ⟨fd0, F0, ds0, rd0, B0⟩ := ok_words0 (P := P) (w := w) (base := base) T
    obtain ⟨fdp, Fp, Bp⟩ := ok_spreadP (P := P) (w := w) (base := base) T
    obtain ⟨fdx, Fx, Bx⟩ := ok_spreadX (P := P) (w := w) (base := base) T
    refine ⟨_, pss_cons (ps_set (i := 1) nd rfl (Or.inl rfl) (pe_callG (ok_pen T) (hr.mono (by decide)) hg (by rfl) (T.g "_law_pen" (by decide +kernel)) (kp__law_pen T.d) pass0 (pa_cons (pv 0) pa_nil)))
      (pss_cons (ps_for PassesOwn.never rfl (pi_range1 (by rfl) zg (pa_cons pe_int pa_nil)) (pg_name (i := 2) nd rfl (.inl rfl))
        (pss_cons (ps_set (i := 3) nd rfl (Or.inr rfl) (pe_callG (ok_lettered T) (hr.mono (by decide)) hg (by rfl) (T.g "_law_lettered" (by decide +kernel)) (kp__law_lettered T.d) pass0 (pa_cons (pv 1) (pa_cons pe_int pa_nil))))
        (pss_cons (ps_par (i := 4) (j := 5) rfl nd rfl rfl (by decide) rfl rfl (pa_cons (pe_callG (ok_made T) (hr.mono (by decide)) hg (by rfl) (T.g "_law_made_order" (by decide +kernel)) (kp__law_made_order T.d) pass0 (pa_cons (pv 1) (pa_cons (pv 3) pa_nil)))
          (pa_cons (pe_callG (ok_firsts T) (hr.mono (by decide)) hg (by rfl) (T.g "_law_first_words" (by decide +kernel)) (kp__law_first_words T.d) pass0 (pa_cons (pv 3) (pa_cons pe_int pa_nil))) pa_nil)) rfl)
        (pss_cons (ps_if (pt_cmpR (op_neO T.sm hu)
          (GW.pe_lcR (c := 40) rfl (by decide) (i := 6) (j := 7) (own := [("_law_word", 6), ("_law_k", 7)]) rfl nd (GW.pgw_meth0 (pv 4) T.o.cl (T.me (by decide +kernel)) F0 (hr.mono (by decide)) B0 rd0 (Fg := fun H1 Hn => Hn = GW.noT H1) GW.forg_noT) (hr.mono (by decide)) hg
            (blkOk_by (N := n_law) (sc := defScope s_law) (by decide +kernel)) (by rfl) zz (by rfl) zg rfl (by decide) rfl rfl (by decide) rfl (by decide) (by decide))
          (pe_slice sl_list (pv 5) po_none (po_some pe_int)) (nomark _)) pss_never pss_nil)
        (pss_cons (ps_par (i := 8) (j := 9) rfl nd rfl rfl (by decide) rfl rfl (pa_cons (pe_callG (ok_draw T) (hr.mono (by decide)) hg (by rfl) (T.g "_law_draw" (by decide +kernel)) (kp__law_draw T.d) pass0 (pa_cons (pv 1) (pa_cons pe_int pa_nil)))
          (pa_cons (pe_callG (ok_draw T) (hr.mono (by decide)) hg (by rfl) (T.g "_law_draw" (by decide +kernel)) (kp__law_draw T.d) pass0 (pa_cons (pv 1) (pa_cons pe_int pa_nil))) pa_nil)) rfl)
        (pss_cons (ps_if (pt_cmpR (op_neO T.sm hu)
          (GW.pe_lcR (c := 9) rfl (by decide) (i := 6) (j := 7) (own := [("_law_word", 6), ("_law_k", 7)]) rfl nd (GW.pgw_meth (pv 4) T.o.cl (T.me (by decide +kernel)) Fw (hr.mono (by decide)) Bw (Fg := fun H1 Hn => Hn = GW.noT H1) GW.forg_noT (pa_cons (pe_ix ix_list (pv 5) (pv 8) (fun _ _ => rfl)) pa_nil)) (hr.mono (by decide)) hg
            (blkOk_by (N := n_law) (sc := defScope s_law) (by decide +kernel)) (by rfl) zz (by rfl) zg rfl (by decide) rfl rfl (by decide) rfl (by decide) (by decide))
          (pe_slice sl_list (pv 5) (po_some (pv 8)) (po_some (pe_op op_add (pv 8) pe_int))) (nomark _)) pss_never pss_nil)
        (pss_cons (ps_if (pt_cmpR (op_neO T.sm hu)
          (GW.pe_lcG (i := 6) (own := [("_law_word", 6)]) rfl nd (GW.pgw_meth (pv 4) T.o.cl (T.me (by decide +kernel)) Fx (hr.mono (by decide)) Bx (Fg := fun H1 Hn => Hn = GW.noT H1) GW.forg_noT (pa_cons (pe_ix ix_list (pv 5) (pv 8) (fun _ _ => rfl)) (pa_cons (pe_ix ix_list (pv 5) (pv 9) (fun _ _ => rfl)) pa_nil))) (hr.mono (by decide)) hg
            (blkOk_by (N := n_law) (sc := defScope s_law) (by decide +kernel)) rfl (by decide) rfl (by decide))
          (pe_slice sl_list (pv 5) (po_some (pv 8)) (po_some (pe_op op_add (pv 9) pe_int))) (nomark _)) pss_never pss_nil)
        (pss_cons (ps_if (pt_cmpR (op_neO T.sm hu)
          (GW.pe_lcR (c := 3) rfl (by decide) (i := 6) (j := 7) (own := [("_law_word", 6), ("_law_k", 7)]) rfl nd (GW.pgw_meth (pv 4) T.o.cl (T.me (by decide +kernel)) Fp (hr.mono (by decide)) Bp (Fg := fun H1 Hn => Hn = GW.noT H1) GW.forg_noT (pa_cons (pe_ix ix_list (pv 5) (pv 8) (fun _ _ => rfl)) (pa_cons (pe_ix ix_list (pv 5) pe_int (fun _ _ => rfl)) pa_nil))) (hr.mono (by decide)) hg
            (blkOk_by (N := n_law) (sc := defScope s_law) (by decide +kernel)) (by rfl) zz (by rfl) zg rfl (by decide) rfl rfl (by decide) rfl (by decide) (by decide))
          (pe_slice sl_list (pv 5) (po_some (pv 8)) (po_some (pe_op op_add (pv 8) pe_int))) (nomark _)) pss_never pss_nil)
        (pss_cons (ps_if (pt_cmpR (op_neO T.sm hu)
          (GW.pe_lcG (i := 6) (own := [("_law_word", 6)]) rfl nd (GW.pgw_meth (pv 4) T.o.cl (T.me (by decide +kernel)) Fx (hr.mono (by decide)) Bx (Fg := fun H1 Hn => Hn = GW.noT H1) GW.forg_noT (pa_cons (pe_ix ix_list (pv 5) (pv 8) (fun _ _ => rfl)) (pa_cons (pe_ix ix_list (pv 5) (pv 8) (fun _ _ => rfl)) pa_nil))) (hr.mono (by decide)) hg
            (blkOk_by (N := n_law) (sc := defScope s_law) (by decide +kernel)) rfl (by decide) rfl (by decide))
          (pe_lst (pa_cons (pe_ix ix_list (pv 5) (pv 8) (fun _ _ => rfl)) pa_nil)) (nomark _)) pss_never pss_nil)
        (pss_cons (ps_if (pt_cmpR op_notN (pe_methG (pv 4) (kp_Order_before T.d) (ok_ahead T) (hr.mono (by decide)) hg pass0 (pa_cons pe_str pa_nil)) pe_non (nomark _)) pss_never pss_nil)
        (pss_cons (ps_if (pt_not (pt_val (pe_callG (ok_far T) (hr.mono (by decide)) hg (by rfl) (T.g "_law_far_right" (by decide +kernel)) (kp__law_far_right T.d) pass0 (pa_cons (pv 4) (pa_cons (pv 5) pa_nil))))) pss_never pss_nil)
        (pss_cons (ps_setLc (i := 10) (own := [("_law_word", 6)]) (g := gName 6) (tt := tYes) rfl nd rfl rfl (sw_true rfl rfl rfl rfl) (pi_list (pv 5)) (blkOk_by (N := n_law) (sc := defScope s_law) (by decide +kernel)) (fun _ _ _ _ _ => pg_name (i := 6) nd rfl (Or.inl rfl)) (fun _ _ _ _ _ => pts_nil)
          (fun _ _ _ _ _ => pe_callG (ok_cost_of T) (hr.mono (by decide)) hg (by rfl) (T.g "_law_cost_of" (by decide +kernel)) (kp__law_cost_of T.d) pass0 (pa_cons (pv 3) (pa_cons (pv 6) pa_nil))))
        (pss_cons (ps_for PassesOwn.never rfl (pi_range1 (by rfl) zg (pa_cons (pe_callB (call_min2 rfl) (by rfl) (T.z "min" (by decide +kernel)) (by decide +kernel) (pa_cons (pe_ix ix_list (pv 10) (pe_un un_neg pe_int) (fun _ _ => rfl)) (pa_cons pe_int pa_nil))) pa_nil)) (pg_name (i := 11) nd rfl (.inl rfl))
          (pss_one (ps_if (pt_cmpR op_ne (pe_methG (pv 4) (kp_Order_count_words T.d) (ok_count T) (hr.mono (by decide)) hg pass0 (pa_cons (pv 11) pa_nil))
            (pe_bm PySem.F.plainAttrs_list PySem.F.slot_list_count PySem.F.type_list_count mt_lcount (pv 10) (pa_cons (pv 11) pa_nil)) (nomark _)) pss_never pss_nil)))
        (pss_one (ps_for PassesOwn.never rfl (pi_range1 (by rfl) zg (pa_cons pe_int pa_nil)) (pg_name (i := 7) nd rfl (.inl rfl))
          (pss_cons (ps_set (i := 12) nd rfl (Or.inl rfl) (pe_callG (ok_draw T) (hr.mono (by decide)) hg (by rfl) (T.g "_law_draw" (by decide +kernel)) (kp__law_draw T.d) pass0 (pa_cons (pv 1) (pa_cons pe_int pa_nil))))
          (pss_one (ps_if (pt_cmpR op_ne
            (pe_callB (call_reprO T.sm hg hu) (by rfl) zr br (pa_cons (pe_lst (pa_cons (pe_methG (pv 4) (kp_Order_after T.d) (ok_after T) (hr.mono (by decide)) hg pass0 (pa_cons (pe_ix ix_list (pv 5) (pv 12) (fun _ _ => rfl)) pa_nil))
              (pa_cons (pe_methG (pv 4) (kp_Order_before T.d) (ok_ahead T) (hr.mono (by decide)) hg pass0 (pa_cons (pe_ix ix_list (pv 5) (pe_op op_add (pv 12) pe_int) (fun _ _ => rfl)) pa_nil)) pa_nil))) pa_nil))
            (pe_callB (call_reprO T.sm hg hu) (by rfl) zr br (pa_cons (pe_lst (pa_cons (pe_ix ix_list (pv 5) (pe_op op_add (pv 12) pe_int) (fun _ _ => rfl)) (pa_cons (pe_ix ix_list (pv 5) (pv 12) (fun _ _ => rfl)) pa_nil))) pa_nil)) (nomark _)) pss_never pss_nil))))))))))))))))))
      (pss_one (ps_ret pe_bl))), ?_⟩
    refine ⟨_, rfl, ad, ns, rfl, hs, hl, fun d H0 s0 nd0 pen0 => ?_⟩
    refine ⟨((6 : Nat) : Int), rfl, by decide, by decide, for_range (lo := 0) (n := 6) (fun i σ H' => ∃ v2 v3 v4 v5 v7 v8 v9 v10 v11 v12 : Option V, σ = [some (.ref ad), some (.ref d), v2, v3, v4, v5, none, v7, v8, v9, v10, v11, v12] ∧ PenAt H' d (1000 * (i : Int))) ⟨none, none, none, none, none, none, none, none, none, none, rfl, pen0.mono (by omega)⟩ ?_ ?_⟩
    rotate_left
    · rintro σ H' ⟨v2, v3, v4, v5, v7, v8, v9, v10, v11, v12, rfl, pen⟩
      exact q _
    rintro i σ H' hi ⟨v2, v3, v4, v5, v7, v8, v9, v10, v11, v12, rfl, pen⟩
    refine ⟨_, rfl, d, 1000 * (i : Int), rfl, pen, by omega, fun a L H1 ok ha bt1 pen1 na => ?_⟩
    refine ⟨_, rfl, _, rfl, d, a, _, L, rfl, pen1, by omega, ok, ha, fun o H2 bt2 at2 pen2 no => ?_⟩
    have ha2 := dOf_but ha pen1 bt2
    refine ⟨_, rfl, a, L, rfl, ok, ha2, fun du F H3 s3 hdu fo => ⟨_, _, rfl, ?_⟩⟩
    have at3 := at2.same s3
    have ha3 := s3 _ _ ha2
    have pen3 := pen2.same s3
    clear s3 no bt2 bt1 na ha ha2 pen pen1 pen2 at2 s0 nd0 pen0
    obtain ⟨dx3, dc3, fw3, ho3, _⟩ := id at3.ex
    have gA : ∀ {m : Nat}, m < 60 → atI (F.map vS) (m : Int) = some (vS (F.getD m [])) := fun {m} hm => by
      have h := fo_get ok fo hm
      exact atI_nat (by rw [List.getElem?_map, h]; rfl)
    have over : ∀ {m : Nat}, m < 60 → ∀ c ∈ F.getD m [], c ∈ L.map (·.1) := fun hm => fo_over ok fo hm
    have lenF : ∀ {m : Nat}, m < 60 → (F.getD m []).length ≤ 1600 := fun hm => Nat.le_trans (fo_len ok fo hm) (by omega)
    have e40 : cutV (F.map vS) none (some 40) = (List.range 40).map fun m => vS (F.getD m []) := fo_cut0 ok fo (b := 40) (by decide)
    refine ⟨fun m => vS (F.getD m []), _, rfl, o, dx3, _, rfl, ho3, lk_none (by decide +kernel), GW.noT H3, rfl, ⟨o, L, [], fun m => F.getD m [], fun _ => True, rfl, at3.nt nt_noT, ⟨fun c h => (by cases h), by decide⟩, by decide, fo_nil ok fo, trivial, fun m hm _ => ⟨over (by omega), lenF (by omega)⟩, fun m r hm _ hn => ⟨fo_next ok fo (by omega) hn, trivial⟩, fun ys hy _ => rfl⟩, fun D nD => ?_⟩
    have sD := same_up (o := .lst ((List.range 40).map fun m => vS (F.getD m []))) nD
    have hD := upd_same (H := GW.noT H3) (a := D) (o := .lst ((List.range 40).map fun m => vS (F.getD m [])))
    have n4 := (nt_noT (H := H3)).trans (nt_same sD)
    generalize upd (GW.noT H3) D (.lst ((List.range 40).map fun m => vS (F.getD m []))) = H4 at sD hD n4 ⊢
    refine ⟨_, rfl, 40, rfl, du, _, rfl, SqL.of (n4 _ _ hdu (fun _ z => by cases z)), fun p np => ?_⟩
    rw [e40]
    have sp := same_up (o := .lst ((List.range 40).map fun m => vS (F.getD m []))) np
    refine ne_words ok (fun m => F.getD m []) 40 (fun m hm => over (by omega)) (sp _ _ hD) upd_same ⟨_, rfl, ifF rfl ?_⟩
    have n5 := n4.trans (nt_same sp)
    clear n4 sD hD sp np nD e40
    generalize upd H4 p (.lst ((List.range 40).map fun m => vS (F.getD m []))) = H5 at n5 ⊢
    have at5 := at3.nt n5
    have pen5 := pen3.nt n5
    have hdu5 := n5 _ _ hdu (fun _ z => by cases z)
    have ha5 := n5 _ _ ha3 (fun _ z => by cases z)
    clear n5 ho3 at3 hdu ha3 pen3
    refine ⟨_, rfl, d, _, 45, rfl, pen5, by omega, by decide, by decide, fun x1 H6 b6 pen6 x0 x2 => ?_⟩
    refine ⟨_, rfl, d, _, 45, rfl, pen6, by omega, by decide, by decide, fun y1 H7 b7 pen7 y0 y2 => ⟨_, _, rfl, ?_⟩⟩
    obtain ⟨xa, rfl⟩ : ∃ xa : Nat, x1 = (xa : Int) := ⟨x1.toNat, by omega⟩
    obtain ⟨yb, rfl⟩ : ∃ yb : Nat, y1 = (yb : Int) := ⟨y1.toNat, by omega⟩
    have hA : xa < 45 := by omega
    have hB : yb < 45 := by omega
    have b57 := (butT_but b6).trans (butT_but b7)
    have at7 := at5.butT pen5 b57
    have hdu7 := lst_butT hdu5 pen5 b57
    have ha7 := dOf_butT ha5 pen5 b57
    clear b57 b6 b7 at5 hdu5 ha5 pen5 pen6 x0 x2 y0 y2 hu1
    obtain ⟨dx7, dc7, fw7, ho7, _⟩ := id at7.ex
    have du' : ∀ {H' : Hp}, NT H7 H' → H' du = some (.lst (F.map vS)) := fun n => n _ _ hdu7 (fun _ z => by cases z)
    have eA9 : cutV (F.map vS) (some (xa : Int)) (some ((xa : Int) + 9)) = (List.range 9).map fun m => vS (F.getD (xa + m) []) := by
      have h := fo_cutG ok fo (a := xa) (b := xa + 9) (by omega) (by omega)
      rw [Nat.add_sub_cancel_left] at h
      rw [← h]
      rfl
    -- words(due[at])
    refine ⟨fun m => vS (F.getD (xa + m) []), _, rfl, o, dx7, _, rfl, ho7, lk_none (by decide +kernel), _, rfl, _, rfl, du, _, _, _, rfl, rfl, SqL.of hdu7, gA (by omega), GW.noT H7, rfl, ⟨o, L, F.getD xa [], fun m => F.getD (xa + m) [], fun _ => True, rfl, at7.nt nt_noT, fo_wok ok fo (by omega), by decide, rfl, trivial, fun m hm _ => ⟨over (by omega), lenF (by omega)⟩, fun m r hm _ hn => ⟨fo_next ok fo (m := xa + m) (by omega) hn, trivial⟩, fun ys hy _ => rfl⟩, fun D nD => ?_⟩
    have sD := same_up (o := .lst ((List.range 9).map fun m => vS (F.getD (xa + m) []))) nD
    have hD := upd_same (H := GW.noT H7) (a := D) (o := .lst ((List.range 9).map fun m => vS (F.getD (xa + m) [])))
    have n8 := (nt_noT (H := H7)).trans (nt_same sD)
    generalize upd (GW.noT H7) D (.lst ((List.range 9).map fun m => vS (F.getD (xa + m) []))) = H8 at sD hD n8 ⊢
    refine ⟨_, rfl, _, rfl, _, rfl, _, rfl, _, _, rfl, rfl, _, rfl, du, _, rfl, SqL.of (du' n8), fun p np => ?_⟩
    rw [eA9]
    have sp := same_up (o := .lst ((List.range 9).map fun m => vS (F.getD (xa + m) []))) np
    refine ne_words ok (fun m => F.getD (xa + m) []) 9 (fun m hm => over (by omega)) (sp _ _ hD) upd_same ⟨_, rfl, ifF rfl ?_⟩
    have n9 := n8.trans (nt_same sp)
    clear n8 sD hD sp np nD eA9
    generalize upd H8 p (.lst ((List.range 9).map fun m => vS (F.getD (xa + m) []))) = H9 at n9 ⊢
    have at9 := at7.nt n9
    obtain ⟨dx9, dc9, fw9, ho9, _⟩ := id at9.ex
    -- spread(due[at], due[end])
    obtain ⟨tn, htn⟩ : ∃ n, yb + 1 - xa = n := ⟨_, rfl⟩
    have eAB : cutV (F.map vS) (some (xa : Int)) (some ((yb : Int) + 1)) = (List.range tn).map fun m => vS (F.getD (xa + m) []) := by
      have h := fo_cutG ok fo (a := xa) (b := yb + 1) (by omega) (by omega)
      rw [htn] at h
      rw [← h]
      rfl
    refine ⟨fun m => vS (F.getD (xa + m) []), tn + 1, fun m => m = tn, Nat.le_add_left 1 _, sl_of (by omega), _, rfl, o, dx9, _, rfl, ho9, lk_none (by decide +kernel), _, rfl, _, rfl, du, _, _, _, rfl, rfl, SqL.of (du' n9), gA (by omega), _, rfl, _, rfl, du, _, _, _, rfl, rfl, SqL.of (du' n9), gA (by omega), GW.noT H9, rfl, ?_, fun m D em nD => ?_⟩
    · by_cases hle : xa ≤ yb
      · have ey : xa + (yb - xa) = yb := by omega
        refine .inl ⟨o, L, fun m => F.getD (xa + m) [], yb - xa, fun _ => True, by show _ = [V.ref o, vS (F.getD (xa + 0) []), vS (F.getD (xa + (yb - xa)) [])]; rw [ey]; rfl, at9.nt nt_noT, fo_wok ok fo (m := xa + 0) (by omega), fo_wok ok fo (m := xa + (yb - xa)) (by omega), by omega, ?_, trivial, fun m hm _ => ⟨over (by omega), lenF (by omega)⟩, fun m hm e => fo_inj ok fo (a := xa + m) (b := xa + (yb - xa)) (by omega) (by omega) (by omega) (S_inj e), fun m r hm _ hn => ⟨fo_next ok fo (m := xa + m) (by omega) hn, trivial⟩, fun ys hy => ⟨rfl, by omega⟩, fun ys hy => by omega⟩
        show befW L (F.getD (xa + (yb - xa)) []) (F.getD (xa + 0) []) = false
        rw [bef_plc ok (over (by omega)) (over (by omega)), fo_plc ok fo (by omega), fo_plc ok fo (by omega)]
        exact decide_eq_false (by omega)
      · refine .inr ⟨o, L, F.getD xa [], F.getD yb [], rfl, at9.nt nt_noT, fo_wok ok fo (by omega), fo_wok ok fo (by omega), ?_, by show 0 = tn; omega⟩
        rw [bef_plc ok (over (by omega)) (over (by omega)), fo_plc ok fo (by omega), fo_plc ok fo (by omega)]
        exact decide_eq_true (by omega)
    subst em
    have sD := same_up (o := .lst ((List.range m).map fun m => vS (F.getD (xa + m) []))) nD
    have hD := upd_same (H := GW.noT H9) (a := D) (o := .lst ((List.range m).map fun m => vS (F.getD (xa + m) [])))
    have n10 := (n9.trans nt_noT).trans (nt_same sD)
    generalize upd (GW.noT H9) D (.lst ((List.range m).map fun m => vS (F.getD (xa + m) []))) = H10 at sD hD n10 ⊢
    refine ⟨_, rfl, _, rfl, _, rfl, _, rfl, _, _, rfl, rfl, _, rfl, du, _, rfl, SqL.of (du' n10), fun p np => ?_⟩
    rw [eAB]
    have sp := same_up (o := .lst ((List.range m).map fun m => vS (F.getD (xa + m) []))) np
    refine ne_words ok (fun m => F.getD (xa + m) []) m (fun k hk => over (by omega)) (sp _ _ hD) upd_same ⟨_, rfl, ifF rfl ?_⟩
    have n11 := n10.trans (nt_same sp)
    clear n10 sD hD sp np nD eAB ho9 at9
    generalize upd H10 p (.lst ((List.range m).map fun m => vS (F.getD (xa + m) []))) = H11 at n11 ⊢
    have at11 := at7.nt n11
    obtain ⟨dx11, dc11, fw11, ho11, _⟩ := id at11.ex
    -- spread(due[at], due[59])
    have eA3 : cutV (F.map vS) (some (xa : Int)) (some ((xa : Int) + 3)) = (List.range 3).map fun m => vS (F.getD (xa + m) []) := by
      have h := fo_cutG ok fo (a := xa) (b := xa + 3) (by omega) (by omega)
      rw [Nat.add_sub_cancel_left] at h
      rw [← h]
      rfl
    refine ⟨fun m => vS (F.getD (xa + m) []), _, rfl, o, dx11, _, rfl, ho11, lk_none (by decide +kernel), _, rfl, _, rfl, du, _, _, _, rfl, rfl, SqL.of (du' n11), gA (by omega), _, rfl, du, _, _, _, rfl, rfl, SqL.of (du' n11), gA (m := 59) (by decide), GW.noT H11, rfl, ⟨o, L, fun m => F.getD (xa + m) [], F.getD 59 [], fun _ => True, rfl, at11.nt nt_noT, fo_wok ok fo (m := xa + 0) (by omega), fo_wok ok fo (by decide), by decide, ?_, trivial, fun m hm _ => ⟨over (by omega), lenF (by omega)⟩, fun m hm e => fo_inj ok fo (a := xa + m) (b := 59) (by omega) (by omega) (by omega) (S_inj e), fun m r hm _ hn => ⟨fo_next ok fo (m := xa + m) (by omega) hn, trivial⟩, fun ys hy => rfl⟩, fun D nD => ?_⟩
    · show befW L (F.getD 59 []) (F.getD (xa + 0) []) = false
      rw [bef_plc ok (over (by omega)) (over (by omega)), fo_plc ok fo (by omega), fo_plc ok fo (by omega)]
      exact decide_eq_false (by omega)
    have sD := same_up (o := .lst ((List.range 3).map fun m => vS (F.getD (xa + m) []))) nD
    have hD := upd_same (H := GW.noT H11) (a := D) (o := .lst ((List.range 3).map fun m => vS (F.getD (xa + m) [])))
    have n12 := (n11.trans nt_noT).trans (nt_same sD)
    generalize upd (GW.noT H11) D (.lst ((List.range 3).map fun m => vS (F.getD (xa + m) []))) = H12 at sD hD n12 ⊢
    refine ⟨_, rfl, _, rfl, _, rfl, _, rfl, _, _, rfl, rfl, _, rfl, du, _, rfl, SqL.of (du' n12), fun p np => ?_⟩
    rw [eA3]
    have sp := same_up (o := .lst ((List.range 3).map fun m => vS (F.getD (xa + m) []))) np
    refine ne_words ok (fun m => F.getD (xa + m) []) 3 (fun k hk => over (by omega)) (sp _ _ hD) upd_same ⟨_, rfl, ifF rfl ?_⟩
    have n13 := n12.trans (nt_same sp)
    clear n12 sD hD sp np nD eA3 ho11 at11
    generalize upd H12 p (.lst ((List.range 3).map fun m => vS (F.getD (xa + m) []))) = H13 at n13 ⊢
    have at13 := at7.nt n13
    obtain ⟨dx13, dc13, fw13, ho13, _⟩ := id at13.ex
    -- spread(due[at], due[at])
    refine ⟨fun m => vS (F.getD (xa + m) []), 2, fun m => m = 1, by decide, sl_of (by omega), _, rfl, o, dx13, _, rfl, ho13, lk_none (by decide +kernel), _, rfl, _, rfl, du, _, _, _, rfl, rfl, SqL.of (du' n13), gA (by omega), _, rfl, _, rfl, du, _, _, _, rfl, rfl, SqL.of (du' n13), gA (by omega), GW.noT H13, rfl, .inl ⟨o, L, fun m => F.getD (xa + m) [], 0, fun _ => True, rfl, at13.nt nt_noT, fo_wok ok fo (m := xa + 0) (by omega), fo_wok ok fo (m := xa + 0) (by omega), by decide, ?_, trivial, fun m hm _ => ⟨over (by omega), lenF (by omega)⟩, fun m hm e => by omega, fun m r hm _ hn => by omega, fun ys hy => ⟨rfl, by omega⟩, fun ys hy => hy⟩, fun m D em nD => ?_⟩
    · show befW L (F.getD (xa + 0) []) (F.getD (xa + 0) []) = false
      rw [bef_plc ok (over (by omega)) (over (by omega))]
      exact decide_eq_false (by omega)
    subst em
    have sD := same_up (o := .lst ((List.range 1).map fun m => vS (F.getD (xa + m) []))) nD
    have hD := upd_same (H := GW.noT H13) (a := D) (o := .lst ((List.range 1).map fun m => vS (F.getD (xa + m) [])))
    have n14 := (n13.trans nt_noT).trans (nt_same sD)
    generalize upd (GW.noT H13) D (.lst ((List.range 1).map fun m => vS (F.getD (xa + m) []))) = H14 at sD hD n14 ⊢
    refine ⟨_, rfl, _, rfl, du, _, _, _, rfl, rfl, SqL.of (du' n14), gA (m := xa) (by omega), by show 1 ≤ sizeLine; decide, fun p np => ?_⟩
    have sp := same_up (o := .lst ((List.range 1).map fun m => vS (F.getD (xa + m) []))) np
    refine ne_words ok (fun m => F.getD (xa + m) []) 1 (fun k hk => over (by omega)) (sp _ _ hD) upd_same ⟨_, rfl, ifF rfl ?_⟩
    have n15 : NT H7 (upd H14 p (.lst [vS (F.getD xa [])])) := n14.trans (nt_same sp)
    clear n14 sD hD sp np nD ho13 at13
    generalize upd H14 p (.lst [vS (F.getD xa [])]) = H15 at n15 ⊢
    have at15 := at7.nt n15
    obtain ⟨dx15, dc15, fw15, ho15, _⟩ := id at15.ex
    -- before("")
    refine ⟨_, rfl, o, OC K, dx15, _, rfl, ho15, T.o.cl, T.me (by decide +kernel), lk_none (by decide +kernel), o, L, [], rfl, at15, ⟨fun c h => (by cases h), by decide⟩, fun _ H16 s16 => ⟨rfl, _, rfl, ifF rfl ?_⟩, fun z => (z rfl).elim⟩
    have n16 := n15.trans (nt_same s16)
    -- far_right
    refine ⟨_, rfl, _, rfl, o, du, L, F, rfl, at7.nt n16, du' n16, fo, fun H17 n17' => ⟨_, rfl, ifF rfl ?_⟩⟩
    have n17 := n16.trans n17'
    clear n16 n15 s16 n17' at15 ho15
    have at17 := at7.nt n17
    have hdu17 := du' n17
    have ha17 := n17 _ _ ha7 (fun _ z => by cases z)
    have pen17 := pen7.nt n17
    clear n17 du' hdu7 ha7 pen7 at7 ho7
    -- the sums
    have l60 : (F.map vS).length = 60 := by rw [List.length_map, fo.len]
    refine ⟨_, rfl, du, rfl, ⟨_, SqL.of hdu17⟩, fun Ds nDs => ?_⟩
    have aD : a ≠ Ds := ne_of_none ha17 nDs
    refine lc_it (te := fun σ H Q => tCons (tVar 3) (tCons (tVar 6) tNil) σ H fun vs H1 => spCostOf K vs H1 Q E0) (g := gName 6) (tt := tYes) (wk_list (a := du) (xs := F.map vS))
      (fun j H' => Same H17 H' ∧ H' Ds = some (.lst ((List.range j).map fun m => .int (costW L (F.getD m []))))) ⟨same_up nDs, upd_same⟩ (fun j H' _ ⟨s', _⟩ => s'.seq (SqL.of hdu17)) ?_ ?_
    · rintro j x G G' hj ⟨sG, hG⟩ ⟨rfl, hx⟩
      rw [l60] at hj
      rw [List.getElem?_map, fo_get ok fo hj] at hx
      obtain rfl : vS (F.getD j []) = x := Option.some.inj hx
      refine ⟨rfl, ?_⟩
      unfold tYes
      dsimp only
      rw [if_pos rfl]
      refine ⟨_, rfl, _, rfl, a, L, F.getD j [], rfl, ok, sG _ _ ha17, over hj, Nat.le_trans (fo_len ok fo hj) (by omega), fun G2 s2 => ⟨_, s2 _ _ hG, by rw [List.length_map, List.length_range, sizeLine_eq]; omega, fun b v e => ?_, ?_⟩⟩
      · have : b ≠ Ds := ne_of_none e nDs
        rw [upd_ne this]
        exact s2 _ _ (sG _ _ e)
      · rw [upd_same, List.range_succ, List.map_append]
        rfl
    rintro H18 ⟨s18, hDs⟩
    rw [l60] at hDs
    have at18 := at17.same s18
    have pen18 := pen17.same s18
    have hdu18 := s18 _ _ hdu17
    clear nDs aD hdu17 at17 pen17 ha17 s18
    obtain ⟨dx18, dc18, fw18, ho18, _⟩ := id at18.ex
    have eS : ((List.range 60).map fun m => V.int (costW L (F.getD m []))) = ((List.range 59).map fun m => V.int (costW L (F.getD m []))) ++ [.int (costW L (F.getD 59 []))] := by
      rw [List.range_succ, List.map_append]
      rfl
    have eC : ((List.range 60).map fun m => V.int (costW L (F.getD m []))) = (F.map (costW L)).map V.int := by
      rw [fo_map ok fo (costW L), List.map_map]
      rfl
    have gl59 := cost_ge ok (F.getD 59 [])
    obtain ⟨M, hM, M40, M59⟩ : ∃ M : Nat, (if 40 < costW L (F.getD 59 []) then 40 else costW L (F.getD 59 [])) = (M : Int) ∧ M ≤ 40 ∧ (M : Int) ≤ costW L (F.getD 59 []) := by
      by_cases h40 : 40 < costW L (F.getD 59 [])
      · exact ⟨40, by rw [if_pos h40]; rfl, Nat.le_refl _, by omega⟩
      · exact ⟨(costW L (F.getD 59 [])).toNat, by rw [if_neg h40]; omega, by omega, by omega⟩
    refine ⟨_, rfl, _, rfl, Ds, _, _, _, rfl, rfl, SqL.of hDs, by rw [eS]; exact atI_last _ _, _, _, rfl, (M : Int), by rw [← hM], by omega, by omega, ?_⟩
    refine for_range (lo := 0) (n := M) (fun j σ H' => ∃ w11 : Option V, σ = [some (.ref ad), some (.ref d), some (.int (0 + (i : Int))), some (.ref a), some (.ref o), some (.ref du), none, v7, some (.int (xa : Int)), some (.int (yb : Int)), some (.ref Ds), w11, v12] ∧ Same H18 H') ⟨v11, rfl, fun _ _ e => e⟩ ?_ ?_
    · rintro j σ G hj ⟨w11, rfl, sG⟩
      have atg := at18.same sG
      obtain ⟨dxg, dcg, fwg, hog, _⟩ := id atg.ex
      refine ⟨_, rfl, o, OC K, dxg, _, rfl, hog, T.o.cl, T.me (by decide +kernel), lk_none (by decide +kernel), _, rfl, o, L, j, by rw [Int.zero_add], atg, by omega, fun G2 s2 => ?_⟩
      have hd2 := s2 _ _ (sG _ _ hDs)
      rw [eC] at hd2
      refine ⟨_, rfl, .inl ⟨rfl, _, SqL.of hd2⟩, _, rfl, Ds, F.map (costW L), 0 + (j : Int), rfl, rfl, SqL.of hd2, rfl, _, rfl, ifF ?_ ⟨_, rfl, sG.trans s2⟩⟩
      rw [Int.zero_add, count_cost ok fo (by omega), decide_eq_true rfl]
      rfl
    rintro σ H19 ⟨w11, rfl, s19⟩
    have at19 := at18.same s19
    have pen19 := pen18.same s19
    have hdu19 := s19 _ _ hdu18
    clear s19 at18 pen18 hdu18 hDs eS eC hM M40 M59 ho18 gl59
    refine ⟨((12 : Nat) : Int), rfl, by decide, by decide, for_range (lo := 0) (n := 12) (fun j σ H' => ∃ w7 w12 : Option V, σ = [some (.ref ad), some (.ref d), some (.int (0 + (i : Int))), some (.ref a), some (.ref o), some (.ref du), none, w7, some (.int (xa : Int)), some (.int (yb : Int)), some (.ref Ds), w11, w12] ∧ ButT d H19 H' ∧ PenAt H' d (1000 * (i : Int) + 37 + (j : Int))) ⟨v7, v12, rfl, fun _ _ e _ _ => e, pen19.mono (by omega)⟩ ?_ ?_⟩
    rotate_left
    · rintro σ H20 ⟨w7, w12, rfl, b20, pen20⟩
      exact ⟨_, _, _, _, _, _, _, _, _, _, rfl, pen20.mono (by push_cast; omega)⟩
    rintro j σ G hj ⟨w7, w12, rfl, bG, penG⟩
    refine ⟨_, rfl, d, _, 58, rfl, penG, by omega, by decide, by decide, fun r G1 b1 pen1 r0 r1 => ?_⟩
    obtain ⟨p, rfl⟩ : ∃ p : Nat, r = (p : Int) := ⟨r.toNat, by omega⟩
    have hp58 : p < 58 := by omega
    have bG1 := bG.trans (butT_but b1)
    have at1 := at19.butT pen19 bG1
    have hdu1 := lst_butT hdu19 pen19 bG1
    obtain ⟨dx1, dc1, fw1, ho1, _⟩ := id at1.ex
    have gP : atI (F.map vS) ((p : Int) + 1) = some (vS (F.getD (p + 1) [])) := gA (m := p + 1) (by omega)
    refine ⟨_, rfl, o, OC K, dx1, _, rfl, ho1, T.o.cl, T.me (by decide +kernel), lk_none (by decide +kernel), _, rfl, _, rfl, du, _, _, _, rfl, rfl, SqL.of hdu1, gA (m := p) (by omega), o, L, F.getD p [], rfl, at1, fo_wok ok fo (by omega), fun v G2 hv l15 hp s2 => ?_⟩
    have at2 := at1.same s2
    have hdu2 := s2 _ _ hdu1
    obtain ⟨dx2, dc2, fw2, ho2, _⟩ := id at2.ex
    have ev : v = F.getD (p + 1) [] := fo_at ok fo hv (by omega) (by rw [hp, fo_plc ok fo (by omega)]; push_cast; rfl)
    subst ev
    refine ⟨_, rfl, o, OC K, dx2, _, rfl, ho2, T.o.cl, T.me (by decide +kernel), lk_none (by decide +kernel), _, rfl, _, rfl, _, _, rfl, rfl, du, _, _, _, rfl, rfl, SqL.of hdu2, gP, o, L, F.getD (p + 1) [], rfl, at2, fo_wok ok fo (by omega), fun z => ?_, fun _ v2 G3 hv2 l2 hp2 s3 => ⟨by show 2 ≤ sizeLine; decide, fun l nl => ?_⟩⟩
    · have h1 := fo_plc ok fo (m := p + 1) (by omega)
      have h0 := fo_plc ok fo (m := 0) (by decide)
      rw [fo_nil ok fo] at h0
      rw [z, h0] at h1
      omega
    have ev : v2 = F.getD p [] := fo_at ok fo hv2 (by omega) (by
      have := fo_plc ok fo (m := p + 1) (by omega)
      omega)
    subst ev
    have hdu3 := s3 _ _ hdu2
    have s4 := same_up (o := .lst [vS (F.getD (p + 1) []), vS (F.getD p [])]) nl
    have hl4 := upd_same (H := G3) (a := l) (o := .lst [vS (F.getD (p + 1) []), vS (F.getD p [])])
    generalize upd G3 l (.lst [vS (F.getD (p + 1) []), vS (F.getD p [])]) = G4 at s4 hl4 ⊢
    have hdu4 := s4 _ _ hdu3
    obtain ⟨w1, w2, w3⟩ := show_words (us := [F.getD (p + 1) [], F.getD p []]) (by show 2 ≤ 200; decide) (fun u hu => by
      simp only [List.mem_cons, List.not_mem_nil, or_false] at hu
      rcases hu with rfl | rfl
      · exact ⟨(fo_wok ok fo (by omega)).2, over_122 ok (over (by omega))⟩
      · exact ⟨(fo_wok ok fo (by omega)).2, over_122 ok (over (by omega))⟩)
    refine ⟨.ref l, _, rfl, .lst (SqL.of hl4) (dp_words [F.getD (p + 1) [], F.getD p []]), w1, w2, w3, _, rfl, _, rfl, _, _, rfl, rfl, du, _, _, _, rfl, rfl, SqL.of hdu4, gP, _, rfl, _, rfl, du, _, _, _, rfl, rfl, SqL.of hdu4, gA (m := p) (by omega), by show 2 ≤ sizeLine; decide, fun l2 nl2 => ⟨.ref l2, _, rfl, .lst (SqL.of upd_same) (dp_words [F.getD (p + 1) [], F.getD p []]), w1, w2, w3, rfl, _, rfl, ifF (by rw [decide_eq_true rfl]; rfl) ⟨_, _, rfl, ?_, ?_⟩⟩⟩
    · exact bG1.trans (butT_nt (nt_same (((s2.trans s3).trans s4).trans (same_up nl2))))
    · exact ((pen1.same (((s2.trans s3).trans s4).trans (same_up nl2)))).mono (by push_cast; omega)
end
end K10

namespace K10
open PySem PySem.Spec PyProof.Rows L2 Ver Num
theorem all_cons_ok {b : Bool} {l : List Bool} (h : (b :: l).all id = true) : b = true ∧ l.all id = true := He.ba h
theorem oc_of {K : PySem.W.Frag} (e : (xo K).all id = true) (v : fnA K (ofA K) = v1.1) : OrdC K := by
  obtain ⟨a1, e⟩ := all_cons_ok e
  obtain ⟨a2, e⟩ := all_cons_ok e
  obtain ⟨a3, e⟩ := all_cons_ok e
  obtain ⟨a4, e⟩ := all_cons_ok e
  obtain ⟨a5, e⟩ := all_cons_ok e
  obtain ⟨a6, e⟩ := all_cons_ok e
  obtain ⟨a7, e⟩ := all_cons_ok e
  obtain ⟨a8, e⟩ := all_cons_ok e
  obtain ⟨a9, e⟩ := all_cons_ok e
  obtain ⟨a10, e⟩ := all_cons_ok e
  obtain ⟨a11, e⟩ := all_cons_ok e
  obtain ⟨a12, e⟩ := all_cons_ok e
  have me : ∀ m ∈ oms, Meth K (OC K) m (He.ma K (OC K) m) := fun m hm => by
    obtain ⟨h1, h2⟩ := He.ba (List.all_eq_true.mp a3 m hm)
    obtain ⟨h2, h3⟩ := He.ba h2
    exact ⟨He.eqO_ok h1, h2, h3⟩
  obtain ⟨fd, F⟩ := fun_at (x := "of_costs") (q := "Order.of_costs") (st := s_Order_of_costs) v a9
  exact
    { cl := He.cls_ok a1
      na := fun f hf => He.noat_ok (List.all_eq_true.mp a2 f hf)
      me := me
      mkr := He.mkr_ok a4
      bm := ⟨me _ (by decide +kernel), He.eqO_ok a10, of_decide_eq_true a11, by decide +kernel, a12⟩
      rd := ⟨a5, He.eqO_ok a6⟩
      oc := ⟨_, ofA K, fd, He5.cmet_of a7 a8, F⟩ }
theorem tx_of {K : PySem.W.Frag} {h : Heap} {mg : Str → Option Value} (X : K.In h) (G : h.Ns mainGlobals mg) (c : He.SaysD fa fn K) (e : ex K = true) (v : f1 K = v1) : Tx K mg := by
  obtain ⟨e1, e2⟩ := He.ba e
  obtain ⟨e2, e3⟩ := He.ba e2
  obtain ⟨a1, e1⟩ := all_cons_ok e1
  obtain ⟨a2, e1⟩ := all_cons_ok e1
  obtain ⟨a3, e1⟩ := all_cons_ok e1
  obtain ⟨a4, e1⟩ := all_cons_ok e1
  obtain ⟨a5, e1⟩ := all_cons_ok e1
  obtain ⟨a6, e1⟩ := all_cons_ok e1
  obtain ⟨a7, e1⟩ := all_cons_ok e1
  exact
    { d := c
      g := fun x hx => He.glo_ok X G (He.SaysD.facts c (List.mem_append_left _ (List.mem_map_of_mem hx)))
      z := fun x hx => He.free_ok X G (He.SaysD.facts c (List.mem_append_right _ (List.mem_map_of_mem hx)))
      ml := He.int_ok X G a1
      gc := He.int_ok X G a2
      lw := He.int_ok X G a3
      st := He.int_ok X G a4
      gcd := PySem.W.mg_of X G (He.eqO_ok a5)
      sm := smTB_ok a6
      gn := He.int_ok X G a7
      lt := by
        obtain ⟨p1, e3⟩ := all_cons_ok e3
        obtain ⟨p2, e3⟩ := all_cons_ok e3
        obtain ⟨p3, e3⟩ := all_cons_ok e3
        obtain ⟨p4, e3⟩ := all_cons_ok e3
        obtain ⟨p5, e3⟩ := all_cons_ok e3
        obtain ⟨fd, F⟩ := fun_at (x := "latest") (q := "Order.latest") (st := s_Order_latest) (congrArg Prod.snd v) p5
        exact ⟨pA K, gA K (pA K) "property", fd, ⟨He.eqO_ok p1, He.eqO_ok p2, of_decide_eq_true p3, gOk_ex p4⟩, F⟩
      o := oc_of e2 (congrArg Prod.fst v) }
end K10
open PySem PySem.W PySem.Calls PyProof.Rows
theorem PySem.Challenge.cw_firstanswers_k10_whole_words_in_order_holds : PySem.Challenge.rw_firstanswers_k10_whole_words_in_order.Holds := by
  w_on; o_law
  refine HandSHeadRun.head_imp (r := K10.R) (q := K10.qv) (H := K10.hook) (ob := K10.ob) (M := 8000) (loose := K10.lo) (d := HandSHeadRun.topDef K10.R.prog 33) (kwd := []) K10.ob_eq K10.run
    (by kernel_rfl) (by kernel_rfl) (by kernel_rfl) (by rfl) (by first | assumption | decide +kernel) (by decide +kernel) ⟨rfl, rfl, rfl, rfl, rfl, by decide +kernel⟩ ?hw ?hc
  case hw => w_witness2
  case hc =>
    refine Ver.walkG (l := PySem.Challenge.rw_firstanswers_k10_whole_words_in_order) (n := 63) (k := 11) rfl (by decide) (by kernel_rfl) ⟨rfl, by decide, by decide⟩ ?F
    intro w mg fa h Y G hmg0
    obtain ⟨K, KX, c, e, v⟩ := Y
    have hmg : mg ("law" : PySem.Str) = some (.ref fa) := by
      have q : (HandSHeadRun.topDef K10.R.prog 33).name = ("law" : PySem.Str) := by kernel_rfl
      rw [← q]
      exact hmg0
    have T := K10.tx_of KX G c e v
    have ef := hmg.symm.trans (T.g "law" (by decide +kernel))
    cases ef
    exact ⟨K, K10.spLaw K, KX, fun H a ns hl _ hS => ⟨a, ns, rfl, hS, hl, fun _ => rfl⟩, fun base h1 h2 => K10.ok_law T⟩
