import PyProof.Rows.All
import Wide.All
import OpenK.AllK
import Wide.FinOn
import PyProof.FString
import PyProof.FString4
import KE.KExcTry
import KE.KExcStr
import HandS.Base
import HandS.Call
import HandS.Ends
import HandS.Exc
import HandS.ExcInit
import HandS.ExcCtx
import HandS.Hot
import HandS.HotCalls
import HandS.Words
import HandS.ExcField
import HandS.ExcIs
import KE.KExcIs
import HandS.WordsExc
import HandS.Evl
import HandS.ForMost
import HandS.Wide
import HandS.SetFor
import HandS.Style
import HandS.EndBits
import PySem.Challenge.RW_onehold_k00_error_classes
set_option Elab.async false
set_option linter.all false
set_option maxRecDepth 100000
set_option maxHeartbeats 4000000
namespace Ox
open PySem PySem.Spec PySem.W PySem.Calls PyProof.Rows PySem.HandSPX
/-! ### the text of an exception -/
/-- e is a text, whatever the frame's heap is, as long as the locals stand -/
def Says (prog : Program) (w : World) (e : Expr) (env : Env) (L : Addr) (m : Str → Option Value) : Prop :=
  ∀ (A : Around) (s : Shared) (E : Value → Shared → Prop) (Q : Value → Shared → Prop), s.heap.Ns L m → (∀ (y : Str) tk tk', y.length ≤ 1000000 → Q (.str y tk) { s with toks := tk' }) → wpAny (model prog w) A (eval e env) Q E s
section
variable {prog : Program} {w : World} {env : Env} {L : Addr} {m : Str → Option Value}
theorem says_str {x : Str} {j : Nat} {pos : Pos} (hx : x.length ≤ 1000000 := by decide) : Says prog w (.Constant (.str x) j pos) env L m := fun A s E Q hn h => Calls.Constant_str (h x _ _ hx)
/-- what may stand in an exception's text -/
def Fine (v : Value) : Prop := (∃ y t, v = .str y t ∧ y.length ≤ 1000000) ∨ ∃ i t, v = .int i t ∧ i.natAbs.log2 < 1920
theorem says_fmt {x : Str} {p pos : Pos} {v : Value} (hL : env.locals = L) (hk : env.scope.kind = .function) (hl : env.kindOf x = some .local) (hv : m x = some v) (hf : Fine v) (hd : (x == ("__debug__" : Str)) = false := by decide) :
    Says prog w (.FormattedValue (.Name x p) (-1) none pos) env L m := fun A s E Q hn h => by
  subst hL
  refine wpAny_FormattedValue_plain (wpAny_Name (wpAny_loadName_local hk hl hn hv ?_) hd)
  rcases hf with ⟨y, t, rfl, hy⟩ | ⟨i, t, rfl, hi⟩
  · exact wpAny_formatField_str (h y _ _ hy) (h y _ _ hy) (by rw [sizeLine_eq]; omega)
  · refine wpAny_formatField_int hi (h _ _ _ ?_)
    have e := int_text_length_le (k := 1920) (by decide) hi
    rw [PySem.ofString_length]
    omega
inductive SaysAll (prog : Program) (w : World) (env : Env) (L : Addr) (m : Str → Option Value) : List Expr → Prop where
  | nil : SaysAll prog w env L m []
  | cons {e : Expr} {es : List Expr} : Says prog w e env L m → SaysAll prog w env L m es → SaysAll prog w env L m (e :: es)
theorem joins_of {A : Around} {E : Value → Shared → Prop} : ∀ {es : List Expr} (_ : SaysAll prog w env L m es) (acc : Str) (s : Shared) (Q : Str → Shared → Prop), s.heap.Ns L m → acc.length + es.length * 1000000 ≤ 16000000 →
    (∀ out tk, out.length ≤ 16000000 → Q out { s with toks := tk }) → Joins (model prog w) A E (evalEach es env) acc Q s := by
  intro es h
  induction h with
  | nil =>
    intro acc s Q hn hz k
    have e0 : evalEach [] env = [] := by first | rfl | simp [evalEach]
    rw [e0]
    exact k acc s.toks (by simpa using hz)
  | @cons e es he r ih =>
    intro acc s Q hn hz k
    have e0 : evalEach (e :: es) env = eval e env :: evalEach es env := by first | rfl | simp [evalEach]
    rw [e0]
    refine he A s E _ hn fun y tk tk' hy => ?_
    have hl : (acc ++ y).length = acc.length + y.length := strLen_append ..
    have hz2 : (e :: es).length = es.length + 1 := rfl
    rw [hz2] at hz
    refine ⟨y, tk, rfl, ?_, ih (acc ++ y) { s with toks := tk' } _ hn ?_ fun out tk2 ho => k out tk2 ho⟩
    · rw [hl, sizeLine_eq]; omega
    · rw [hl]; omega
/-- e gives a value, no more -/
def Gets (prog : Program) (w : World) (e : Expr) (env : Env) (L : Addr) (m : Str → Option Value) : Prop :=
  ∀ (A : Around) (s : Shared) (E : Value → Shared → Prop) (Q : Value → Shared → Prop), s.heap.Ns L m → (∀ v tk', Q v { s with toks := tk' }) → wpAny (model prog w) A (eval e env) Q E s
theorem gets_says {e : Expr} (h : Says prog w e env L m) : Gets prog w e env L m := fun A s E Q hn k => h A s E Q hn fun y tk tk' _ => k _ _
theorem gets_joined {e1 e2 : Expr} {es : List Expr} {pos : Pos} (h : SaysAll prog w env L m (e1 :: e2 :: es)) (hz : (e1 :: e2 :: es).length ≤ 16 := by decide) : Gets prog w (.JoinedStr (e1 :: e2 :: es) pos) env L m := fun A s E Q hn k =>
  wpAny_JoinedStr (joins_of h _ _ _ hn (by
    have e0 : Str.empty.length = 0 := rfl
    rw [e0]; omega) fun out tk ho => ⟨by rw [sizeLine_eq]; omega, k _ _⟩)

/-! ### super().__init__(text) -/
/-- what the written part says of an own error whose __init__ hands a text on -/
structure ExsTxt (prog : Program) (K : Frag) (C fI cc cda : Addr) : Prop where
  cls : ∃ nm q N bs bm sn sub ab col dd k0 k1 k2 k3 k5, K.lookup C = some (excClassObj nm q C N bs bm true sn sub ab col dd k0 k1 k2 k3 k5 "ValueError.__new__") ∧ refsVE bm = true
  sa : findIn K (.ref C) "__setattr__" = some (some (.builtin "object.__setattr__"))
  iC : findIn K (.ref C) "__init__" = some (some (.ref fI))
  sup : ks_superIn K C C "__init__" = some (some (.builtin "ValueError.__init__"))
  ve : subIn K (.ref C) (.type "ValueError") = some true
  opq : nsIn K cStatics "thirdparty.any" = some none
  mro : mroIn K C (.ref C) = some true
  tI : typeIn K (.ref fI) = some (.type "function")
  code : ∃ ccl cdd vs ccs file tf, K.lookup cda = some ⟨ccl, cdd, .fields vs, ccs⟩ ∧ vs[2]? = some (.str file tf) ∧ ((prog.main.file : Str) == file) = true
  cell : ∃ cl cld csl, K.lookup cc = some ⟨cl, cld, .cell (some (.ref C)), csl⟩
  top : (prog.main.scope.names.lookup ("super" : Str)).isSome = false

section
variable {prog : Program} {w : World} {A : Around} {E : Value → Shared → Prop} {s : Shared} {K : Frag} {mg : Str → Option Value} {base : Heap} {C fI cc cda : Addr}
theorem exs_super {body : List Stmt} {q : Str} {scope : Scope} {e : Expr} {p0 p1 p2 p3 p4 : Pos} {fd : FuncData} {ar : Arg} {oc : Value} {od : Option Addr} {osl : Array (Option Value)} {L x t0 : Addr} {m : Str → Option Value} {Q : Flow → Shared → Prop}
    (T : ExsTxt prog K C fI cc cda) (M : L2.Mod K mg base) (kb : ∀ b o, base.get? b = some o → s.heap.get? b = some o) (hsup : mg "super" = none)
    (hf : K.lookup fI = some ⟨oc, od, .func fd, osl⟩) (hp : (fd.params.posonlyargs ++ fd.params.args).head? = some ar)
    (hn : s.heap.Ns L m) (hv : m ar.arg = some (.ref x)) (hx : s.heap.get? x = some (excO C t0))
    (hks : scope.names.lookup ("super" : Str) = some .globalImplicit) (hkc : scope.names.lookup ("__class__" : Str) = some .free) (hka : scope.names.lookup ar.arg = some .local) (hk : scope.kind = .function)
    (he : Gets prog w e (ksEnv q scope L fI (.ref cda) cc) L m)
    (hs : starEach [e] (ksEnv q scope L fI (.ref cda) cc) = [(false, eval e (ksEnv q scope L fI (.ref cda) cc))] := by rfl)
    (hsw : swapsWith (.Call (.Attribute (.Call (.Name "super" p0) [] [] p1) "__init__" p2) [e] [] p3) none p4.line (ksEnv q scope L fI (.ref cda) cc) = pure false := by rfl)
    (hint : interactive (ksEnv q scope L fI (.ref cda) cc) = false := by rfl)
    (hev : eval (.Call (.Attribute (.Call (.Name "super" p0) [] [] p1) "__init__" p2) [e] [] p3) (ksEnv q scope L fI (.ref cda) cc) = (do
      let ov ← attributeBase (.Call (.Name "super" p0) [] [] p1) "__init__" (ksEnv q scope L fI (.ref cda) cc) (eval (.Call (.Name "super" p0) [] [] p1) (ksEnv q scope L fI (.ref cda) cc))
      standAt p2.atName
      let (f, first) ← holding [ov] (getMethod ov "__init__" (pure false))
      callWith p3 f first (backTo p3 (starEach [e] (ksEnv q scope L fI (.ref cda) cc))) []) := by rfl)
    (hq : ∀ h' tk t1, (∀ b o, b ≠ x → s.heap.get? b = some o → h'.get? b = some o) → h'.get? x = some (excO C t1) → Q .next { s with heap := h', toks := tk }) :
    _root_.PySem.wpAt (model prog w) A (.func body (ksEnv q scope L fI (.ref cda) cc)) (exec (.Expr (.Call (.Attribute (.Call (.Name "super" p0) [] [] p1) "__init__" p2) [e] [] p3) p4) (ksEnv q scope L fI (.ref cda) cc)) Q E s := by
  obtain ⟨ccl, cdd, vs, ccs, file, tf, hcode, hvs, hfile⟩ := T.code
  obtain ⟨cl, cld, csl, hcell⟩ := T.cell
  obtain ⟨nm, q', N, bs, bm, sn, sub, ab, col, dd, k0, k1, k2, k3, k5, hC, hbm⟩ := T.cls
  have X : K.In s.heap := M.kin.keeps kb
  have hCh := X _ _ hC
  obtain ⟨mb, hmb, hbt⟩ := M.blt
  have hxC : x ≠ C := fun z => by
    rw [z, hCh] at hx
    cases hx
  refine ks_wpAt_Expr_any ?_ hint hsw
  refine ks_wpAt_MethodCall ?_ hev
  refine ks_wpAt_super_base (env := ksEnv q scope L fI (.ref cda) cc) hks hkc (by decide) rfl (X _ _ hf) rfl hp rfl (X _ _ hcode) rfl hvs hfile T.top ?_
  refine ks_loadName_global hk hks (loadGlobal_builtin (env := ksEnv q scope L fI (.ref cda) cc) (M.glob.keeps kb) hsup (hmb.keeps kb) ((hbt _ (by decide)).trans (by kernel_rfl)) ⟨rfl, ?_⟩)
  refine wpAny_loadName_free hk hkc rfl ⟨_, X _ _ hcell, rfl⟩ ?_
  refine wpAny_loadName_local hk hka hn hv ?_
  refine ks_wpAny_isType_cls hCh rfl ⟨rfl, ?_⟩
  obtain ⟨hh, g, d, t, os⟩ := s
  refine ks_wpAny_call_super hCh rfl hx rfl (fun c z => by cases z) (looks_mroIn X T.mro) (fun h1 hso k1 => ?_)
  have X1 : K.In h1 := X.keeps k1
  have hx1 := k1 _ _ hx
  have hC1 := k1 _ _ hCh
  have hI : Looks (model prog w) h1 (isInstance (.ref x) (.type "ValueError")) true :=
    (show Looks (model prog w) h1 (typeOf (.ref x)) (.ref C) from (show InstAt h1 x (excO C t0) C none from ⟨hx1, rfl, rfl, trivial⟩).type).andThen (looks_subIn X1 T.ve)
  have hm := T.sup
  have hcl : clsIn K C = some { name := nm, bases := bs, mro := .ref C :: bm, ns := N, qualname := q', hasDict := true, slotNames := sn, subclasses := sub, abstract := ab, collection := col, hasDel := false } := by unfold clsIn; rw [hC] <;> rfl
  unfold ks_superIn at hm
  rw [hcl] at hm
  refine kxs_getMethod kxs_ValueError hso (looks_opaque X1 T.opq) (l₀ := .ref C :: bm) (fun A Q E s k q => wpAny_bind ((looks_clsIn X1 hcl) A _ E s k (wpAny_pure q))) rfl X1 hm hI hxC (by decide) ?_
  have hu : (h1.push (kxs_mw "ValueError.__init__" x)).get? h1.objs.size = some (kxs_mw "ValueError.__init__" x) := Heap.get?_push_at rfl rfl
  have k2 : ∀ b o, h1.get? b = some o → (h1.push (kxs_mw "ValueError.__init__" x)).get? b = some o := fun b o z => Heap.get?_push_of_some _ z
  rw [hs]
  refine kxs_callWith (i := "ValueError.__init__") (x := x) (u := h1.objs.size) rfl ?_
  refine Calls.evalArgs_plain (Calls.spliced_cons (he _ _ _ _ ((hn.keeps k1).keeps k2) fun v tk' => Calls.spliced_nil ⟨hu, ?_⟩))
  refine wpAny_call (codeAny_of_tree ?_)
  show wpAny _ _ (callAny (.ref h1.objs.size) ⟨[v], []⟩) _ _ _
  simp only [callAny]
  refine wpAny_bind (wpAny_load hu ?_)
  simp only [kxs_mw, show (Value.type "method-wrapper" == Value.type "method" || Value.type "method-wrapper" == Value.type "builtin_function_or_method" || Value.type "method-wrapper" == Value.type "method-wrapper") = true by decide, if_true]
  refine KFB.if_so (by decide) ?_
  refine wpAny_bind (check_bound_init F.excBase_ValueError.toExcCallFacts (k2 _ _ hC1) (k2 _ _ hx1) rfl ?_)
  refine wpAny_bind (wpAny_pure (wpAny_pure ?_))
  refine ⟨plainId_quiet F.excBase_ValueError.init.plain _, codeAny_builtin F.excBase_ValueError.initEntry ?_⟩
  refine exc_init_tree (cls := .ref C) (t0 := t0) (dv := none) (c2 := .none) (c3 := .none) (b4 := .bool false) (k2 _ _ hx1) (by rw [sizeLine_eq]; show 1 ≤ 16777216; decide) fun h' k' e' t' => ?_
  exact hq h' _ _ (fun b o hb z => k' b o hb (k2 b o (k1 b o z))) e'

/-! ### self.f = p -/
theorem ldE {M : Model} {env : Env} {L : Addr} {m : Str → Option Value} {y : Str} {pos : Pos} {v : Value} {Q : Value → Shared → Prop} (hn : s.heap.Ns L m) (hL : env.locals = L) (hv : m y = some v) (h : Q v s) (hk : env.scope.kind = .function) (hl : env.kindOf y = some .local)
    (hd : (y == ("__debug__" : Str)) = false) : wpAny M A (eval (.Name y pos) env) Q E s := by
  subst hL
  exact wpAny_Name (wpAny_loadName_local hk hl hn hv h) hd
/-- the first store -/
theorem exs_st1 {env : Env} {f y sf : Str} {q1 q2 q3 q4 : Pos} {L x t0 : Addr} {m : Str → Option Value} {v : Value} {Q : Flow → Shared → Prop} (T : ExsTxt prog K C fI cc cda) (X : K.In s.heap) (hno : findIn K (.ref C) f = some none)
    (hn : s.heap.Ns L m) (hL : env.locals = L) (hk : env.scope.kind = .function) (h1 : m sf = some (.ref x)) (h2 : m y = some v) (l1 : env.kindOf sf = some .local) (l2 : env.kindOf y = some .local) (d1 : (sf == ("__debug__" : Str)) = false) (d2 : (y == ("__debug__" : Str)) = false)
    (hx : s.heap.get? x = some (excO C t0)) (hsw : swapsWith (.Name y q3) (some (.Attribute (.Name sf q1) f q2)) q4.line env = pure false)
    (hq : ∀ h' tk dx, (∀ b o, b ≠ x → s.heap.get? b = some o → h'.get? b = some o) → s.heap.objs.size ≤ dx → dx ≠ x → h'.get? x = some { cls := .ref C, dict := some dx, data := .fields #[.ref t0, .none, .none, .none, .bool false, .none] } →
      h'.Ns1 dx (fun z => if z = f then some v else none) → Q .next { s with heap := h', toks := tk }) :
    wpAny (model prog w) A (exec (.Assign [.Attribute (.Name sf q1) f q2] (.Name y q3) q4) env) Q E s := by
  obtain ⟨nm, q', N, bs, bm, sn, sub, ab, col, dd, k0, k1, k2, k3, k5, hC, hbm⟩ := T.cls
  have hcl : clsIn K C = some { name := nm, bases := bs, mro := .ref C :: bm, ns := N, qualname := q', hasDict := true, slotNames := sn, subclasses := sub, abstract := ab, collection := col, hasDel := false } := by unfold clsIn; rw [hC] <;> rfl
  refine plainObj_wpAny_Assign_Attribute ?_ hsw
  refine ldE hn hL h2 (ldE hn hL h1 ?_ hk l1 d1) hk l2 d2
  obtain ⟨hh, g, d, t, os⟩ := s
  refine set_plain X (ox := excO C t0) (od := none) ⟨hx, rfl, rfl, trivial⟩ T.sa ?_
  exact HandSPX.exc_osa X hx hcl (show refsVE (.ref C :: bm) = true from hbm) rfl hno (fun h' tk dx k dn dne hx' hn' => hq h' tk dx k dn dne hx' hn')
/-- a later one -/
theorem exs_st2 {env : Env} {f y sf : Str} {q1 q2 q3 q4 : Pos} {L x t0 dx : Addr} {m m0 : Str → Option Value} {nl : List Str} {v : Value} {Q : Flow → Shared → Prop} (T : ExsTxt prog K C fI cc cda) (X : K.In s.heap) (hno : findIn K (.ref C) f = some none)
    (hn : s.heap.Ns L m) (hL : env.locals = L) (hk : env.scope.kind = .function) (h1 : m sf = some (.ref x)) (h2 : m y = some v) (l1 : env.kindOf sf = some .local) (l2 : env.kindOf y = some .local) (d1 : (sf == ("__debug__" : Str)) = false) (d2 : (y == ("__debug__" : Str)) = false)
    (hx : s.heap.get? x = some { cls := .ref C, dict := some dx, data := .fields #[.ref t0, .none, .none, .none, .bool false, .none] }) (hd : s.heap.Ns1 dx m0) (hw : Within m0 nl) (hz : nl.length ≤ 1000) (hsw : swapsWith (.Name y q3) (some (.Attribute (.Name sf q1) f q2)) q4.line env = pure false)
    (hq : ∀ h' tk, (∀ b o, b ≠ dx → s.heap.get? b = some o → h'.get? b = some o) → h'.Ns1 dx (fun z => if z = f then some v else m0 z) → Q .next { s with heap := h', toks := tk }) :
    wpAny (model prog w) A (exec (.Assign [.Attribute (.Name sf q1) f q2] (.Name y q3) q4) env) Q E s := by
  obtain ⟨nm, q', N, bs, bm, sn, sub, ab, col, dd, k0, k1, k2, k3, k5, hC, hbm⟩ := T.cls
  have hcl : clsIn K C = some { name := nm, bases := bs, mro := .ref C :: bm, ns := N, qualname := q', hasDict := true, slotNames := sn, subclasses := sub, abstract := ab, collection := col, hasDel := false } := by unfold clsIn; rw [hC] <;> rfl
  refine plainObj_wpAny_Assign_Attribute ?_ hsw
  refine ldE hn hL h2 (ldE hn hL h1 ?_ hk l1 d1) hk l2 d2
  obtain ⟨oD, _, _, hoD, _, _⟩ := hd.count hw
  obtain ⟨hh, g, d, t, os⟩ := s
  refine set_plain X (ox := { cls := .ref C, dict := some dx, data := .fields #[.ref t0, .none, .none, .none, .bool false, .none] }) (od := some oD) ⟨hx, rfl, rfl, hoD⟩ T.sa ?_
  exact PySem.OEX.osa_old X hx hd hw hz hcl (show refsVE (.ref C :: bm) = true from hbm) rfl hno (fun h' tk k hn' => hq h' tk k hn')
end
end
end Ox

namespace Ox
open PySem PySem.Spec PySem.W PySem.Calls PyProof.Rows PySem.HandSPX
/-- what __init__ leaves of the object at x: its fields fs, the last one first -/
structure ExsEnd (h h' : Heap) (x C : Addr) (fs : List (Str × Value)) : Prop where
  keep : ∀ b o, b ≠ x → h.get? b = some o → h'.get? b = some o
  obj : (fs = [] ∧ ∃ t1, h'.get? x = some (excO C t1)) ∨ fs ≠ [] ∧ ∃ dx t1 m, h'.get? x = some { cls := .ref C, dict := some dx, data := .fields #[.ref t1, .none, .none, .none, .bool false, .none] } ∧ h.objs.size ≤ dx ∧ dx ≠ x ∧ h'.Ns1 dx m ∧ ∀ y, m y = fs.lookup y
section
variable {prog : Program} {w : World} {A : Around} {E : Value → Shared → Prop} {s : Shared} {K : Frag} {mg : Str → Option Value} {base : Heap} {C fI cc cda : Addr}
/-- the way in -/
theorem exs_enter {qual : Str} {params : Arguments} {scope : Scope} {stores : List Stmt} {e : Expr} {p0 p1 p2 p3 p4 : Pos} {ar : Arg} {oc dV kV doc pm ct : Value} {od an : Option Addr} {osl : Array (Option Value)} {x t0 : Addr} {args : Args} {binds : List (Str × Value)} {R : Result → Shared → Prop}
    (T : ExsTxt prog K C fI cc cda) (M : L2.Mod K mg base) (kb : ∀ b o, base.get? b = some o → s.heap.get? b = some o) (hsup : mg "super" = none) (hroom : A.depth < recursionLimit)
    (hf : K.lookup fI = some ⟨oc, od, .func (ksFn "__init__" qual params (.Expr (.Call (.Attribute (.Call (.Name "super" p0) [] [] p1) "__init__" p2) [e] [] p3) p4 :: stores) scope dV kV doc pm an (.ref cda) ct cc), osl⟩)
    (hcd : codeIn K (.ref cda) qual = true) (hp : (params.posonlyargs ++ params.args).head? = some ar)
    (hbind : BindsTo s (ksFn "__init__" qual params (.Expr (.Call (.Attribute (.Call (.Name "super" p0) [] [] p1) "__init__" p2) [e] [] p3) p4 :: stores) scope dV kV doc pm an (.ref cda) ct cc) args binds)
    (hv : binds.reverse.lookup ar.arg = some (.ref x)) (hx : s.heap.get? x = some (excO C t0))
    (hks : scope.names.lookup ("super" : Str) = some .globalImplicit) (hkc : scope.names.lookup ("__class__" : Str) = some .free) (hka : scope.names.lookup ar.arg = some .local) (hk : scope.kind = .function)
    (hcell : ∀ x ∈ scope.names, x.2 ≠ .cell) (hloc : ∀ y ∈ binds, scope.names.lookup y.1 = some .local) (hco : scope.isCoroutine = false) (hgen : scope.isGenerator = false)
    (he : ∀ L, Gets prog w e (ksEnv qual scope L fI (.ref cda) cc) L (fun y => binds.reverse.lookup y))
    (hs : ∀ L, starEach [e] (ksEnv qual scope L fI (.ref cda) cc) = [(false, eval e (ksEnv qual scope L fI (.ref cda) cc))] := by exact fun _ => rfl)
    (hsw : ∀ L, swapsWith (.Call (.Attribute (.Call (.Name "super" p0) [] [] p1) "__init__" p2) [e] [] p3) none p4.line (ksEnv qual scope L fI (.ref cda) cc) = pure false := by exact fun _ => rfl)
    (hint : ∀ L, interactive (ksEnv qual scope L fI (.ref cda) cc) = false := by exact fun _ => rfl)
    (hev : ∀ L, eval (.Call (.Attribute (.Call (.Name "super" p0) [] [] p1) "__init__" p2) [e] [] p3) (ksEnv qual scope L fI (.ref cda) cc) = (do
      let ov ← attributeBase (.Call (.Name "super" p0) [] [] p1) "__init__" (ksEnv qual scope L fI (.ref cda) cc) (eval (.Call (.Name "super" p0) [] [] p1) (ksEnv qual scope L fI (.ref cda) cc))
      standAt p2.atName
      let (f, first) ← holding [ov] (getMethod ov "__init__" (pure false))
      callWith p3 f first (backTo p3 (starEach [e] (ksEnv qual scope L fI (.ref cda) cc))) []) := by exact fun _ => rfl)
    (hq : ∀ (L : Addr) (h1 : Heap) (tk t1 : Nat) (E' : Value → Shared → Prop), L = s.heap.objs.size → h1.Ns L (fun y => binds.reverse.lookup y) → (∀ b o, b ≠ x → s.heap.get? b = some o → h1.get? b = some o) → h1.get? x = some (excO C t1) →
      wpAny (model prog w) (A.deeper (ksEnv qual scope L fI (.ref cda) cc)) (execs stores (ksEnv qual scope L fI (.ref cda) cc)) (fun f s' => R (.ok (.ret (match f with | .ret v => v | _ => .none))) s') E' { s with heap := h1, toks := tk }) :
    codeAny (model prog w) A (.call (.ref fI) args) R s := by
  have X : K.In s.heap := M.kin.keeps kb
  have hxL : s.heap.objs.size ≠ x := Nat.ne_of_gt (Heap.lt_size hx)
  refine ks_codeAny_call_defAt (fd := ksFn "__init__" qual params _ scope dV kV doc pm an (.ref cda) ct cc) (binds := binds) hroom (X _ _ hf) rfl (M.nolimit.keeps kb) (codeRec_of X hcd) rfl hbind hcell hloc (fun h0 hns hk0 => ?_) hco hgen hk
  refine ks_wpAt_execs_cons ?_
  refine exs_super T M (fun b o z => hk0 b o (kb b o z)) hsup hf hp hns hv (hk0 _ _ hx) hks hkc hka hk (he _) (hs _) (hsw _) (hint _) (hev _) fun h' tk t1 k' hx' => ?_
  refine wpAt_of_wpAny (hq _ h' tk t1 _ rfl ?_ (fun b o hb z => k' b o hb (hk0 b o z)) hx')
  obtain ⟨oL, es, ep, hoL, r⟩ := hns
  exact ⟨oL, es, ep, k' _ _ hxL hoL, r⟩
theorem execs_end {env : Env} {R : Result → Shared → Prop} {Q : Flow → Shared → Prop} (h : Q .next s) : wpAny (model prog w) A (execs [] env) Q E s := wpAny_execs_nil h
theorem lookup1 {f : Str} {v : Value} (y : Str) : (if y = f then some v else none) = List.lookup y [(f, v)] := by
  by_cases h : y = f
  · subst h; simp [List.lookup]
  · have e : (y == f) = false := by simpa using h
    rw [if_neg h]; simp [List.lookup, e]
theorem lookup2 {f g : Str} {v u : Value} (y : Str) : (if y = f then some v else if y = g then some u else none) = List.lookup y [(f, v), (g, u)] := by
  rw [lookup1 (f := g)]
  by_cases h : y = f
  · subst h; simp [List.lookup]
  · have e : (y == f) = false := by simpa using h
    rw [if_neg h]; simp [List.lookup, e]
/-- no field -/
theorem exs_end0 {env : Env} {x L t1 : Addr} {h0 h1 : Heap} {tk : Nat} {R : Result → Shared → Prop} {E' : Value → Shared → Prop} (k : ∀ b o, b ≠ x → h0.get? b = some o → h1.get? b = some o) (hx : h1.get? x = some (excO C t1))
    (hq : ∀ h' tk, ExsEnd h0 h' x C [] → R (.ok (.ret .none)) { s with heap := h', toks := tk }) :
    wpAny (model prog w) A (execs [] env) (fun f s' => R (.ok (.ret (match f with | .ret v => v | _ => .none))) s') E' { s with heap := h1, toks := tk } :=
  wpAny_execs_nil (hq h1 tk ⟨k, .inl ⟨rfl, t1, hx⟩⟩)
/-- one field -/
theorem exs_end1 {env : Env} {f y sf : Str} {q1 q2 q3 q4 : Pos} {x L t1 : Addr} {m : Str → Option Value} {v : Value} {h0 h1 : Heap} {tk : Nat} {R : Result → Shared → Prop} {E' : Value → Shared → Prop} (T : ExsTxt prog K C fI cc cda) (X : K.In h1) (hno : findIn K (.ref C) f = some none)
    (hn : h1.Ns L m) (hL : env.locals = L) (hk : env.scope.kind = .function) (h1' : m sf = some (.ref x)) (h2 : m y = some v) (l1 : env.kindOf sf = some .local) (l2 : env.kindOf y = some .local) (d1 : (sf == ("__debug__" : Str)) = false) (d2 : (y == ("__debug__" : Str)) = false)
    (hsw : swapsWith (.Name y q3) (some (.Attribute (.Name sf q1) f q2)) q4.line env = pure false) (lz : L = h0.objs.size)
    (k : ∀ b o, b ≠ x → h0.get? b = some o → h1.get? b = some o) (hx : h1.get? x = some (excO C t1))
    (hq : ∀ h' tk, ExsEnd h0 h' x C [(f, v)] → R (.ok (.ret .none)) { s with heap := h', toks := tk }) :
    wpAny (model prog w) A (execs [.Assign [.Attribute (.Name sf q1) f q2] (.Name y q3) q4] env) (fun f s' => R (.ok (.ret (match f with | .ret v => v | _ => .none))) s') E' { s with heap := h1, toks := tk } := by
  refine wpAny_execs_cons (exs_st1 T X hno hn hL hk h1' h2 l1 l2 d1 d2 hx hsw fun h' tk' dx k' dn dne hx' hn' => ?_)
  have z := hn.lt
  exact wpAny_execs_nil (hq h' tk' ⟨fun b o hb e => k' b o hb (k b o hb e), .inr ⟨(fun z => nomatch z), dx, t1, _, hx', Nat.le_trans (by rw [← lz]; exact Nat.le_of_lt z) dn, dne, hn', fun y => lookup1 y⟩⟩)
/-- two fields -/
theorem exs_end2 {env : Env} {f y sf f2 y2 : Str} {q1 q2 q3 q4 r1 r2 r3 r4 : Pos} {x L t1 : Addr} {m : Str → Option Value} {v v2 : Value} {h0 h1 : Heap} {tk : Nat} {R : Result → Shared → Prop} {E' : Value → Shared → Prop} (T : ExsTxt prog K C fI cc cda) (X : K.In h1) (hno : findIn K (.ref C) f = some none) (hno2 : findIn K (.ref C) f2 = some none)
    (hn : h1.Ns L m) (hL : env.locals = L) (hk : env.scope.kind = .function) (h1' : m sf = some (.ref x)) (h2 : m y = some v) (h22 : m y2 = some v2) (l1 : env.kindOf sf = some .local) (l2 : env.kindOf y = some .local) (l22 : env.kindOf y2 = some .local)
    (d1 : (sf == ("__debug__" : Str)) = false) (d2 : (y == ("__debug__" : Str)) = false) (d22 : (y2 == ("__debug__" : Str)) = false)
    (hsw : swapsWith (.Name y q3) (some (.Attribute (.Name sf q1) f q2)) q4.line env = pure false) (hsw2 : swapsWith (.Name y2 r3) (some (.Attribute (.Name sf r1) f2 r2)) r4.line env = pure false) (lz : L = h0.objs.size) (hxK : K.lookup x = none) (Lx : L ≠ x)
    (k : ∀ b o, b ≠ x → h0.get? b = some o → h1.get? b = some o) (hx : h1.get? x = some (excO C t1))
    (hq : ∀ h' tk, ExsEnd h0 h' x C [(f2, v2), (f, v)] → R (.ok (.ret .none)) { s with heap := h', toks := tk }) :
    wpAny (model prog w) A (execs [.Assign [.Attribute (.Name sf q1) f q2] (.Name y q3) q4, .Assign [.Attribute (.Name sf r1) f2 r2] (.Name y2 r3) r4] env) (fun f s' => R (.ok (.ret (match f with | .ret v => v | _ => .none))) s') E' { s with heap := h1, toks := tk } := by
  refine wpAny_execs_cons (exs_st1 T X hno hn hL hk h1' h2 l1 l2 d1 d2 hx hsw fun h' tk' dx k' dn dne hx' hn' => ?_)
  have z := hn.lt
  have X' : K.In h' := fun a o e => k' a o (fun z => by rw [z, hxK] at e; cases e) (X a o e)
  have hn2 : h'.Ns L m := by
    obtain ⟨oL, es, ep, hoL, r⟩ := hn
    exact ⟨oL, es, ep, k' _ _ Lx hoL, r⟩
  have hw : Within (fun z => if z = f then some v else none) [f] := Within.cons f v Within.nil
  refine wpAny_execs_cons (exs_st2 (nl := [f]) T X' hno2 hn2 hL hk h1' h22 l1 l22 d1 d22 hx' hn' hw (by show 1 ≤ 1000; decide) hsw2 fun h2' tk2 k2 hn3 => ?_)
  have dlt : h0.objs.size ≤ dx := Nat.le_trans (by rw [← lz]; exact Nat.le_of_lt z) dn
  refine wpAny_execs_nil (hq h2' tk2 ⟨fun b o hb e => k2 b o (fun e2 => ?_) (k' b o hb (k b o hb e)), .inr ⟨(fun z => nomatch z), dx, t1, _, k2 _ _ (Ne.symm dne) hx', dlt, dne, hn3, fun y => lookup2 y⟩⟩)
  have z3 := Heap.lt_size e
  rw [e2] at z3
  exact absurd (Nat.lt_of_lt_of_le z3 dlt) (Nat.lt_irrefl _)
end
end Ox

namespace Ox
open PySem PySem.Spec PySem.W PySem.Calls PyProof.Rows PySem.HandSPX
/-- the class at C: its __init__ stands at fI, its parameters are ps; what they are is stored under their names -/
structure ExsI (prog : Program) (w : World) (K : Frag) (mg : Str → Option Value) (base : Heap) (C fI : Addr) (fd : FuncData) (ps : List Str) : Prop where
  cls : ∃ nm q N bs bm sn sub ab col dd k0 k1 k2 k3 k5, K.lookup C = some (excClassObj nm q C N bs bm true sn sub ab col dd k0 k1 k2 k3 k5 "ValueError.__new__") ∧ refsVE bm = true
  iC : findIn K (.ref C) "__init__" = some (some (.ref fI))
  tI : typeIn K (.ref fI) = some (.type "function")
  kC : keepIn K (.ref C) = true
  exC : subIn K (.ref C) (.type "BaseException") = some true
  tyC : typeIn K (.ref C) = some (.type "type")
  run : ∀ (A : Around) (s : Shared) (x t0 : Addr) (us : List Value) (args : Args) (R : Result → Shared → Prop), us.length = ps.length → (∀ u ∈ us, Fine u) → (∀ b o, base.get? b = some o → s.heap.get? b = some o) →
    s.heap.get? x = some (excO C t0) → K.lookup x = none → A.depth < recursionLimit → BindsTo s fd args (("self", .ref x) :: ps.zip us) →
    (∀ h' tk, ExsEnd s.heap h' x C (ps.zip us).reverse → R (.ok (.ret .none)) { s with heap := h', toks := tk }) → codeAny (model prog w) A (.call (.ref fI) args) R s
  pos : ∀ (s : Shared) (x : Value) (us : List Value), us.length = ps.length → BindsTo s fd ⟨x :: us, []⟩ (("self", x) :: ps.zip us)
/-- what each class's text must show -/
structure ExsK (K : Frag) (C : Addr) : Prop where
  kC : keepIn K (.ref C) = true
  exC : subIn K (.ref C) (.type "BaseException") = some true
  tyC : typeIn K (.ref C) = some (.type "type")
abbrev supE (p0 p1 p2 p3 : Pos) (e : Expr) : Expr := .Call (.Attribute (.Call (.Name "super" p0) [] [] p1) "__init__" p2) [e] [] p3
abbrev supS (p0 p1 p2 p3 p4 : Pos) (e : Expr) : Stmt := .Expr (supE p0 p1 p2 p3 e) p4
abbrev setS (f : Str) (q1 q2 q3 q4 : Pos) : Stmt := .Assign [.Attribute (.Name "self" q1) f q2] (.Name f q3) q4
abbrev parS (l : List Arg) : Arguments := { posonlyargs := [], args := l, vararg := none, kwonlyargs := [], kw_defaults := [], kwarg := none, defaults := [] }
/-- how the text reads in the frame of such a def -/
structure ExsRd (prog : Program) (w : World) (env : Env) (L : Addr) (m : Str → Option Value) (p0 p1 p2 p3 p4 : Pos) (e : Expr) : Prop where
  he : Gets prog w e env L m
  hs : starEach [e] env = [(false, eval e env)]
  hsw : swapsWith (supE p0 p1 p2 p3 e) none p4.line env = pure false
  hint : interactive env = false
  hev : eval (supE p0 p1 p2 p3 e) env = (do
      let ov ← attributeBase (.Call (.Name "super" p0) [] [] p1) "__init__" env (eval (.Call (.Name "super" p0) [] [] p1) env)
      standAt p2.atName
      let (f, first) ← holding [ov] (getMethod ov "__init__" (pure false))
      callWith p3 f first (backTo p3 (starEach [e] env)) [])
/-- the scope of such a def -/
structure ExsSc (scope : Scope) (ps : List Str) : Prop where
  hks : scope.names.lookup ("super" : Str) = some .globalImplicit
  hkc : scope.names.lookup ("__class__" : Str) = some .free
  hka : ∀ y ∈ ("self" : Str) :: ps, scope.names.lookup y = some .local
  hdb : ∀ y ∈ ("self" : Str) :: ps, (y == ("__debug__" : Str)) = false
  hk : scope.kind = .function
  hcell : ∀ x ∈ scope.names, x.2 ≠ .cell
  hco : scope.isCoroutine = false
  hgen : scope.isGenerator = false
section
variable {prog : Program} {w : World} {K : Frag} {mg : Str → Option Value} {base : Heap} {C fI cc cda : Addr} {qual : Str} {scope : Scope} {p0 p1 p2 p3 p4 : Pos} {oc dV kV doc pm ct : Value} {od an : Option Addr} {osl : Array (Option Value)}
theorem exsI0 {e : Expr} {ar : Arg} (T : ExsTxt prog K C fI cc cda) (T2 : ExsK K C) (M : L2.Mod K mg base) (hsup : mg "super" = none)
    (hf : K.lookup fI = some ⟨oc, od, .func (ksFn "__init__" qual (parS [ar]) [supS p0 p1 p2 p3 p4 e] scope dV kV doc pm an (.ref cda) ct cc), osl⟩)
    (hcd : codeIn K (.ref cda) qual = true) (har : ar.arg = "self") (S : ExsSc scope [])
    (rd : ∀ (L : Addr) (x : Value), ExsRd prog w (ksEnv qual scope L fI (.ref cda) cc) L (fun y => ([(("self" : Str), x)] : List (Str × Value)).reverse.lookup y) p0 p1 p2 p3 p4 e)
    (hpos : ∀ (x : Value), bindArgs (ksFn "__init__" qual (parS [ar]) [supS p0 p1 p2 p3 p4 e] scope dV kV doc pm an (.ref cda) ct cc) ⟨[x], []⟩ = (pure [(("self" : Str), x)] : Sem (List (Str × Value)))) :
    ExsI prog w K mg base C fI (ksFn "__init__" qual (parS [ar]) [supS p0 p1 p2 p3 p4 e] scope dV kV doc pm an (.ref cda) ct cc) [] where
  cls := T.cls
  iC := T.iC
  tI := T.tI
  kC := T2.kC
  exC := T2.exC
  tyC := T2.tyC
  pos := fun s x us hl => match us, hl with | [], _ => .of_eq (hpos x)
  run := fun A s x t0 us args R hl hfi kb hx hxK hr hb hq => by
    obtain rfl : us = [] := List.length_eq_zero_iff.mp hl
    have rd' := fun L => rd L (.ref x)
    have lself : ([(("self" : Str), .ref x)] : List (Str × Value)).reverse.lookup ("self" : Str) = some (.ref x) := by
      simp [List.lookup]
    refine exs_enter (binds := [(("self" : Str), .ref x)]) T M kb hsup hr hf hcd rfl hb (by rw [har]; exact lself) hx S.hks S.hkc (by rw [har]; exact S.hka _ (by simp)) S.hk S.hcell (fun y hy => ?_) S.hco S.hgen (fun L => (rd' L).he) (fun L => (rd' L).hs) (fun L => (rd' L).hsw) (fun L => (rd' L).hint) (fun L => (rd' L).hev) fun L h1 tk t1 E' lz hn k hx1 => ?_
    · refine S.hka _ ?_
      simp only [List.mem_cons, List.not_mem_nil, or_false] at hy ⊢
      rw [hy]
    · exact exs_end0 (L := L) (h0 := s.heap) k hx1 fun h' tk' z => hq h' tk' z
theorem exsI1 {e : Expr} {ar ar1 : Arg} {f : Str} {q1 q2 q3 q4 : Pos} (T : ExsTxt prog K C fI cc cda) (T2 : ExsK K C) (M : L2.Mod K mg base) (hsup : mg "super" = none)
    (hf : K.lookup fI = some ⟨oc, od, .func (ksFn "__init__" qual (parS [ar, ar1]) [supS p0 p1 p2 p3 p4 e, setS f q1 q2 q3 q4] scope dV kV doc pm an (.ref cda) ct cc), osl⟩)
    (hcd : codeIn K (.ref cda) qual = true) (har : ar.arg = "self") (dsf : (("self" : Str) == f) = false) (S : ExsSc scope [f]) (hn1 : findIn K (.ref C) f = some none) (hw1 : ∀ L, swapsWith (.Name f q3) (some (.Attribute (.Name "self" q1) f q2)) q4.line (ksEnv qual scope L fI (.ref cda) cc) = pure false)
    (rd : ∀ (L : Addr) (x : Value) (u : Value) (hfu : Fine u), ExsRd prog w (ksEnv qual scope L fI (.ref cda) cc) L (fun y => ([(("self" : Str), x), (f, u)] : List (Str × Value)).reverse.lookup y) p0 p1 p2 p3 p4 e)
    (hpos : ∀ (x : Value) (u : Value), bindArgs (ksFn "__init__" qual (parS [ar, ar1]) [supS p0 p1 p2 p3 p4 e, setS f q1 q2 q3 q4] scope dV kV doc pm an (.ref cda) ct cc) ⟨[x, u], []⟩ = (pure [(("self" : Str), x), (f, u)] : Sem (List (Str × Value)))) :
    ExsI prog w K mg base C fI (ksFn "__init__" qual (parS [ar, ar1]) [supS p0 p1 p2 p3 p4 e, setS f q1 q2 q3 q4] scope dV kV doc pm an (.ref cda) ct cc) [f] where
  cls := T.cls
  iC := T.iC
  tI := T.tI
  kC := T2.kC
  exC := T2.exC
  tyC := T2.tyC
  pos := fun s x us hl => match us, hl with | [u], _ => .of_eq (hpos x u)
  run := fun A s x t0 us args R hl hfi kb hx hxK hr hb hq => by
    obtain ⟨u, rfl⟩ : ∃ u, us = [u] := by
      match us, hl with
      | [u], _ => exact ⟨_, rfl⟩
    have hu : Fine u := hfi u (by simp)
    have rd' := fun L => rd L (.ref x) u hu
    have lself : ([(("self" : Str), .ref x), (f, u)] : List (Str × Value)).reverse.lookup ("self" : Str) = some (.ref x) := by
      have e1 : (("self" : Str) == f) = false := dsf
      simp [List.lookup, e1]
    have lf : ([(("self" : Str), .ref x), (f, u)] : List (Str × Value)).reverse.lookup f = some u := by simp [List.lookup]
    refine exs_enter (binds := [(("self" : Str), .ref x), (f, u)]) T M kb hsup hr hf hcd rfl hb (by rw [har]; exact lself) hx S.hks S.hkc (by rw [har]; exact S.hka _ (by simp)) S.hk S.hcell (fun y hy => ?_) S.hco S.hgen (fun L => (rd' L).he) (fun L => (rd' L).hs) (fun L => (rd' L).hsw) (fun L => (rd' L).hint) (fun L => (rd' L).hev) fun L h1 tk t1 E' lz hn k hx1 => ?_
    · refine S.hka _ ?_
      simp only [List.mem_cons, List.not_mem_nil, or_false] at hy ⊢
      rcases hy with rfl | rfl <;> simp
    · have X1 : K.In h1 := fun a o e => k a o (fun z => by rw [z, hxK] at e; cases e) (M.kin.keeps kb a o e)
      exact exs_end1 (L := L) (h0 := s.heap) T X1 hn1 hn rfl S.hk lself lf (S.hka _ (by simp)) (S.hka _ (by simp)) (S.hdb _ (by simp)) (S.hdb _ (by simp)) (hw1 L) lz k hx1 fun h' tk' z => hq h' tk' z
theorem exsI2 {e : Expr} {ar ar1 ar2 : Arg} {f : Str} {q1 q2 q3 q4 : Pos} {g : Str} {r1 r2 r3 r4 : Pos} (T : ExsTxt prog K C fI cc cda) (T2 : ExsK K C) (M : L2.Mod K mg base) (hsup : mg "super" = none)
    (hf : K.lookup fI = some ⟨oc, od, .func (ksFn "__init__" qual (parS [ar, ar1, ar2]) [supS p0 p1 p2 p3 p4 e, setS f q1 q2 q3 q4, setS g r1 r2 r3 r4] scope dV kV doc pm an (.ref cda) ct cc), osl⟩)
    (hcd : codeIn K (.ref cda) qual = true) (har : ar.arg = "self") (dsf : (("self" : Str) == f) = false) (dsg : (("self" : Str) == g) = false) (S : ExsSc scope [f, g]) (hn1 : findIn K (.ref C) f = some none) (hn2 : findIn K (.ref C) g = some none) (hw1 : ∀ L, swapsWith (.Name f q3) (some (.Attribute (.Name "self" q1) f q2)) q4.line (ksEnv qual scope L fI (.ref cda) cc) = pure false) (hw2 : ∀ L, swapsWith (.Name g r3) (some (.Attribute (.Name "self" r1) g r2)) r4.line (ksEnv qual scope L fI (.ref cda) cc) = pure false) (dfg : ¬ f = g)
    (rd : ∀ (L : Addr) (x : Value) (u v : Value) (hfu : Fine u) (hfv : Fine v), ExsRd prog w (ksEnv qual scope L fI (.ref cda) cc) L (fun y => ([(("self" : Str), x), (f, u), (g, v)] : List (Str × Value)).reverse.lookup y) p0 p1 p2 p3 p4 e)
    (hpos : ∀ (x : Value) (u v : Value), bindArgs (ksFn "__init__" qual (parS [ar, ar1, ar2]) [supS p0 p1 p2 p3 p4 e, setS f q1 q2 q3 q4, setS g r1 r2 r3 r4] scope dV kV doc pm an (.ref cda) ct cc) ⟨[x, u, v], []⟩ = (pure [(("self" : Str), x), (f, u), (g, v)] : Sem (List (Str × Value)))) :
    ExsI prog w K mg base C fI (ksFn "__init__" qual (parS [ar, ar1, ar2]) [supS p0 p1 p2 p3 p4 e, setS f q1 q2 q3 q4, setS g r1 r2 r3 r4] scope dV kV doc pm an (.ref cda) ct cc) [f, g] where
  cls := T.cls
  iC := T.iC
  tI := T.tI
  kC := T2.kC
  exC := T2.exC
  tyC := T2.tyC
  pos := fun s x us hl => match us, hl with | [u, v], _ => .of_eq (hpos x u v)
  run := fun A s x t0 us args R hl hfi kb hx hxK hr hb hq => by
    obtain ⟨u, v, rfl⟩ : ∃ u v, us = [u, v] := by
      match us, hl with
      | [u, v], _ => exact ⟨_, _, rfl⟩
    have hu : Fine u := hfi u (by simp)
    have hv : Fine v := hfi v (by simp)
    have rd' := fun L => rd L (.ref x) u v hu hv
    have lself : ([(("self" : Str), .ref x), (f, u), (g, v)] : List (Str × Value)).reverse.lookup ("self" : Str) = some (.ref x) := by
      have e1 : (("self" : Str) == f) = false := dsf
      have e2 : (("self" : Str) == g) = false := dsg
      simp [List.lookup, e1, e2]
    have lg : ([(("self" : Str), .ref x), (f, u), (g, v)] : List (Str × Value)).reverse.lookup g = some v := by simp [List.lookup]
    have lf : ([(("self" : Str), .ref x), (f, u), (g, v)] : List (Str × Value)).reverse.lookup f = some u := by
      have e3 : (f == g) = false := by simpa using dfg
      simp [List.lookup, e3]
    refine exs_enter (binds := [(("self" : Str), .ref x), (f, u), (g, v)]) T M kb hsup hr hf hcd rfl hb (by rw [har]; exact lself) hx S.hks S.hkc (by rw [har]; exact S.hka _ (by simp)) S.hk S.hcell (fun y hy => ?_) S.hco S.hgen (fun L => (rd' L).he) (fun L => (rd' L).hs) (fun L => (rd' L).hsw) (fun L => (rd' L).hint) (fun L => (rd' L).hev) fun L h1 tk t1 E' lz hn k hx1 => ?_
    · refine S.hka _ ?_
      simp only [List.mem_cons, List.not_mem_nil, or_false] at hy ⊢
      rcases hy with rfl | rfl | rfl <;> simp
    · have X1 : K.In h1 := fun a o e => k a o (fun z => by rw [z, hxK] at e; cases e) (M.kin.keeps kb a o e)
      have Lx : L ≠ x := by rw [lz]; exact Nat.ne_of_gt (Heap.lt_size hx)
      exact exs_end2 (L := L) (h0 := s.heap) T X1 hn1 hn2 hn rfl S.hk lself lf lg (S.hka _ (by simp)) (S.hka _ (by simp)) (S.hka _ (by simp)) (S.hdb _ (by simp)) (S.hdb _ (by simp)) (S.hdb _ (by simp)) (hw1 L) (hw2 L) lz hxK Lx k hx1 fun h' tk' z => hq h' tk' z
end
end Ox

namespace Ox
open PySem PySem.Spec PySem.W PySem.Calls PyProof.Rows PySem.HandSPX
/-- a made exception -/
structure ExsMade (h h' : Heap) (e C : Addr) (fs : List (Str × Value)) : Prop where
  keep : ∀ b o, h.get? b = some o → h'.get? b = some o
  new : h.objs.size ≤ e
  obj : (fs = [] ∧ ∃ t1, h'.get? e = some (excO C t1)) ∨ fs ≠ [] ∧ ∃ dx t1 m, h'.get? e = some { cls := .ref C, dict := some dx, data := .fields #[.ref t1, .none, .none, .none, .bool false, .none] } ∧ h.objs.size ≤ dx ∧ dx ≠ e ∧ h'.Ns1 dx m ∧ ∀ y, m y = fs.lookup y
section
variable {prog : Program} {w : World} {A : Around} {s : Shared} {K : Frag} {mg : Str → Option Value} {base : Heap} {C fI : Addr} {fd : FuncData} {ps : List Str} {R : Result → Shared → Prop}
theorem exs_made {us : List Value} (T : ExsI prog w K mg base C fI fd ps) (kin : K.In base) (kb : ∀ b o, base.get? b = some o → s.heap.get? b = some o) (hl : us.length = ps.length) (hfi : ∀ u ∈ us, Fine u) (hz : us.length ≤ 1000) (hroom : A.depth + 1 < recursionLimit)
    (hq : ∀ h' tk e, ExsMade s.heap h' e C (ps.zip us).reverse → R (.ok (.ret (.ref e))) { s with heap := h', toks := tk }) : codeAny (model prog w) A (.call (.ref C) ⟨us, []⟩) R s := by
  obtain ⟨nm, q, N, bs, bm, sn, sub, ab, col, dd, k0, k1, k2, k3, k5, hC, hbm⟩ := T.cls
  have X : K.In s.heap := kin.keeps kb
  obtain ⟨hp, g, dr, tk, os⟩ := s
  have k : ∀ b o, hp.get? b = some o → ((hp.push (kdv_tup us)).push (excO C hp.objs.size)).get? b = some o := fun b o e => Heap.get?_push_of_some _ (Heap.get?_push_of_some _ e)
  have hget : ((hp.push (kdv_tup us)).push (excO C hp.objs.size)).get? (hp.objs.size + 1) = some (excO C hp.objs.size) := by heap_get
  have hnx : K.lookup (hp.objs.size + 1) = none := by
    cases e : K.lookup (hp.objs.size + 1) with
    | none => rfl
    | some o => exact absurd (Nat.lt_of_succ_lt (Heap.lt_size (show hp.get? (hp.objs.size + 1) = some o from X _ _ e))) (Nat.lt_irrefl _)
  refine call_own F.excBase_ValueError (fun Y => refsVE_contains Y bm hbm) (X _ _ hC) (looks_findIn X T.iC) (fun self => bind_fn X self T.tI) (by rw [sizeLine_eq]; omega) ?_
  refine T.run _ ⟨(hp.push (kdv_tup us)).push (excO C hp.objs.size), g, dr, tk, os⟩ (hp.objs.size + 1) hp.objs.size us _ _ hl hfi (fun b o z => k b o (kb b o z)) hget hnx ?_ (T.pos _ _ us hl) fun h' tk' z => ?_
  · exact hroom
  · have dsz : (((hp.push (kdv_tup us)).push (excO C hp.objs.size)).objs.size) = hp.objs.size + 2 := by rw [Heap.size_push, Heap.size_push]
    refine ⟨rfl, hq h' tk' (hp.objs.size + 1) ⟨fun b o e => z.keep b o (Nat.ne_of_lt (Nat.lt_succ_of_lt (Heap.lt_size e))) (k b o e), Nat.le_succ _, ?_⟩⟩
    rcases z.obj with ⟨e, t1, o⟩ | ⟨ne, dx, t1, m, o, dn, dne, hn, hm⟩
    · exact .inl ⟨e, t1, o⟩
    · exact .inr ⟨ne, dx, t1, m, o, Nat.le_trans (by rw [dsz]; exact Nat.le_add_right _ _) dn, dne, hn, hm⟩
end
end Ox

namespace Ox
open PySem PySem.Spec PyProof.Rows L2
/-- as Fine, seen from the layer -/
def FineV (v : V) : Prop := (∃ y, v = .str y ∧ y.length ≤ 1000000) ∨ ∃ i : Int, v = .int i ∧ i.natAbs.log2 < 1920
theorem fine_of {v : V} {u : Value} (r : RelV v u) (h : FineV v) : Fine u := by
  rcases h with ⟨y, rfl, hy⟩ | ⟨i, rfl, hi⟩
  · obtain ⟨t, rfl⟩ := r
    exact .inl ⟨y, t, rfl, hy⟩
  · obtain ⟨t, rfl⟩ := r
    exact .inr ⟨i, t, rfl, hi⟩
theorem fines_of : ∀ {vs : List V} {us : List Value}, Vals vs us → (∀ v ∈ vs, FineV v) → ∀ u ∈ us, Fine u
  | _, _, .nil, _, u, hu => by cases hu
  | _, _, .cons r rr, h, u, hu => by
    rcases List.mem_cons.mp hu with e | e
    · rw [e]; exact fine_of r (h _ List.mem_cons_self)
    · exact fines_of rr (fun v hv => h v (List.mem_cons_of_mem _ hv)) u e
theorem relO_nil (f : Str) : RelO (([] : List (Str × V)).lookup f) (([] : List (Str × Value)).lookup f) := trivial
theorem relO_cons {f g : Str} {y : V} {u : Value} {fs : List (Str × V)} {us : List (Str × Value)} (r : RelV y u) (h : RelO (fs.lookup g) (us.lookup g)) : RelO (((f, y) :: fs).lookup g) (((f, u) :: us).lookup g) := by
  by_cases e : g = f
  · subst e
    have e1 : ((g, y) :: fs).lookup g = some y := by simp [List.lookup]
    have e3 : ((g, u) :: us).lookup g = some u := by simp [List.lookup]
    rw [e1, e3]
    exact r
  · have e2 : (g == f) = false := by simpa using e
    simpa [List.lookup, e2] using h
theorem relO_zip (g : Str) : ∀ {ps : List Str} {vs : List V} {us : List Value}, Vals vs us → vs.length = ps.length → RelO ((ps.zip vs).reverse.lookup g) ((ps.zip us).reverse.lookup g) := fun {ps vs us} r hl => by
  have key : ∀ {ps : List Str} {vs : List V} {us : List Value} {fs : List (Str × V)} {ws : List (Str × Value)}, Vals vs us → vs.length = ps.length → RelO (fs.lookup g) (ws.lookup g) → RelO (((ps.zip vs).reverse ++ fs).lookup g) (((ps.zip us).reverse ++ ws).lookup g) := by
    intro ps
    induction ps with
    | nil => intro vs us fs ws r hl h; simpa using h
    | cons p ps ih =>
      intro vs us fs ws r hl h
      cases r with
      | nil => cases hl
      | @cons v u vs us r1 r2 =>
        have hl' : vs.length = ps.length := by simpa using hl
        have q := ih r2 hl' (fs := (p, v) :: fs) (ws := (p, u) :: ws) (relO_cons r1 h)
        simpa [List.zip_cons_cons, List.reverse_cons, List.append_assoc] using q
  have q := key r hl (fs := []) (ws := []) trivial
  simpa using q

section
variable {X : Cx}
/-- C(e, ..) that is raised -/
def tMkX (C : Addr) (ps : List Str) (ta : TA) : L2.St → Hp → XK → Prop := fun σ H Q => ta σ H fun vs H1 => vs.length = ps.length ∧ vs.length ≤ 1000 ∧ (∀ v ∈ vs, FineV v) ∧
  (ps = [] → Q (.ref C) none H1) ∧ (ps ≠ [] → ∀ d, H1 d = none → Q (.ref C) (some d) (upd H1 d (.xd (ps.zip vs).reverse)))
theorem zn_of {C t1 : Addr} {d : Option Addr} : L2N.Zn (.ref C) d ({ cls := .ref C, dict := d, data := .fields #[.ref t1, .none, .none, .none, .bool false, .none] } : Obj) := ⟨rfl, rfl, fun vs e => by cases e; rfl⟩
theorem pmkx_call {C fI : Addr} {fd : FuncData} {ps : List Str} {k : Nat} (T : ExsI X.prog X.w X.K X.mg X.base C fI fd ps) (hr : Room k X.A) {pins : List (Addr × Obj)} {σ : L2.St} {H1 : Hp} {Q : XK} {s1 : Shared} {us : List Value} {vs : List V} (I1 : Inv X pins σ H1 s1) (r1 : Vals vs us)
    (hl : vs.length = ps.length) (hz : vs.length ≤ 1000) (hf : ∀ v ∈ vs, FineV v) (q0 : ps = [] → Q (.ref C) none H1) (q1 : ps ≠ [] → ∀ d, H1 d = none → Q (.ref C) (some d) (upd H1 d (.xd (ps.zip vs).reverse))) :
    wpAny (model X.prog X.w) X.A (call (.ref C) us) (L2N.MkP X pins σ Q) X.xe s1 := by
  have hlu : us.length = ps.length := by rw [← hl, Paired.length r1]
  obtain ⟨hp, g, dr, tk, os⟩ := s1
  refine wpAny_call (exs_made T I1.ok.mod.kin (fun b o z => I1.bk b o z) hlu (fines_of r1 hf) (by rw [← Paired.length r1]; exact hz) (by have := hr.dp; omega) fun h' tk' e M => ?_)
  show L2N.MkP X pins σ Q (.ref e) ⟨h', g, dr, tk', os⟩
  obtain ⟨G', g1, g2⟩ := restrict h' fun b => decide (b ≠ e)
  have gk : ∀ b, b ≠ e → G'.get? b = h'.get? b := fun b hb => g1 b (decide_eq_true hb)
  have ge : G'.get? e = none := g2 e (by simp)
  have old : ∀ b o, hp.get? b = some o → G'.get? b = some o := fun b o q => (gk b (Nat.ne_of_lt (Nat.lt_of_lt_of_le (Heap.lt_size q) M.new))).trans (M.keep b o q)
  have sub : ∀ b o, G'.get? b = some o → h'.get? b = some o := fun b o q => by
    by_cases hb : b = e
    · rw [hb, ge] at q; cases q
    · exact (gk b hb).symm.trans q
  rcases M.obj with ⟨he, t1, ho⟩ | ⟨ne, dx, t1, m, ho, dn, dne, hn, hm⟩
  · have hps : ps = [] := by
      cases ps with
      | nil => rfl
      | cons p ps =>
        cases us with
        | nil => simp at hlu
        | cons u us => simp at he
    have J : Inv X pins σ H1 ⟨G', g, dr, tk', os⟩ := I1.kept (t' := tk') old
    exact ⟨e, _, _, ⟨G', g, dr, tk', os⟩, _, .ref C, none, rfl, J, sub, ge, ho, zn_of, rfl, rfl, I1.hok.fresh M.new, rfl, I1.bare, raises_own T.exC T.tyC, q0 hps⟩
  · have hps : ps ≠ [] := fun z => ne (by rw [z]; rfl)
    have ob : ObjOk X.prog X.w (upd H1 dx (.xd (ps.zip vs).reverse)) G' dx (.xd (ps.zip vs).reverse) :=
      ⟨m, hn.at (fun o q => (gk dx dne).trans q), fun f => by rw [hm f]; exact relO_zip f r1 hl⟩
    have J : Inv X pins σ (upd H1 dx (.xd (ps.zip vs).reverse)) ⟨G', g, dr, tk', os⟩ := I1.laid (t' := tk') old dn ob
    refine ⟨e, _, _, ⟨G', g, dr, tk', os⟩, _, .ref C, some dx, rfl, J, sub, ge, ho, zn_of, rfl, rfl, ?_, rfl, I1.bare, raises_own T.exC T.tyC, q1 hps dx (I1.hok.fresh dn)⟩
    rw [upd_ne (Ne.symm dne)]
    exact I1.hok.fresh M.new
end
end Ox

namespace Ox
open PySem PySem.Spec PySem.W PySem.Calls PyProof.Rows PySem.HandSPX
section
variable {M : Model} {A : Around} {E : Value → Shared → Prop} {h : Heap} {g : Array GenState} {d : Drawn} {t : Nat} {os : OsState}
variable {nm q : Str} {C N : Addr} {bs bm bmB : List Value} {hdct : Bool} {sn : List Str} {sub : List Value} {ab : Bool} {col : Option Bool} {dd : Option Addr} {k0 k1 k2 k3 k5 : Option Value} {B newId initId : String}
theorem chk_new_kw (F : ExcBaseFacts B newId initId bmB) (hT : ∀ X : String, bm.contains (.type X) = bmB.contains (.type X)) {kw : List (Str × Value)} {Q : Unit → Shared → Prop}
    (hC : h.get? C = some (excClassObj nm q C N bs bm hdct sn sub ab col dd k0 k1 k2 k3 k5 newId)) (hq : Q () ⟨h, g, d, t, os⟩) : wpAny M A (checkBuiltinCall newId ⟨[.ref C], kw⟩) Q E ⟨h, g, d, t, os⟩ := by
  have c1 : (Value.ref C :: bm).contains (.type B) = true := by rw [List.contains_cons, hT, F.hasB, Bool.or_true]
  have c2 := F.noStar
  simp only [checkBuiltinCall, F.newKind, F.newSplit, F.newRow]
  repeat (first | refine wpAny_loadPart_at hC ?_ | (refine wpAny_isSubtype_exc hC ?_; rw [c1]) | refine wpAny_staticBase_exc hC ?_ | refine wpAny_madeBy_exc hC ?_ | simp only [bne_self_eq_false, Bool.false_eq_true, if_false] | wp_step)
  exact hq
theorem chk_type_kw {kw : List (Str × Value)} {Q : Unit → Shared → Prop} (hC : h.get? C = some (excClassObj nm q C N bs bm hdct sn sub ab col dd k0 k1 k2 k3 k5 newId))
    (hq : Q () ⟨h, g, d, t, os⟩) : wpAny M A (checkBuiltinCall "type.__call__" ⟨[.ref C], kw⟩) Q E ⟨h, g, d, t, os⟩ := by
  have f3 := tc_sub
  have hT : (⟨h, g, d, t, os⟩ : Shared).TypeIs (.ref C) "type" := ⟨_, hC, rfl⟩
  simp only [checkBuiltinCall, tc_kind, tc_split]
  repeat (any_goals (first | assumption | with_reducible refine wpAny_loadPart_at hC ?_ | with_reducible refine wpAny_onRaise ?_ | with_reducible refine wpAny_map ?_ | wp_step))
end
section
variable {prog : Program} {w : World} {A : Around} {E : Value → Shared → Prop} {R : Result → Shared → Prop} {h : Heap} {g : Array GenState} {d : Drawn} {t : Nat} {os : OsState}
variable {nm q : Str} {C N : Addr} {bs bm bmB : List Value} {hdct : Bool} {sn : List Str} {sub : List Value} {ab : Bool} {col : Option Bool} {dd : Option Addr} {k0 k1 k2 k3 k5 : Option Value} {B newId initId : String}
theorem new_kw (F : ExcBaseFacts B newId initId bmB) (hT : ∀ X : String, bm.contains (.type X) = bmB.contains (.type X)) {kw : List (Str × Value)} (hC : h.get? C = some (excClassObj nm q C N bs bm hdct sn sub ab col dd k0 k1 k2 k3 k5 newId))
    (hq : R (.ok (.ret (.ref (h.objs.size + 1)))) ⟨(h.push (kdv_tup [])).push (excO C h.objs.size), g, d, t, os⟩) :
    codeAny (model prog w) A (.builtin newId ⟨[.ref C], kw⟩) R ⟨h, g, d, t, os⟩ := by
  have c0 := F.ends
  have c1 : (Value.ref C :: bm).contains (.type B) = true := by rw [List.contains_cons, hT, F.hasB, Bool.or_true]
  have c2 : (Value.ref C :: bm).contains (.type "AttributeError") = false := by rw [List.contains_cons, hT, F.noAttr]; rfl
  have c3 : (Value.ref C :: bm).contains (.type "NameError") = false := by rw [List.contains_cons, hT, F.noName]; rfl
  have c4 : ([] : List Value).length ≤ sizeLine := Nat.zero_le _
  refine codeAny_builtinAt F.entry ?_
  unfold Builtin.«BaseException.__new__»
  refine _root_.PySem.wpAt_bind ?_
  show _root_.PySem.wpAt _ _ _ (stack >>= _) _ _ _
  refine _root_.PySem.wpAt_bind (_root_.PySem.wpAt_stack fun p below => _root_.PySem.wpAt_of_wpAny ?_)
  wp_walk
  refine _root_.PySem.wpAt_of_wpAny ?_
  rw [F.owner]
  repeat (first | with_reducible refine wpAny_madeHere_exc F.canon hC ?_ | with_reducible refine wpAny_loadPart_at hC ?_ | (with_reducible refine wpAny_isSubtype_exc hC ?_; first | rw [c1] | rw [c2] | rw [c3]) | wp_step)
  show R _ _
  rw [Heap.size_push]
  exact hq
theorem type_kw (F : ExcBaseFacts B newId initId bmB) (hT : ∀ X : String, bm.contains (.type X) = bmB.contains (.type X)) {kw : List (Str × Value)} {fI : Addr} {Q : Fin → Shared → Prop}
    (hC : h.get? C = some (excClassObj nm q C N bs bm hdct sn sub ab col dd k0 k1 k2 k3 k5 newId))
    (hi : Looks (model prog w) h (typeLookup (.ref C) "__init__") (some (.ref fI))) (hb : ∀ self, Looks (model prog w) h (bindSpecial (.ref fI) self) (.ref fI, [self]))
    (hq : codeAny (model prog w) A (.call (.ref fI) ⟨[.ref (h.objs.size + 1)], kw⟩)
      (fun r s' => match r with | .ok (.ret v) => v = .none ∧ Q (.done (.ret (.ref (h.objs.size + 1)))) s' | .ok _ => False | .error e => E e s')
      ⟨(h.push (kdv_tup [])).push (excO C h.objs.size), g, d, t, os⟩) :
    wpAny (model prog w) A (Builtin.«type.__call__» ⟨[.ref C], kw⟩) Q E ⟨h, g, d, t, os⟩ := by
  repeat (first | with_reducible refine wpAny_loadPart_at hC ?_ | with_reducible refine wpAny_madeBy_exc hC ?_ | wp_step)
  refine codeAny_call_builtin_code (Code.quiet_builtin _ F.quiet) (chk_new_kw F hT hC ?_)
  refine new_kw F hT hC ?_
  show wpAny _ _ _ _ _ _
  have k : ∀ b o, h.get? b = some o → ((h.push (kdv_tup [])).push (excO C h.objs.size)).get? b = some o := fun b o e => Heap.get?_push_of_some _ (Heap.get?_push_of_some _ e)
  have c1 := k _ _ hC
  have c2 : ((h.push (kdv_tup [])).push (excO C h.objs.size)).get? (h.objs.size + 1) = some (excO C h.objs.size) := by heap_get
  have c3 : (Value.ref C :: bm).contains (.ref C) = true := by simp
  have i1 := hi.keeps k
  have b1 := (hb (.ref (h.objs.size + 1))).keeps k
  unfold isInstance
  repeat (first | with_reducible refine wpAny_loadPart_at c2 ?_ | (with_reducible refine wpAny_isSubtype_exc c1 ?_; rw [c3]) | wp_step)
  show wpAny _ _ (typeLookup (.ref C) _) _ _ _
  refine i1.at ?_
  refine wpAny_holding (wpAny_bind (b1.at ?_))
  refine wpAny_bind (wpAny_call (codeAny_mono hq fun r s' z => ?_))
  rcases r with e | (v | _ | _ | _) <;> first | exact z | exact z.elim | skip
  obtain ⟨rfl, z⟩ := z
  first
    | exact wpAny_pure (wpAny_pure z)
    | (wp_walk; exact z)
theorem call_kw (F : ExcBaseFacts B newId initId bmB) (hT : ∀ X : String, bm.contains (.type X) = bmB.contains (.type X)) {kw : List (Str × Value)} {fI : Addr} {R : Result → Shared → Prop}
    (hC : h.get? C = some (excClassObj nm q C N bs bm hdct sn sub ab col dd k0 k1 k2 k3 k5 newId))
    (hi : Looks (model prog w) h (typeLookup (.ref C) "__init__") (some (.ref fI))) (hb : ∀ self, Looks (model prog w) h (bindSpecial (.ref fI) self) (.ref fI, [self]))
    (hq : codeAny (model prog w) (A.under (.builtin "type.__call__" ⟨[.ref C], kw⟩)) (.call (.ref fI) ⟨[.ref (h.objs.size + 1)], kw⟩) (InitBack (h.objs.size + 1) R)
      ⟨(h.push (kdv_tup [])).push (excO C h.objs.size), g, d, t, os⟩) : codeAny (model prog w) A (.call (.ref C) ⟨[], kw⟩) R ⟨h, g, d, t, os⟩ := by
  have f1 := tc_lookup
  have f2 := tc_bind (.ref C)
  have c1 : (⟨h, g, d, t, os⟩ : Shared).TypeIs (.ref C) "type" := ⟨_, hC, rfl⟩
  refine codeAny_of_tree ?_
  show wpAny _ _ (callAny (.ref C) _) _ _ _
  repeat (any_goals (first | assumption | with_reducible refine wpAny_loadPart_at hC ?_ | wp_step))
  refine ⟨rfl, ?_⟩
  refine codeAny_call_builtin_at (Code.quiet_builtin _ (by decide +kernel)) entry_typeCall (chk_type_kw hC (type_kw F hT hC hi hb ?_))
  refine codeAny_mono hq fun r s' z => ?_
  rcases r with e | (v | _ | _ | _) <;> exact z
end
end Ox

namespace Ox
open PySem PySem.Spec PySem.W PySem.Calls PyProof.Rows PySem.HandSPX
section
variable {prog : Program} {w : World} {A : Around} {s : Shared} {K : Frag} {mg : Str → Option Value} {base : Heap} {C fI : Addr} {fd : FuncData} {ps : List Str} {R : Result → Shared → Prop}
/-- made by keywords alone -/
theorem exs_made_kw {us : List Value} {kw : List (Str × Value)} (T : ExsI prog w K mg base C fI fd ps) (kin : K.In base) (kb : ∀ b o, base.get? b = some o → s.heap.get? b = some o) (hl : us.length = ps.length) (hfi : ∀ u ∈ us, Fine u) (hroom : A.depth + 1 < recursionLimit)
    (hdep : (A.under (.builtin "type.__call__" ⟨[.ref C], kw⟩)).depth = A.depth + 1) (hbind : ∀ (s : Shared) (x : Value), BindsTo s fd ⟨[x], kw⟩ (("self", x) :: ps.zip us))
    (hq : ∀ h' tk e, ExsMade s.heap h' e C (ps.zip us).reverse → R (.ok (.ret (.ref e))) { s with heap := h', toks := tk }) : codeAny (model prog w) A (.call (.ref C) ⟨[], kw⟩) R s := by
  obtain ⟨nm, q, N, bs, bm, sn, sub, ab, col, dd, k0, k1, k2, k3, k5, hC, hbm⟩ := T.cls
  have X : K.In s.heap := kin.keeps kb
  obtain ⟨hp, g, dr, tk, os⟩ := s
  have k : ∀ b o, hp.get? b = some o → ((hp.push (kdv_tup [])).push (excO C hp.objs.size)).get? b = some o := fun b o e => Heap.get?_push_of_some _ (Heap.get?_push_of_some _ e)
  have hget : ((hp.push (kdv_tup [])).push (excO C hp.objs.size)).get? (hp.objs.size + 1) = some (excO C hp.objs.size) := by heap_get
  have hnx : K.lookup (hp.objs.size + 1) = none := by
    cases e : K.lookup (hp.objs.size + 1) with
    | none => rfl
    | some o => exact absurd (Nat.lt_of_succ_lt (Heap.lt_size (show hp.get? (hp.objs.size + 1) = some o from X _ _ e))) (Nat.lt_irrefl _)
  refine call_kw F.excBase_ValueError (fun Y => refsVE_contains Y bm hbm) (X _ _ hC) (looks_findIn X T.iC) (fun self => bind_fn X self T.tI) ?_
  refine T.run _ ⟨(hp.push (kdv_tup [])).push (excO C hp.objs.size), g, dr, tk, os⟩ (hp.objs.size + 1) hp.objs.size us _ _ hl hfi (fun b o z => k b o (kb b o z)) hget hnx ?_ (hbind _ _) fun h' tk' z => ?_
  · rw [hdep]; exact hroom
  · have dsz : (((hp.push (kdv_tup [])).push (excO C hp.objs.size)).objs.size) = hp.objs.size + 2 := by rw [Heap.size_push, Heap.size_push]
    refine ⟨rfl, hq h' tk' (hp.objs.size + 1) ⟨fun b o e => z.keep b o (Nat.ne_of_lt (Nat.lt_succ_of_lt (Heap.lt_size e))) (k b o e), Nat.le_succ _, ?_⟩⟩
    rcases z.obj with ⟨e, t1, o⟩ | ⟨ne, dx, t1, m, o, dn, dne, hn, hm⟩
    · exact .inl ⟨e, t1, o⟩
    · exact .inr ⟨ne, dx, t1, m, o, Nat.le_trans (by rw [dsz]; exact Nat.le_add_right _ _) dn, dne, hn, hm⟩
end
end Ox

namespace Ox
open PySem PySem.Spec PyProof.Rows L2
theorem un_two {fs ex : List Addr} {H : Hp} {h h' : Heap} {a b : Addr} {o u : HO} (k : ∀ c z, h.get? c = some z → h'.get? c = some z) (ha : h.objs.size ≤ a) (hb : h.objs.size ≤ b) (na : H a = none) (nb : H b = none) : Un fs ex H (upd (upd H a o) b u) h h' where
  keep := fun c z q _ _ _ => k c z q
  slot := fun c z q _ _ _ => ⟨z.slots, k c z q⟩
  free := fun c z q n _ => by
    rw [upd_ne (Nat.ne_of_lt (Nat.lt_of_lt_of_le (Heap.lt_size q) hb)), upd_ne (Nat.ne_of_lt (Nat.lt_of_lt_of_le (Heap.lt_size q) ha))]
    exact n
  there := fun c z q _ => ⟨z, k c z q⟩
  tups := fun c xs q => by rw [upd_ne (ne_of_none q nb), upd_ne (ne_of_none q na)]; exact q
  frzs := fun c z xs q => by rw [upd_ne (ne_of_none q nb), upd_ne (ne_of_none q na)]; exact q
  tbls := fun c ps q => ⟨#[], by rw [upd_ne (ne_of_none q nb), upd_ne (ne_of_none q na), q]; simp⟩
theorem hok_on {P : Program} {w : World} {H : Hp} {h' : Heap} {b : Addr} {u : HO} (x : HOk P w H h') (nb : H b = none) (new : ObjOk P w (upd H b u) h' b u) : HOk P w (upd H b u) h' := fun c z e => by
  by_cases hc : c = b
  · subst hc
    rw [upd_same] at e
    cases e
    exact new
  · rw [upd_ne hc] at e
    exact (x c z e).stay (fun _ _ _ q => q) (fun c q => by rw [upd_ne (ne_of_none q nb)]; exact q) fun c xs q => by rw [upd_ne (ne_of_none q nb)]; exact q
section
variable {X : Cx}
/-- an exception as a value, not raised -/
def qVal (C : Addr) (ps : List Str) (vs : List V) (H1 : Hp) (Q : VK) : Prop := vs.length = ps.length ∧ vs.length ≤ 1000 ∧ ps ≠ [] ∧ (∀ v ∈ vs, FineV v) ∧
  ∀ e d, H1 d = none → H1 e = none → d ≠ e → Q (.ref e) (upd (upd H1 d (exd d (ps.zip vs).reverse)) e (exo e C (some d)))
theorem val_end {C : Addr} {ps : List Str} {pins : List (Addr × Obj)} {σ : L2.St} {H1 : Hp} {Q : VK} {vs : List V} {us : List Value} {hp h' : Heap} {g : Array GenState} {dr : Drawn} {tk tk' : Nat} {os : OsState} {e : Addr} (I1 : Inv X pins σ H1 ⟨hp, g, dr, tk, os⟩) (r1 : Vals vs us)
    (hl : vs.length = ps.length) (hps : ps ≠ []) (M : ExsMade hp h' e C (ps.zip us).reverse) (q : ∀ e d, H1 d = none → H1 e = none → d ≠ e → Q (.ref e) (upd (upd H1 d (exd d (ps.zip vs).reverse)) e (exo e C (some d)))) :
    EP X pins σ Q (.ref e) ⟨h', g, dr, tk', os⟩ := by
  have hlu : us.length = ps.length := by rw [← hl, Paired.length r1]
  rcases M.obj with ⟨he, _⟩ | ⟨_, dx, t1, m, ho, dn, dne, hn, hm⟩
  · exfalso
    cases ps with
    | nil => exact hps rfl
    | cons p ps =>
      cases us with
      | nil => simp at hlu
      | cons u us => simp at he
  · have nd : H1 dx = none := I1.hok.fresh dn
    have ne : H1 e = none := I1.hok.fresh M.new
    have h1 : HOk X.prog X.w (upd H1 dx (exd dx (ps.zip vs).reverse)) h' := I1.hok.laid M.keep dn (exd_ok hn fun f => by rw [hm f]; exact relO_zip f r1 hl)
    have ne2 : upd H1 dx (exd dx (ps.zip vs).reverse) e = none := by rw [upd_ne (Ne.symm dne)]; exact ne
    have h2 : HOk X.prog X.w (upd (upd H1 dx (exd dx (ps.zip vs).reverse)) e (exo e C (some dx))) h' := hok_on h1 ne2 (exo_ok ho)
    exact ⟨.ref e, _, I1.un (t' := tk') (un_two M.keep dn M.new nd ne) h2, rfl, q e dx nd ne dne⟩
def tVal (C : Addr) (ps : List Str) (ta : TA) : TE := fun σ H Q => ta σ H fun vs H1 => qVal C ps vs H1 Q
theorem pe_val {C fI : Addr} {fd : FuncData} {ps : List Str} {k : Nat} {x : Str} {e : Expr} {es : List Expr} {ta : TA} {p pos : Pos} (T : ExsI X.prog X.w X.K X.mg X.base C fI fd ps) (hr : Room k X.A) (hg : Gl X x) (hm : X.mg x = some (.ref C)) (ha : PA X (e :: es) ta)
    (hdb : (x == ("__debug__" : Str)) = false := by decide) (he : starEach (e :: es) X.env = (false, eval e X.env) :: starEach es X.env := by rfl) (hpl : (backTo pos (starEach es X.env)).any (·.1) = false := by rfl) :
    PE X (.Call (.Name x p) (e :: es) [] pos) (tVal C ps ta) := by
  refine ⟨fun pins s σ H Q I h => ?_⟩
  refine wpAny_Call_Name_kw (ld_glob I hg hm ?_ hdb)
  refine PySem.W.callWith_K (h₀ := X.base) I.ok.mod.kin T.kC (thn (ha.run pos pins s σ H _ I h) fun us s1 ⟨vs, H1, I1, r1, hl, hz, hps, hf, q⟩ => ⟨I1.kIn, ?_⟩) he hpl
  obtain ⟨hp, g, dr, tk, os⟩ := s1
  have hlu : us.length = ps.length := by rw [← hl, Paired.length r1]
  exact wpAny_call (exs_made T I1.ok.mod.kin (fun b o z => I1.bk b o z) hlu (fines_of r1 hf) (by show us.length ≤ 1000; rw [← Paired.length r1]; exact hz) (by have := hr.dp; omega) fun h' tk' e M => val_end I1 r1 hl hps M q)
/-- how keywords fill the parameters: pm puts the keywords' values in the parameters' order -/
structure KwB (fd : FuncData) (ps ks : List Str) (pm : {α : Type} → List α → List α) : Prop where
  to : ∀ (s : Shared) (x : Value) (ws : List Value), ws.length = ks.length → BindsTo s fd ⟨[x], ks.zip ws⟩ (("self", x) :: ps.zip (pm ws))
  rel : ∀ {vs : List V} {us : List Value}, Vals vs us → vs.length = ks.length → Vals (pm vs) (pm us)
def tValK (C : Addr) (ps : List Str) (pm : {α : Type} → List α → List α) (n : Nat) (ta : TA) : TE := fun σ H Q => ta σ H fun vs H1 => vs.length = n ∧ qVal C ps (pm vs) H1 Q
theorem pe_valK {C fI : Addr} {fd : FuncData} {ps ks : List Str} {pm : {α : Type} → List α → List α} {k : Nat} {x : Str} {kws : List Keyword} {ta : TA} {p pos : Pos} (T : ExsI X.prog X.w X.K X.mg X.base C fI fd ps) (B : KwB fd ps ks pm) (hr : Room k X.A) (hg : Gl X x) (hm : X.mg x = some (.ref C))
    (ha : PK X kws ta) (hall : (backToKw pos (keywordEach kws X.env)).all (·.1.isSome) = true := by rfl) (hks : (backToKw pos (keywordEach kws X.env)).filterMap (·.1) = ks := by rfl)
    (hdb : (x == ("__debug__" : Str)) = false := by decide) (hpl : ((backTo pos (starEach [] X.env)).any (·.1) || (backToKw pos (keywordEach kws X.env)).any (·.1.isNone)) = false := by rfl) :
    PE X (.Call (.Name x p) [] kws pos) (tValK C ps pm ks.length ta) := by
  refine ⟨fun pins s σ H Q I h => ?_⟩
  refine wpAny_Call_Name_kw (ld_glob I hg hm ?_ hdb)
  refine PySem.W.callWith_KW0 (h₀ := X.base) I.ok.mod.kin T.kC hall (thn (ha.run pos pins s σ H _ I h) fun us s1 ⟨vs, H1, I1, r1, hn, hl, hz, hps, hf, q⟩ => ⟨I1.kIn, ?_⟩) hpl
  rw [hks]
  obtain ⟨hp, g, dr, tk, os⟩ := s1
  have hnu : us.length = ks.length := by rw [← hn, Paired.length r1]
  have r2 := B.rel r1 hn
  have hlu : (pm us).length = ps.length := by rw [← hl, Paired.length r2]
  exact wpAny_call (exs_made_kw T I1.ok.mod.kin (fun b o z => I1.bk b o z) hlu (fines_of r2 hf) (by have := hr.dp; omega) make_depth (fun s x => B.to s x us hnu) fun h' tk' e M => val_end I1 r2 hl hps M q)
/-- x.f of such a value -/
def tXo (C : Addr) (f : Str) (te : TE) : TE := fun σ H Q => te σ H fun x H1 => ∃ a d fs v, x = .ref a ∧ H1 a = some (exo a C (some d)) ∧ H1 d = some (exd d fs) ∧ fs.lookup f = some v ∧ Q v H1
theorem pe_xo {C : Addr} {f : Str} {e : Expr} {te : TE} {pos : Pos} (T : XfC X.K C) (hno : PySem.W.findIn X.K (.ref C) f = some none) (he : PE X e te) (hb : attributeBase e f X.env (eval e X.env) = eval e X.env := by rfl) : PE X (.Attribute e f pos) (tXo C f te) := by
  refine ⟨fun pins s σ H Q I h => ?_⟩
  refine attr_of hb (thn (he.run pins s σ H _ I h) fun u s1 ⟨x, H1, I1, rx, a, d, fs, v, ex, ea, ed, l, q⟩ => ?_)
  subst ex
  obtain rfl : u = Value.ref a := rx
  obtain ⟨t1, ho⟩ := exo_at I1.hok ea
  obtain ⟨mA, hns, hr⟩ := exd_at I1.hok ed
  obtain ⟨od, hod, hlk⟩ := lookIn_ns hns
  obtain ⟨u, hu, ru⟩ := RelO.some_of (v := v) (o := mA f) (by rw [← l]; exact hr f)
  have J : PySem.W.InstAt s1.heap a { cls := .ref C, dict := some d, data := .fields #[.ref t1, .none, .none, .none, .bool false, .none] } C (some od) := ⟨ho, rfl, rfl, hod⟩
  exact HandSPX.exc_get I1.kIn J T.ga T.gg T.exC (PySem.W.findObj_own T.hdC hno rfl (by rw [hlk, hu])) (handed_of ru) ⟨v, H1, I1.tok _, ru, q⟩
end
end Ox

namespace Ox
open PySem PySem.Spec PyProof.Rows L2 L2H
/-! ### a def that is called within an except suite, and asks for the error that the suite holds -/
abbrev SpE := Addr → Value → Option Addr → Sp
/-- p is the error that is held: its class, its dict -/
structure Held (p : Addr × Obj) (cls : Value) (d : Option Addr) : Prop where
  z : L2N.Zn cls d p.2
  f : ∃ vs, p.2.data = .fields vs
structure FnE (P : Program) (w : World) (K : PySem.W.Frag) (mg : Str → Option Value) (base : Heap) (CX : CXT) (k : Nat) (f : Addr) (fd : FuncData) (ps : List Str) (sp : SpE) : Prop where
  len : ∀ a c d vs H Q E, sp a c d vs H Q E → vs.length = ps.length
  run : ∀ (A : Around) (outer : List Env) (s : Shared) (H : Hp) (args : Args) (us : List Value) (vs : List V) (Q : VK) (E : XK) (p : Addr × Obj) (c : Value) (d : Option Addr), RoomH k A → Hot1 A p → Held p c d → PinOk outer H s p → Env0 P w K mg base A outer s H →
    BindsTo s fd args (ps.zip us) → Vals vs us → sp p.1 c d vs H Q E → codeAny (model P w) A (.call (.ref f) args) (CR CX outer P w H s Q E) s
theorem fn_ofE {CX : CXT} {P : Program} {w : World} {K : PySem.W.Frag} {mg : Str → Option Value} {base : Heap} {k : Nat} {x qual : Str} {st : Stmt} {f : Addr} {fd : FuncData} {N ps : List Str} {sp : SpE} (F : Fun K x qual st f fd) (S : FnScope N ps (defScope st))
    (len : ∀ a c d vs H Q E, sp a c d vs H Q E → vs.length = ps.length)
    (body : ∀ (cdv : Value) (A : Around) (outer : List Env) (s : Shared) (H : Hp) (vs : List V) (Q : VK) (E : XK) (p : Addr × Obj) (c : Value) (d : Option Addr), Hot1 A p → Held p c d → RoomH k (A.deeper (envOfC qual (defScope st) s.heap.objs.size f cdv)) → sp p.1 c d vs H Q E →
      ∃ t, PSs (cxH CX P w K mg base N qual (defScope st) f cdv A outer s H E p) (defBody st) t ∧ t { nx := fun _ H' => Q .non H', rt := Q } (L2.start N vs) H) : FnE P w K mg base CX (k + 1) f fd ps sp := by
  obtain ⟨oc, od, kV, doc, pm, an, cdv, ct, osl, rfl, lk, hcd⟩ := F.ex
  refine ⟨len, fun A outer s H args us vs Q E p c d hr hot hh hpin e0 hb r hsp => ?_⟩
  have hl := len _ _ _ _ _ _ _ hsp
  have ks : ∀ b o, base.get? b = some o → s.heap.get? b = some o := fun b o e => (e0.bs b o e).1
  refine codeAny_call_function hr.depth (e0.mod.kin.keeps ks _ _ lk) rfl S.co S.gen rfl (PySem.W.codeRec_of (e0.mod.kin.keeps ks) hcd) (hb _ _ _ _ ?_)
  refine wpAny_newFunctionEnv_cells S.kind (fun z hz => ?_) fun env he s1 y => ?_
  · obtain ⟨n, v⟩ := z
    exact (S.par n (List.of_mem_zip hz).1).elim .inl fun q => .inr ⟨q, PySem.W.cellsFrom_some _ _ _ (.inl q)⟩
  · subst he
    refine ⟨(e0.mod.nolimit.keeps ks).keeps y.toInCall.keep, codeAny_func ?_⟩
    obtain ⟨t, ht, hq⟩ := body cdv A outer s H vs Q E p c d hot hh (hr.deeper _) hsp
    have I := inv_startH (CX := CX) (qual := qual) (f := f) (cd := cdv) (A := A) (E := E) S hpin e0 hl r y
    refine wpAny_mono (ht.run [] s1 _ H _ I hq) (fun fl s' hs => ?_) fun e s' hs => hs
    match fl, hs with
    | .ret u, ⟨v, σ', H', J, rv, q⟩ => exact ⟨v, H', J.os, J.bare, J.base, J.hok, rv, q⟩
    | .next, ⟨σ', H', J, q⟩ => exact ⟨V.non, H', J.os, J.bare, J.base, J.hok, rfl, q⟩
    | .brk, ⟨_, _, _, q⟩ => exact False.elim q
    | .cont, ⟨_, _, _, q⟩ => exact False.elim q
section
variable {X : Cx} {CX : CXT} {k : Nat} {f : Addr} {fd : FuncData} {ps : List Str} {sp : SpE} {x : Str} {q pos : Pos} {e : Expr} {es : List Expr} {t : TA} {p : Addr × Obj} {c : Value} {d : Option Addr} {E : XK}
def tCallE (sp : SpE) (a : Addr) (c : Value) (d : Option Addr) (E : XK) (t : TA) : TE := fun σ H Q => t σ H fun vs H1 => sp a c d vs H1 Q E
theorem pe_callE (F : FnE X.prog X.w X.K X.mg X.base CX k f fd ps sp) (hr : RoomH k X.A) (hot : Hot1 X.A p) (hp : p ∈ X.pn) (hh : Held p c d) (hg : Gl X x) (hm : X.mg x = some (.ref f)) (hk : PySem.W.keepIn X.K (.ref f) = true) (hb : Binds X.K fd ps []) (hx : Passes CX X E)
    (ha : PA X (e :: es) t) (hdb : (x == ("__debug__" : Str)) = false := by decide) (he : starEach (e :: es) X.env = (false, eval e X.env) :: starEach es X.env := by rfl) (hpl : (backTo pos (starEach es X.env)).any (·.1) = false := by rfl) :
    PE X (.Call (.Name x q) (e :: es) [] pos) (tCallE sp p.1 c d E t) := by
  refine ⟨fun pins s σ H Q I h => ?_⟩
  refine wpAny_Call_Name_kw (ld_glob I hg hm ?_ hdb)
  refine PySem.W.callWith_K (h₀ := X.base) I.ok.mod.kin hk (thn (ha.run pos pins s σ H _ I h) fun us s1 ⟨vs, H1, I1, r, z⟩ => ⟨I1.kIn, ?_⟩) he hpl
  show wpAny _ _ (call (.ref f) us) _ _ _
  have hl : us.length = ps.length := by rw [← r.length]; exact F.len _ _ _ _ _ _ _ z
  have b := hb s1 us I1.kIn (by rw [List.append_nil]; exact hl)
  rw [List.append_nil] at b
  have y := I1.pin p (List.mem_append_left _ hp)
  refine wpAny_call (codeAny_mono (F.run X.A X.stack s1 H1 ⟨us, []⟩ us vs Q E p c d hr hot hh ⟨y.1, y.2.1, fun hm => (List.mem_cons.mp (I1.stkSub p.1 hm)).elim y.2.2.1 y.2.2.2.1, y.2.2.2.2⟩ I1.env0 b r z) fun res s' hq => ?_)
  match res, hq with
  | .error e, hq => exact hx pins σ H1 s1 e s' I1 hq
  | .ok (.ret u), hq => exact I1.after hq
/-! ### isinstance of it -/
def rIsP (K : PySem.W.Frag) (a : Addr) (c : Value) (d : Option Addr) : List V → Hp → VK → Prop := fun xs H Q => ∃ (z : V) (cv : Value) (b : Bool), xs = [.ref a, z] ∧ (∀ u, RelV z u → u = cv) ∧ PySem.W.kitOne K c cv = some b ∧
  (∀ dd, d = some dd → ∃ fs, H dd = some (.xd fs)) ∧ Q (.bl b) H
theorem call_isP {D : Addr} (T : ExcC X.K D) (hp : p ∈ X.pn) (hh : Held p (.ref D) d) : CallR X (.builtin "isinstance") (rIsP X.K p.1 (.ref D) d) := by
  intro pins s σ H xs us Q I r h
  obtain ⟨z, cv, b, rfl, hcv, e, hd, hq⟩ := h
  cases r with
  | cons r1 r2 =>
    cases r2 with
    | @cons _ u3 _ _ r3 r4 =>
      cases r4
      cases r1
      obtain rfl : u3 = cv := hcv _ r3
      have y := (I.pin p (List.mem_append_left _ hp)).1
      obtain ⟨a, oe⟩ := p
      obtain ⟨⟨h1, h2, _⟩, vs, hv⟩ := hh
      obtain ⟨oc, odx, oda, osl⟩ := oe
      dsimp only at h1 h2 hv
      subst h1 h2 hv
      have hcl : (PySem.W.clsIn X.K D).isSome = true := by
        have z := T.hd
        unfold PySem.W.hasDictIn at z
        cases q : PySem.W.clsIn X.K D with
        | none => rw [q] at z; cases z
        | some cd => rfl
      have fin : ∀ {od : Option Obj}, PySem.W.InstAt s.heap a ⟨.ref D, odx, .fields vs, osl⟩ D od → wpAny (model X.prog X.w) X.A (call (.builtin "isinstance") [.ref a, u3]) (EP X pins σ Q) X.xe s := fun {od} J =>
        PySem.W.kia_one (PySem.W.kitx_exc (gt := none) (od := od) hcl T.hg T.hk T.hs T.ha T.hn T.ht T.hm) I.kIn J e (fun z => nomatch z) fun tk => ⟨.bl b, H, I.kept (t' := tk) fun _ _ z => z, rfl, hq⟩
      cases odx with
      | none => exact fin (od := none) ⟨y, rfl, rfl, trivial⟩
      | some dd =>
        obtain ⟨fs, hf⟩ := hd dd rfl
        obtain ⟨mA, ⟨od, es', ep, ho, _⟩, _⟩ := (show ObjOk X.prog X.w H s.heap dd (.xd fs) from I.hok dd _ hf)
        exact fin (od := some od) ⟨y, rfl, rfl, ho⟩
end
end Ox

namespace Ox
open PySem PySem.Spec PyProof.Rows L2
section
variable {X : Cx} {C fI : Addr} {fd : FuncData} {ps : List Str} {k : Nat} {x : Str}
theorem pmk_x {e : Expr} {es : List Expr} {ta : TA} {p pos : Pos} (T : ExsI X.prog X.w X.K X.mg X.base C fI fd ps) (hr : Room k X.A) (hg : Gl X x) (hm : X.mg x = some (.ref C)) (ha : PA X (e :: es) ta)
    (hdb : (x == ("__debug__" : Str)) = false := by decide) (he : starEach (e :: es) X.env = (false, eval e X.env) :: starEach es X.env := by rfl) (hpl : (backTo pos (starEach es X.env)).any (·.1) = false := by rfl) :
    L2N.PMk X (.Call (.Name x p) (e :: es) [] pos) (tMkX C ps ta) := by
  intro pins s σ H Q I h
  refine wpAny_Call_Name_kw (ld_glob I hg hm ?_ hdb)
  exact PySem.W.callWith_K (h₀ := X.base) I.ok.mod.kin T.kC (thn (ha.run pos pins s σ H _ I h) fun us s1 ⟨vs, H1, I1, r1, hl, hz, hf, q0, q1⟩ => ⟨I1.kIn, pmkx_call T hr I1 r1 hl hz hf q0 q1⟩) he hpl
theorem pmk_x0 {p pos : Pos} (T : ExsI X.prog X.w X.K X.mg X.base C fI fd []) (hr : Room k X.A) (hg : Gl X x) (hm : X.mg x = some (.ref C)) (hdb : (x == ("__debug__" : Str)) = false := by decide) :
    L2N.PMk X (.Call (.Name x p) [] [] pos) (fun _ H Q => Q (.ref C) none H) := by
  intro pins s σ H Q I h
  refine wpAny_Call_Name_kw (ld_glob I hg hm ?_ hdb)
  exact PySem.W.callWith_K0 I.kIn T.kC (pmkx_call T hr I .nil rfl (Nat.zero_le _) (fun _ z => nomatch z) (fun _ => h) (fun z => absurd rfl z))
/-- raise C(e, ..) -/
def tRaiseX (C : Addr) (ps : List Str) (W : WX) (ta : TA) : TS := fun _ σ H => tMkX C ps ta σ H fun cls d H' => W cls d σ H'
theorem ps_raiseX {e : Expr} {es : List Expr} {ta : TA} {W : WX} {p pos pos2 : Pos} (hc : X.calm = true) (T : ExsI X.prog X.w X.K X.mg X.base C fI fd ps) (hr : Room k X.A) (tk : L2N.Takes X W) (hg : Gl X x) (hm : X.mg x = some (.ref C)) (ha : PA X (e :: es) ta)
    (hdb : (x == ("__debug__" : Str)) = false := by decide) (he : starEach (e :: es) X.env = (false, eval e X.env) :: starEach es X.env := by rfl) (hpl : (backTo pos (starEach es X.env)).any (·.1) = false := by rfl) :
    PS X (.Raise (some (.Call (.Name x p) (e :: es) [] pos)) none pos2) (tRaiseX C ps W ta) := L2N.ps_raise hc tk (pmk_x T hr hg hm ha hdb he hpl)
def tRaiseX0 (C : Addr) (W : WX) : TS := fun _ σ H => W (.ref C) none σ H
theorem ps_raiseX0 {W : WX} {p pos pos2 : Pos} (hc : X.calm = true) (T : ExsI X.prog X.w X.K X.mg X.base C fI fd []) (hr : Room k X.A) (tk : L2N.Takes X W) (hg : Gl X x) (hm : X.mg x = some (.ref C)) (hdb : (x == ("__debug__" : Str)) = false := by decide) :
    PS X (.Raise (some (.Call (.Name x p) [] [] pos)) none pos2) (tRaiseX0 C W) := L2N.ps_raise hc tk (pmk_x0 T hr hg hm hdb)
end
section
variable {P : Program} {w : World} {K : PySem.W.Frag} {mg : Str → Option Value} {base : Heap}
theorem okN {x qual : Str} {st : Stmt} {f : Addr} {fd : FuncData} {N ps : List Str} {k : Nat} {sp : Sp} (F : Fun K x qual st f fd) (S : FnScope N ps (defScope st)) (len : ∀ vs H Q E, sp vs H Q E → vs.length = ps.length)
    (body : ∀ (cdv : Value) (A : Around) (outer : List Env) (s : Shared) (H : Hp) (vs : List V) (Q : VK) (E : XK), Room k (A.deeper (envOfC qual (defScope st) s.heap.objs.size f cdv)) → sp vs H Q E →
      ∃ t, PSs (cxOf (L2N.CX P w) P w K mg base N qual (defScope st) f cdv A outer s H E) (defBody st) t ∧ t { nx := fun _ H' => Q .non H', rt := Q } (start N vs) H) : FnOk P w K mg base (L2N.CX P w) (k + 1) f fd ps sp := by
  obtain ⟨oc, od, kV, doc, pm, an, cdv, ct, osl, rfl, lk, hcd⟩ := F.ex
  exact fn_of lk hcd S len fun A outer s H vs Q E hr hsp => body cdv A outer s H vs Q E hr hsp
/-- what such a def's body wishes of its errors -/
theorem takesN {E : XK} {N : List Str} {qual : Str} {scope : Scope} {f : Addr} {cdv : Value} {A : Around} {outer : List Env} {s : Shared} {H : Hp} : L2N.Takes (cxOf (L2N.CX P w) P w K mg base N qual scope f cdv A outer s H E) (fun cls d _ H => E cls d H) :=
  L2N.takes_of (E := E) rfl rfl rfl rfl
end
end Ox

namespace Ox
open PySem PySem.Spec PySem.W PyProof.Rows L2 PySem.HandSPX
def top (i : Nat) : Stmt := PySem.Challenge.pw_onehold_k00_error_classes.main.body.getD i (.Pass ⟨0, 0, 0, 0⟩)
abbrev PP : Program := PySem.Challenge.pw_onehold_k00_error_classes
def clB (K : Frag) (C fI cda : Addr) (qual : Str) (ps : List Str) : Bool :=
  decide (findIn K (.ref C) "__setattr__" = some (some (.builtin "object.__setattr__"))) && (decide (findIn K (.ref C) "__init__" = some (some (.ref fI))) && (decide (ks_superIn K C C "__init__" = some (some (.builtin "ValueError.__init__"))) &&
  (decide (subIn K (.ref C) (.type "ValueError") = some true) && (decide (mroIn K C (.ref C) = some true) && (decide (typeIn K (.ref fI) = some (.type "function")) && (keepIn K (.ref C) && (decide (subIn K (.ref C) (.type "BaseException") = some true) &&
  (decide (typeIn K (.ref C) = some (.type "type")) && (codeIn K (.ref cda) qual && (xfB K C && (ps.all (fun p => decide (findIn K (.ref C) p = some none)) && (decide (findIn K (.ref C) "__class__" = some (some (.builtin "object.__class__"))) && decide (mroIn K C (.type "object") = some true)))))))))))))
structure ClF (K : Frag) (C fI cda : Addr) (qual : Str) (ps : List Str) : Prop where
  sa : findIn K (.ref C) "__setattr__" = some (some (.builtin "object.__setattr__"))
  iC : findIn K (.ref C) "__init__" = some (some (.ref fI))
  sup : ks_superIn K C C "__init__" = some (some (.builtin "ValueError.__init__"))
  ve : subIn K (.ref C) (.type "ValueError") = some true
  mro : mroIn K C (.ref C) = some true
  tI : typeIn K (.ref fI) = some (.type "function")
  kC : keepIn K (.ref C) = true
  exC : subIn K (.ref C) (.type "BaseException") = some true
  tyC : typeIn K (.ref C) = some (.type "type")
  cd : codeIn K (.ref cda) qual = true
  xf : XfC K C
  no : ∀ p ∈ ps, findIn K (.ref C) p = some none
  ca : findIn K (.ref C) "__class__" = some (some (.builtin "object.__class__"))
  ob : mroIn K C (.type "object") = some true
theorem clB_ok {K : Frag} {C fI cda : Addr} {qual : Str} {ps : List Str} (h : clB K C fI cda qual ps = true) : ClF K C fI cda qual ps := by
  unfold clB at h
  simp only [Bool.and_eq_true, decide_eq_true_eq, List.all_eq_true] at h
  obtain ⟨h1, h2, h3, h4, h5, h6, h7, h8, h9, h10, h11, h12, h13, h14⟩ := h
  exact ⟨h1, h2, h3, h4, h5, h6, h7, h8, h9, h10, xfB_ok h11, h12, h13, h14⟩
/-- what is asked of the top once -/
structure Tops (K : Frag) (mg : Str → Option Value) : Prop where
  opq : nsIn K cStatics "thirdparty.any" = some none
  hn : specialIn K (.builtin "object.__class__") "__get__" = some (some (.builtin "getset_descriptor.__get__"))
  ht : takesIn K (.builtin "object.__class__") = some true
  sup : mg "super" = none
/-- how its arguments are given by name -/
structure KwOk (fd : FuncData) (ps : List Str) : Prop where
  one : ∀ (s : Shared) (x : Value) (ws : List Value), ws.length = ps.length → BindsTo s fd ⟨[x], ps.zip ws⟩ (("self", x) :: ps.zip ws)
  two : ∀ (s : Shared) (x : Value) (p q : Str) (a b : Value), ps = [p, q] → BindsTo s fd ⟨[x], [(q, b), (p, a)]⟩ [("self", x), (p, a), (q, b)]
/-- a class of the program's errors -/
structure Cl (P : Program) (w : World) (K : Frag) (mg : Str → Option Value) (base : Heap) (x : Str) (C : Addr) (ps : List Str) : Prop where
  g : mg x = some (.ref C)
  made : ∃ fI fd, ExsI P w K mg base C fI fd ps ∧ KwOk fd ps
  xf : XfC K C
  no : ∀ p ∈ ps, findIn K (.ref C) p = some none
  ex : ExcC K C
  kC : keepIn K (.ref C) = true
section
variable {w : World} {K : Frag} {mg : Str → Option Value} {base : Heap} {C fI cc cda N : Addr} {oc kV doc pm ct cl ccl : Value} {od an dd cld cdd : Option Addr} {osl ccs csl : Array (Option Value)} {nm q : Str} {bs bm : List Value} {sn : List Str} {sub : List Value} {ab : Bool} {col : Option Bool} {m0 m1 m2 m3 m5 : Option Value} {vs : Array Value} {file : Str} {tf : Tok}
theorem txt_mk {qual : Str} {ps : List Str} (t : Tops K mg) (B : ClF K C fI cda qual ps) (xC : K.lookup C = some (excClassObj nm q C N bs bm true sn sub ab col dd m0 m1 m2 m3 m5 "ValueError.__new__")) (hb : refsVE bm = true)
    (lc : K.lookup cda = some ⟨ccl, cdd, .fields vs, ccs⟩) (hv : vs[2]? = some (.str file tf)) (hfl : ((PP.main.file : Str) == file) = true) (ll : K.lookup cc = some ⟨cl, cld, .cell (some (.ref C)), csl⟩) : ExsTxt PP K C fI cc cda :=
  ⟨⟨nm, q, N, bs, bm, sn, sub, ab, col, dd, m0, m1, m2, m3, m5, xC, hb⟩, B.sa, B.iC, B.sup, B.ve, t.opq, B.mro, B.tI, ⟨ccl, cdd, vs, ccs, file, tf, lc, hv, hfl⟩, ⟨cl, cld, csl, ll⟩, by decide +kernel⟩
theorem exc_mk {qual : Str} {ps : List Str} (t : Tops K mg) (B : ClF K C fI cda qual ps) : ExcC K C := ⟨B.xf.ga, B.xf.gg, B.exC, B.xf.hdC, B.ca, t.hn, t.ht, B.ob⟩
theorem c_InvalidStates (t : Tops K mg) (M : L2.Mod K mg base) (g : mg "InvalidStates" = some (.ref C)) (B : ClF K C fI cda "InvalidStates.__init__" ["index"]) (T : ExsTxt PP K C fI cc cda)
    (l : K.lookup fI = some ⟨oc, od, .func (ksFn "__init__" "InvalidStates.__init__" (defArgs (inClass (top 2) 0)) (defBody (inClass (top 2) 0)) (defScope (inClass (top 2) 0)) .none kV doc pm an (.ref cda) ct cc), osl⟩) : Cl PP w K mg base "InvalidStates" C ["index"] :=
  ⟨g, ⟨fI, _, exsI1 T ⟨B.kC, B.exC, B.tyC⟩ M t.sup l B.cd rfl (by decide) (by exact ⟨rfl, rfl, by decide +kernel, by decide +kernel, rfl, by decide +kernel, rfl, rfl⟩) (B.no "index" (by simp)) (fun _ => rfl) (fun L x u hu => by first | exact ⟨gets_says says_str, rfl, rfl, rfl, rfl⟩ | exact ⟨gets_joined (by repeat (first | exact SaysAll.nil | refine SaysAll.cons (says_str) ?_ | refine SaysAll.cons (says_fmt rfl rfl rfl rfl (by assumption)) ?_)), rfl, rfl, rfl, rfl⟩) (fun x u => by rfl), ⟨fun s x ws hl => match ws, hl with | [_], _ => .of_eq (by rfl), fun s x p q a b h => by cases h⟩⟩, B.xf, B.no, exc_mk t B, B.kC⟩
theorem c_InvalidRow (t : Tops K mg) (M : L2.Mod K mg base) (g : mg "InvalidRow" = some (.ref C)) (B : ClF K C fI cda "InvalidRow.__init__" ["index", "part"]) (T : ExsTxt PP K C fI cc cda)
    (l : K.lookup fI = some ⟨oc, od, .func (ksFn "__init__" "InvalidRow.__init__" (defArgs (inClass (top 3) 0)) (defBody (inClass (top 3) 0)) (defScope (inClass (top 3) 0)) .none kV doc pm an (.ref cda) ct cc), osl⟩) : Cl PP w K mg base "InvalidRow" C ["index", "part"] :=
  ⟨g, ⟨fI, _, exsI2 T ⟨B.kC, B.exC, B.tyC⟩ M t.sup l B.cd rfl (by decide) (by decide) (by exact ⟨rfl, rfl, by decide +kernel, by decide +kernel, rfl, by decide +kernel, rfl, rfl⟩) (B.no "index" (by simp)) (B.no "part" (by simp)) (fun _ => rfl) (fun _ => rfl) (by decide) (fun L x u v hu hv => by first | exact ⟨gets_says says_str, rfl, rfl, rfl, rfl⟩ | exact ⟨gets_joined (by repeat (first | exact SaysAll.nil | refine SaysAll.cons (says_str) ?_ | refine SaysAll.cons (says_fmt rfl rfl rfl rfl (by assumption)) ?_)), rfl, rfl, rfl, rfl⟩) (fun x u v => by rfl), ⟨fun s x ws hl => match ws, hl with | [_, _], _ => .of_eq (by rfl), fun s x p q a b h => by cases h; exact .of_eq (by rfl)⟩⟩, B.xf, B.no, exc_mk t B, B.kC⟩
theorem c_InvalidText (t : Tops K mg) (M : L2.Mod K mg base) (g : mg "InvalidText" = some (.ref C)) (B : ClF K C fI cda "InvalidText.__init__" ["line"]) (T : ExsTxt PP K C fI cc cda)
    (l : K.lookup fI = some ⟨oc, od, .func (ksFn "__init__" "InvalidText.__init__" (defArgs (inClass (top 4) 0)) (defBody (inClass (top 4) 0)) (defScope (inClass (top 4) 0)) .none kV doc pm an (.ref cda) ct cc), osl⟩) : Cl PP w K mg base "InvalidText" C ["line"] :=
  ⟨g, ⟨fI, _, exsI1 T ⟨B.kC, B.exC, B.tyC⟩ M t.sup l B.cd rfl (by decide) (by exact ⟨rfl, rfl, by decide +kernel, by decide +kernel, rfl, by decide +kernel, rfl, rfl⟩) (B.no "line" (by simp)) (fun _ => rfl) (fun L x u hu => by first | exact ⟨gets_says says_str, rfl, rfl, rfl, rfl⟩ | exact ⟨gets_joined (by repeat (first | exact SaysAll.nil | refine SaysAll.cons (says_str) ?_ | refine SaysAll.cons (says_fmt rfl rfl rfl rfl (by assumption)) ?_)), rfl, rfl, rfl, rfl⟩) (fun x u => by rfl), ⟨fun s x ws hl => match ws, hl with | [_], _ => .of_eq (by rfl), fun s x p q a b h => by cases h⟩⟩, B.xf, B.no, exc_mk t B, B.kC⟩
theorem c_BadWrong (t : Tops K mg) (M : L2.Mod K mg base) (g : mg "BadWrong" = some (.ref C)) (B : ClF K C fI cda "BadWrong.__init__" ["index"]) (T : ExsTxt PP K C fI cc cda)
    (l : K.lookup fI = some ⟨oc, od, .func (ksFn "__init__" "BadWrong.__init__" (defArgs (inClass (top 5) 0)) (defBody (inClass (top 5) 0)) (defScope (inClass (top 5) 0)) .none kV doc pm an (.ref cda) ct cc), osl⟩) : Cl PP w K mg base "BadWrong" C ["index"] :=
  ⟨g, ⟨fI, _, exsI1 T ⟨B.kC, B.exC, B.tyC⟩ M t.sup l B.cd rfl (by decide) (by exact ⟨rfl, rfl, by decide +kernel, by decide +kernel, rfl, by decide +kernel, rfl, rfl⟩) (B.no "index" (by simp)) (fun _ => rfl) (fun L x u hu => by first | exact ⟨gets_says says_str, rfl, rfl, rfl, rfl⟩ | exact ⟨gets_joined (by repeat (first | exact SaysAll.nil | refine SaysAll.cons (says_str) ?_ | refine SaysAll.cons (says_fmt rfl rfl rfl rfl (by assumption)) ?_)), rfl, rfl, rfl, rfl⟩) (fun x u => by rfl), ⟨fun s x ws hl => match ws, hl with | [_], _ => .of_eq (by rfl), fun s x p q a b h => by cases h⟩⟩, B.xf, B.no, exc_mk t B, B.kC⟩
theorem c_BadWorld (t : Tops K mg) (M : L2.Mod K mg base) (g : mg "BadWorld" = some (.ref C)) (B : ClF K C fI cda "BadWorld.__init__" ["world"]) (T : ExsTxt PP K C fI cc cda)
    (l : K.lookup fI = some ⟨oc, od, .func (ksFn "__init__" "BadWorld.__init__" (defArgs (inClass (top 6) 0)) (defBody (inClass (top 6) 0)) (defScope (inClass (top 6) 0)) .none kV doc pm an (.ref cda) ct cc), osl⟩) : Cl PP w K mg base "BadWorld" C ["world"] :=
  ⟨g, ⟨fI, _, exsI1 T ⟨B.kC, B.exC, B.tyC⟩ M t.sup l B.cd rfl (by decide) (by exact ⟨rfl, rfl, by decide +kernel, by decide +kernel, rfl, by decide +kernel, rfl, rfl⟩) (B.no "world" (by simp)) (fun _ => rfl) (fun L x u hu => by first | exact ⟨gets_says says_str, rfl, rfl, rfl, rfl⟩ | exact ⟨gets_joined (by repeat (first | exact SaysAll.nil | refine SaysAll.cons (says_str) ?_ | refine SaysAll.cons (says_fmt rfl rfl rfl rfl (by assumption)) ?_)), rfl, rfl, rfl, rfl⟩) (fun x u => by rfl), ⟨fun s x ws hl => match ws, hl with | [_], _ => .of_eq (by rfl), fun s x p q a b h => by cases h⟩⟩, B.xf, B.no, exc_mk t B, B.kC⟩
theorem c_NoSeat (t : Tops K mg) (M : L2.Mod K mg base) (g : mg "NoSeat" = some (.ref C)) (B : ClF K C fI cda "NoSeat.__init__" ["seat"]) (T : ExsTxt PP K C fI cc cda)
    (l : K.lookup fI = some ⟨oc, od, .func (ksFn "__init__" "NoSeat.__init__" (defArgs (inClass (top 7) 0)) (defBody (inClass (top 7) 0)) (defScope (inClass (top 7) 0)) .none kV doc pm an (.ref cda) ct cc), osl⟩) : Cl PP w K mg base "NoSeat" C ["seat"] :=
  ⟨g, ⟨fI, _, exsI1 T ⟨B.kC, B.exC, B.tyC⟩ M t.sup l B.cd rfl (by decide) (by exact ⟨rfl, rfl, by decide +kernel, by decide +kernel, rfl, by decide +kernel, rfl, rfl⟩) (B.no "seat" (by simp)) (fun _ => rfl) (fun L x u hu => by first | exact ⟨gets_says says_str, rfl, rfl, rfl, rfl⟩ | exact ⟨gets_joined (by repeat (first | exact SaysAll.nil | refine SaysAll.cons (says_str) ?_ | refine SaysAll.cons (says_fmt rfl rfl rfl rfl (by assumption)) ?_)), rfl, rfl, rfl, rfl⟩) (fun x u => by rfl), ⟨fun s x ws hl => match ws, hl with | [_], _ => .of_eq (by rfl), fun s x p q a b h => by cases h⟩⟩, B.xf, B.no, exc_mk t B, B.kC⟩
theorem c_NoPage (t : Tops K mg) (M : L2.Mod K mg base) (g : mg "NoPage" = some (.ref C)) (B : ClF K C fI cda "NoPage.__init__" ["page"]) (T : ExsTxt PP K C fI cc cda)
    (l : K.lookup fI = some ⟨oc, od, .func (ksFn "__init__" "NoPage.__init__" (defArgs (inClass (top 8) 0)) (defBody (inClass (top 8) 0)) (defScope (inClass (top 8) 0)) .none kV doc pm an (.ref cda) ct cc), osl⟩) : Cl PP w K mg base "NoPage" C ["page"] :=
  ⟨g, ⟨fI, _, exsI1 T ⟨B.kC, B.exC, B.tyC⟩ M t.sup l B.cd rfl (by decide) (by exact ⟨rfl, rfl, by decide +kernel, by decide +kernel, rfl, by decide +kernel, rfl, rfl⟩) (B.no "page" (by simp)) (fun _ => rfl) (fun L x u hu => by first | exact ⟨gets_says says_str, rfl, rfl, rfl, rfl⟩ | exact ⟨gets_joined (by repeat (first | exact SaysAll.nil | refine SaysAll.cons (says_str) ?_ | refine SaysAll.cons (says_fmt rfl rfl rfl rfl (by assumption)) ?_)), rfl, rfl, rfl, rfl⟩) (fun x u => by rfl), ⟨fun s x ws hl => match ws, hl with | [_], _ => .of_eq (by rfl), fun s x p q a b h => by cases h⟩⟩, B.xf, B.no, exc_mk t B, B.kC⟩
theorem c_NoRow (t : Tops K mg) (M : L2.Mod K mg base) (g : mg "NoRow" = some (.ref C)) (B : ClF K C fI cda "NoRow.__init__" ["name"]) (T : ExsTxt PP K C fI cc cda)
    (l : K.lookup fI = some ⟨oc, od, .func (ksFn "__init__" "NoRow.__init__" (defArgs (inClass (top 9) 0)) (defBody (inClass (top 9) 0)) (defScope (inClass (top 9) 0)) .none kV doc pm an (.ref cda) ct cc), osl⟩) : Cl PP w K mg base "NoRow" C ["name"] :=
  ⟨g, ⟨fI, _, exsI1 T ⟨B.kC, B.exC, B.tyC⟩ M t.sup l B.cd rfl (by decide) (by exact ⟨rfl, rfl, by decide +kernel, by decide +kernel, rfl, by decide +kernel, rfl, rfl⟩) (B.no "name" (by simp)) (fun _ => rfl) (fun L x u hu => by first | exact ⟨gets_says says_str, rfl, rfl, rfl, rfl⟩ | exact ⟨gets_joined (by repeat (first | exact SaysAll.nil | refine SaysAll.cons (says_str) ?_ | refine SaysAll.cons (says_fmt rfl rfl rfl rfl (by assumption)) ?_)), rfl, rfl, rfl, rfl⟩) (fun x u => by rfl), ⟨fun s x ws hl => match ws, hl with | [_], _ => .of_eq (by rfl), fun s x p q a b h => by cases h⟩⟩, B.xf, B.no, exc_mk t B, B.kC⟩
theorem c_BadBasket (t : Tops K mg) (M : L2.Mod K mg base) (g : mg "BadBasket" = some (.ref C)) (B : ClF K C fI cda "BadBasket.__init__" []) (T : ExsTxt PP K C fI cc cda)
    (l : K.lookup fI = some ⟨oc, od, .func (ksFn "__init__" "BadBasket.__init__" (defArgs (inClass (top 10) 0)) (defBody (inClass (top 10) 0)) (defScope (inClass (top 10) 0)) .none kV doc pm an (.ref cda) ct cc), osl⟩) : Cl PP w K mg base "BadBasket" C [] :=
  ⟨g, ⟨fI, _, exsI0 T ⟨B.kC, B.exC, B.tyC⟩ M t.sup l B.cd rfl (by exact ⟨rfl, rfl, by decide +kernel, by decide +kernel, rfl, by decide +kernel, rfl, rfl⟩) (fun L x => by first | exact ⟨gets_says says_str, rfl, rfl, rfl, rfl⟩ | exact ⟨gets_joined (by repeat (first | exact SaysAll.nil | refine SaysAll.cons (says_str) ?_ | refine SaysAll.cons (says_fmt rfl rfl rfl rfl (by assumption)) ?_)), rfl, rfl, rfl, rfl⟩) (fun x => by rfl), ⟨fun s x ws hl => match ws, hl with | [], _ => .of_eq (by rfl), fun s x p q a b h => by cases h⟩⟩, B.xf, B.no, exc_mk t B, B.kC⟩
theorem c_NotShown (t : Tops K mg) (M : L2.Mod K mg base) (g : mg "NotShown" = some (.ref C)) (B : ClF K C fI cda "NotShown.__init__" ["seat"]) (T : ExsTxt PP K C fI cc cda)
    (l : K.lookup fI = some ⟨oc, od, .func (ksFn "__init__" "NotShown.__init__" (defArgs (inClass (top 11) 0)) (defBody (inClass (top 11) 0)) (defScope (inClass (top 11) 0)) .none kV doc pm an (.ref cda) ct cc), osl⟩) : Cl PP w K mg base "NotShown" C ["seat"] :=
  ⟨g, ⟨fI, _, exsI1 T ⟨B.kC, B.exC, B.tyC⟩ M t.sup l B.cd rfl (by decide) (by exact ⟨rfl, rfl, by decide +kernel, by decide +kernel, rfl, by decide +kernel, rfl, rfl⟩) (B.no "seat" (by simp)) (fun _ => rfl) (fun L x u hu => by first | exact ⟨gets_says says_str, rfl, rfl, rfl, rfl⟩ | exact ⟨gets_joined (by repeat (first | exact SaysAll.nil | refine SaysAll.cons (says_str) ?_ | refine SaysAll.cons (says_fmt rfl rfl rfl rfl (by assumption)) ?_)), rfl, rfl, rfl, rfl⟩) (fun x u => by rfl), ⟨fun s x ws hl => match ws, hl with | [_], _ => .of_eq (by rfl), fun s x p q a b h => by cases h⟩⟩, B.xf, B.no, exc_mk t B, B.kC⟩
theorem c_BadWords (t : Tops K mg) (M : L2.Mod K mg base) (g : mg "BadWords" = some (.ref C)) (B : ClF K C fI cda "BadWords.__init__" []) (T : ExsTxt PP K C fI cc cda)
    (l : K.lookup fI = some ⟨oc, od, .func (ksFn "__init__" "BadWords.__init__" (defArgs (inClass (top 12) 0)) (defBody (inClass (top 12) 0)) (defScope (inClass (top 12) 0)) .none kV doc pm an (.ref cda) ct cc), osl⟩) : Cl PP w K mg base "BadWords" C [] :=
  ⟨g, ⟨fI, _, exsI0 T ⟨B.kC, B.exC, B.tyC⟩ M t.sup l B.cd rfl (by exact ⟨rfl, rfl, by decide +kernel, by decide +kernel, rfl, by decide +kernel, rfl, rfl⟩) (fun L x => by first | exact ⟨gets_says says_str, rfl, rfl, rfl, rfl⟩ | exact ⟨gets_joined (by repeat (first | exact SaysAll.nil | refine SaysAll.cons (says_str) ?_ | refine SaysAll.cons (says_fmt rfl rfl rfl rfl (by assumption)) ?_)), rfl, rfl, rfl, rfl⟩) (fun x => by rfl), ⟨fun s x ws hl => match ws, hl with | [], _ => .of_eq (by rfl), fun s x p q a b h => by cases h⟩⟩, B.xf, B.no, exc_mk t B, B.kC⟩
theorem c_NoLetter (t : Tops K mg) (M : L2.Mod K mg base) (g : mg "NoLetter" = some (.ref C)) (B : ClF K C fI cda "NoLetter.__init__" ["letter"]) (T : ExsTxt PP K C fI cc cda)
    (l : K.lookup fI = some ⟨oc, od, .func (ksFn "__init__" "NoLetter.__init__" (defArgs (inClass (top 13) 0)) (defBody (inClass (top 13) 0)) (defScope (inClass (top 13) 0)) .none kV doc pm an (.ref cda) ct cc), osl⟩) : Cl PP w K mg base "NoLetter" C ["letter"] :=
  ⟨g, ⟨fI, _, exsI1 T ⟨B.kC, B.exC, B.tyC⟩ M t.sup l B.cd rfl (by decide) (by exact ⟨rfl, rfl, by decide +kernel, by decide +kernel, rfl, by decide +kernel, rfl, rfl⟩) (B.no "letter" (by simp)) (fun _ => rfl) (fun L x u hu => by first | exact ⟨gets_says says_str, rfl, rfl, rfl, rfl⟩ | exact ⟨gets_joined (by repeat (first | exact SaysAll.nil | refine SaysAll.cons (says_str) ?_ | refine SaysAll.cons (says_fmt rfl rfl rfl rfl (by assumption)) ?_)), rfl, rfl, rfl, rfl⟩) (fun x u => by rfl), ⟨fun s x ws hl => match ws, hl with | [_], _ => .of_eq (by rfl), fun s x p q a b h => by cases h⟩⟩, B.xf, B.no, exc_mk t B, B.kC⟩
theorem c_NoAnswer (t : Tops K mg) (M : L2.Mod K mg base) (g : mg "NoAnswer" = some (.ref C)) (B : ClF K C fI cda "NoAnswer.__init__" ["letter"]) (T : ExsTxt PP K C fI cc cda)
    (l : K.lookup fI = some ⟨oc, od, .func (ksFn "__init__" "NoAnswer.__init__" (defArgs (inClass (top 14) 0)) (defBody (inClass (top 14) 0)) (defScope (inClass (top 14) 0)) .none kV doc pm an (.ref cda) ct cc), osl⟩) : Cl PP w K mg base "NoAnswer" C ["letter"] :=
  ⟨g, ⟨fI, _, exsI1 T ⟨B.kC, B.exC, B.tyC⟩ M t.sup l B.cd rfl (by decide) (by exact ⟨rfl, rfl, by decide +kernel, by decide +kernel, rfl, by decide +kernel, rfl, rfl⟩) (B.no "letter" (by simp)) (fun _ => rfl) (fun L x u hu => by first | exact ⟨gets_says says_str, rfl, rfl, rfl, rfl⟩ | exact ⟨gets_joined (by repeat (first | exact SaysAll.nil | refine SaysAll.cons (says_str) ?_ | refine SaysAll.cons (says_fmt rfl rfl rfl rfl (by assumption)) ?_)), rfl, rfl, rfl, rfl⟩) (fun x u => by rfl), ⟨fun s x ws hl => match ws, hl with | [_], _ => .of_eq (by rfl), fun s x p q a b h => by cases h⟩⟩, B.xf, B.no, exc_mk t B, B.kC⟩
theorem c_BadLength (t : Tops K mg) (M : L2.Mod K mg base) (g : mg "BadLength" = some (.ref C)) (B : ClF K C fI cda "BadLength.__init__" ["length"]) (T : ExsTxt PP K C fI cc cda)
    (l : K.lookup fI = some ⟨oc, od, .func (ksFn "__init__" "BadLength.__init__" (defArgs (inClass (top 15) 0)) (defBody (inClass (top 15) 0)) (defScope (inClass (top 15) 0)) .none kV doc pm an (.ref cda) ct cc), osl⟩) : Cl PP w K mg base "BadLength" C ["length"] :=
  ⟨g, ⟨fI, _, exsI1 T ⟨B.kC, B.exC, B.tyC⟩ M t.sup l B.cd rfl (by decide) (by exact ⟨rfl, rfl, by decide +kernel, by decide +kernel, rfl, by decide +kernel, rfl, rfl⟩) (B.no "length" (by simp)) (fun _ => rfl) (fun L x u hu => by first | exact ⟨gets_says says_str, rfl, rfl, rfl, rfl⟩ | exact ⟨gets_joined (by repeat (first | exact SaysAll.nil | refine SaysAll.cons (says_str) ?_ | refine SaysAll.cons (says_fmt rfl rfl rfl rfl (by assumption)) ?_)), rfl, rfl, rfl, rfl⟩) (fun x u => by rfl), ⟨fun s x ws hl => match ws, hl with | [_], _ => .of_eq (by rfl), fun s x p q a b h => by cases h⟩⟩, B.xf, B.no, exc_mk t B, B.kC⟩
theorem c_NothingToUndo (t : Tops K mg) (M : L2.Mod K mg base) (g : mg "NothingToUndo" = some (.ref C)) (B : ClF K C fI cda "NothingToUndo.__init__" []) (T : ExsTxt PP K C fI cc cda)
    (l : K.lookup fI = some ⟨oc, od, .func (ksFn "__init__" "NothingToUndo.__init__" (defArgs (inClass (top 16) 0)) (defBody (inClass (top 16) 0)) (defScope (inClass (top 16) 0)) .none kV doc pm an (.ref cda) ct cc), osl⟩) : Cl PP w K mg base "NothingToUndo" C [] :=
  ⟨g, ⟨fI, _, exsI0 T ⟨B.kC, B.exC, B.tyC⟩ M t.sup l B.cd rfl (by exact ⟨rfl, rfl, by decide +kernel, by decide +kernel, rfl, by decide +kernel, rfl, rfl⟩) (fun L x => by first | exact ⟨gets_says says_str, rfl, rfl, rfl, rfl⟩ | exact ⟨gets_joined (by repeat (first | exact SaysAll.nil | refine SaysAll.cons (says_str) ?_ | refine SaysAll.cons (says_fmt rfl rfl rfl rfl (by assumption)) ?_)), rfl, rfl, rfl, rfl⟩) (fun x => by rfl), ⟨fun s x ws hl => match ws, hl with | [], _ => .of_eq (by rfl), fun s x p q a b h => by cases h⟩⟩, B.xf, B.no, exc_mk t B, B.kC⟩
theorem c_BadEvent (t : Tops K mg) (M : L2.Mod K mg base) (g : mg "BadEvent" = some (.ref C)) (B : ClF K C fI cda "BadEvent.__init__" ["index"]) (T : ExsTxt PP K C fI cc cda)
    (l : K.lookup fI = some ⟨oc, od, .func (ksFn "__init__" "BadEvent.__init__" (defArgs (inClass (top 17) 0)) (defBody (inClass (top 17) 0)) (defScope (inClass (top 17) 0)) .none kV doc pm an (.ref cda) ct cc), osl⟩) : Cl PP w K mg base "BadEvent" C ["index"] :=
  ⟨g, ⟨fI, _, exsI1 T ⟨B.kC, B.exC, B.tyC⟩ M t.sup l B.cd rfl (by decide) (by exact ⟨rfl, rfl, by decide +kernel, by decide +kernel, rfl, by decide +kernel, rfl, rfl⟩) (B.no "index" (by simp)) (fun _ => rfl) (fun L x u hu => by first | exact ⟨gets_says says_str, rfl, rfl, rfl, rfl⟩ | exact ⟨gets_joined (by repeat (first | exact SaysAll.nil | refine SaysAll.cons (says_str) ?_ | refine SaysAll.cons (says_fmt rfl rfl rfl rfl (by assumption)) ?_)), rfl, rfl, rfl, rfl⟩) (fun x u => by rfl), ⟨fun s x ws hl => match ws, hl with | [_], _ => .of_eq (by rfl), fun s x p q a b h => by cases h⟩⟩, B.xf, B.no, exc_mk t B, B.kC⟩
theorem c_WrongAhead (t : Tops K mg) (M : L2.Mod K mg base) (g : mg "WrongAhead" = some (.ref C)) (B : ClF K C fI cda "WrongAhead.__init__" ["wrong"]) (T : ExsTxt PP K C fI cc cda)
    (l : K.lookup fI = some ⟨oc, od, .func (ksFn "__init__" "WrongAhead.__init__" (defArgs (inClass (top 18) 0)) (defBody (inClass (top 18) 0)) (defScope (inClass (top 18) 0)) .none kV doc pm an (.ref cda) ct cc), osl⟩) : Cl PP w K mg base "WrongAhead" C ["wrong"] :=
  ⟨g, ⟨fI, _, exsI1 T ⟨B.kC, B.exC, B.tyC⟩ M t.sup l B.cd rfl (by decide) (by exact ⟨rfl, rfl, by decide +kernel, by decide +kernel, rfl, by decide +kernel, rfl, rfl⟩) (B.no "wrong" (by simp)) (fun _ => rfl) (fun L x u hu => by first | exact ⟨gets_says says_str, rfl, rfl, rfl, rfl⟩ | exact ⟨gets_joined (by repeat (first | exact SaysAll.nil | refine SaysAll.cons (says_str) ?_ | refine SaysAll.cons (says_fmt rfl rfl rfl rfl (by assumption)) ?_)), rfl, rfl, rfl, rfl⟩) (fun x u => by rfl), ⟨fun s x ws hl => match ws, hl with | [_], _ => .of_eq (by rfl), fun s x p q a b h => by cases h⟩⟩, B.xf, B.no, exc_mk t B, B.kC⟩
theorem c_InvalidSituation (t : Tops K mg) (M : L2.Mod K mg base) (g : mg "InvalidSituation" = some (.ref C)) (B : ClF K C fI cda "InvalidSituation.__init__" []) (T : ExsTxt PP K C fI cc cda)
    (l : K.lookup fI = some ⟨oc, od, .func (ksFn "__init__" "InvalidSituation.__init__" (defArgs (inClass (top 19) 0)) (defBody (inClass (top 19) 0)) (defScope (inClass (top 19) 0)) .none kV doc pm an (.ref cda) ct cc), osl⟩) : Cl PP w K mg base "InvalidSituation" C [] :=
  ⟨g, ⟨fI, _, exsI0 T ⟨B.kC, B.exC, B.tyC⟩ M t.sup l B.cd rfl (by exact ⟨rfl, rfl, by decide +kernel, by decide +kernel, rfl, by decide +kernel, rfl, rfl⟩) (fun L x => by first | exact ⟨gets_says says_str, rfl, rfl, rfl, rfl⟩ | exact ⟨gets_joined (by repeat (first | exact SaysAll.nil | refine SaysAll.cons (says_str) ?_ | refine SaysAll.cons (says_fmt rfl rfl rfl rfl (by assumption)) ?_)), rfl, rfl, rfl, rfl⟩) (fun x => by rfl), ⟨fun s x ws hl => match ws, hl with | [], _ => .of_eq (by rfl), fun s x p q a b h => by cases h⟩⟩, B.xf, B.no, exc_mk t B, B.kC⟩
theorem c_NotDone (t : Tops K mg) (M : L2.Mod K mg base) (g : mg "NotDone" = some (.ref C)) (B : ClF K C fI cda "NotDone.__init__" []) (T : ExsTxt PP K C fI cc cda)
    (l : K.lookup fI = some ⟨oc, od, .func (ksFn "__init__" "NotDone.__init__" (defArgs (inClass (top 20) 0)) (defBody (inClass (top 20) 0)) (defScope (inClass (top 20) 0)) .none kV doc pm an (.ref cda) ct cc), osl⟩) : Cl PP w K mg base "NotDone" C [] :=
  ⟨g, ⟨fI, _, exsI0 T ⟨B.kC, B.exC, B.tyC⟩ M t.sup l B.cd rfl (by exact ⟨rfl, rfl, by decide +kernel, by decide +kernel, rfl, by decide +kernel, rfl, rfl⟩) (fun L x => by first | exact ⟨gets_says says_str, rfl, rfl, rfl, rfl⟩ | exact ⟨gets_joined (by repeat (first | exact SaysAll.nil | refine SaysAll.cons (says_str) ?_ | refine SaysAll.cons (says_fmt rfl rfl rfl rfl (by assumption)) ?_)), rfl, rfl, rfl, rfl⟩) (fun x => by rfl), ⟨fun s x ws hl => match ws, hl with | [], _ => .of_eq (by rfl), fun s x p q a b h => by cases h⟩⟩, B.xf, B.no, exc_mk t B, B.kC⟩
theorem c_BadPages (t : Tops K mg) (M : L2.Mod K mg base) (g : mg "BadPages" = some (.ref C)) (B : ClF K C fI cda "BadPages.__init__" ["pages"]) (T : ExsTxt PP K C fI cc cda)
    (l : K.lookup fI = some ⟨oc, od, .func (ksFn "__init__" "BadPages.__init__" (defArgs (inClass (top 21) 0)) (defBody (inClass (top 21) 0)) (defScope (inClass (top 21) 0)) .none kV doc pm an (.ref cda) ct cc), osl⟩) : Cl PP w K mg base "BadPages" C ["pages"] :=
  ⟨g, ⟨fI, _, exsI1 T ⟨B.kC, B.exC, B.tyC⟩ M t.sup l B.cd rfl (by decide) (by exact ⟨rfl, rfl, by decide +kernel, by decide +kernel, rfl, by decide +kernel, rfl, rfl⟩) (B.no "pages" (by simp)) (fun _ => rfl) (fun L x u hu => by first | exact ⟨gets_says says_str, rfl, rfl, rfl, rfl⟩ | exact ⟨gets_joined (by repeat (first | exact SaysAll.nil | refine SaysAll.cons (says_str) ?_ | refine SaysAll.cons (says_fmt rfl rfl rfl rfl (by assumption)) ?_)), rfl, rfl, rfl, rfl⟩) (fun x u => by rfl), ⟨fun s x ws hl => match ws, hl with | [_], _ => .of_eq (by rfl), fun s x p q a b h => by cases h⟩⟩, B.xf, B.no, exc_mk t B, B.kC⟩
theorem c_BadMost (t : Tops K mg) (M : L2.Mod K mg base) (g : mg "BadMost" = some (.ref C)) (B : ClF K C fI cda "BadMost.__init__" ["most"]) (T : ExsTxt PP K C fI cc cda)
    (l : K.lookup fI = some ⟨oc, od, .func (ksFn "__init__" "BadMost.__init__" (defArgs (inClass (top 22) 0)) (defBody (inClass (top 22) 0)) (defScope (inClass (top 22) 0)) .none kV doc pm an (.ref cda) ct cc), osl⟩) : Cl PP w K mg base "BadMost" C ["most"] :=
  ⟨g, ⟨fI, _, exsI1 T ⟨B.kC, B.exC, B.tyC⟩ M t.sup l B.cd rfl (by decide) (by exact ⟨rfl, rfl, by decide +kernel, by decide +kernel, rfl, by decide +kernel, rfl, rfl⟩) (B.no "most" (by simp)) (fun _ => rfl) (fun L x u hu => by first | exact ⟨gets_says says_str, rfl, rfl, rfl, rfl⟩ | exact ⟨gets_joined (by repeat (first | exact SaysAll.nil | refine SaysAll.cons (says_str) ?_ | refine SaysAll.cons (says_fmt rfl rfl rfl rfl (by assumption)) ?_)), rfl, rfl, rfl, rfl⟩) (fun x u => by rfl), ⟨fun s x ws hl => match ws, hl with | [_], _ => .of_eq (by rfl), fun s x p q a b h => by cases h⟩⟩, B.xf, B.no, exc_mk t B, B.kC⟩
theorem c_HasWrong (t : Tops K mg) (M : L2.Mod K mg base) (g : mg "HasWrong" = some (.ref C)) (B : ClF K C fI cda "HasWrong.__init__" ["wrong"]) (T : ExsTxt PP K C fI cc cda)
    (l : K.lookup fI = some ⟨oc, od, .func (ksFn "__init__" "HasWrong.__init__" (defArgs (inClass (top 23) 0)) (defBody (inClass (top 23) 0)) (defScope (inClass (top 23) 0)) .none kV doc pm an (.ref cda) ct cc), osl⟩) : Cl PP w K mg base "HasWrong" C ["wrong"] :=
  ⟨g, ⟨fI, _, exsI1 T ⟨B.kC, B.exC, B.tyC⟩ M t.sup l B.cd rfl (by decide) (by exact ⟨rfl, rfl, by decide +kernel, by decide +kernel, rfl, by decide +kernel, rfl, rfl⟩) (B.no "wrong" (by simp)) (fun _ => rfl) (fun L x u hu => by first | exact ⟨gets_says says_str, rfl, rfl, rfl, rfl⟩ | exact ⟨gets_joined (by repeat (first | exact SaysAll.nil | refine SaysAll.cons (says_str) ?_ | refine SaysAll.cons (says_fmt rfl rfl rfl rfl (by assumption)) ?_)), rfl, rfl, rfl, rfl⟩) (fun x u => by rfl), ⟨fun s x ws hl => match ws, hl with | [_], _ => .of_eq (by rfl), fun s x p q a b h => by cases h⟩⟩, B.xf, B.no, exc_mk t B, B.kC⟩
theorem c_UnlikeStates (t : Tops K mg) (M : L2.Mod K mg base) (g : mg "UnlikeStates" = some (.ref C)) (B : ClF K C fI cda "UnlikeStates.__init__" []) (T : ExsTxt PP K C fI cc cda)
    (l : K.lookup fI = some ⟨oc, od, .func (ksFn "__init__" "UnlikeStates.__init__" (defArgs (inClass (top 24) 0)) (defBody (inClass (top 24) 0)) (defScope (inClass (top 24) 0)) .none kV doc pm an (.ref cda) ct cc), osl⟩) : Cl PP w K mg base "UnlikeStates" C [] :=
  ⟨g, ⟨fI, _, exsI0 T ⟨B.kC, B.exC, B.tyC⟩ M t.sup l B.cd rfl (by exact ⟨rfl, rfl, by decide +kernel, by decide +kernel, rfl, by decide +kernel, rfl, rfl⟩) (fun L x => by first | exact ⟨gets_says says_str, rfl, rfl, rfl, rfl⟩ | exact ⟨gets_joined (by repeat (first | exact SaysAll.nil | refine SaysAll.cons (says_str) ?_ | refine SaysAll.cons (says_fmt rfl rfl rfl rfl (by assumption)) ?_)), rfl, rfl, rfl, rfl⟩) (fun x => by rfl), ⟨fun s x ws hl => match ws, hl with | [], _ => .of_eq (by rfl), fun s x p q a b h => by cases h⟩⟩, B.xf, B.no, exc_mk t B, B.kC⟩
theorem c_BadLook (t : Tops K mg) (M : L2.Mod K mg base) (g : mg "BadLook" = some (.ref C)) (B : ClF K C fI cda "BadLook.__init__" ["name", "look"]) (T : ExsTxt PP K C fI cc cda)
    (l : K.lookup fI = some ⟨oc, od, .func (ksFn "__init__" "BadLook.__init__" (defArgs (inClass (top 25) 0)) (defBody (inClass (top 25) 0)) (defScope (inClass (top 25) 0)) .none kV doc pm an (.ref cda) ct cc), osl⟩) : Cl PP w K mg base "BadLook" C ["name", "look"] :=
  ⟨g, ⟨fI, _, exsI2 T ⟨B.kC, B.exC, B.tyC⟩ M t.sup l B.cd rfl (by decide) (by decide) (by exact ⟨rfl, rfl, by decide +kernel, by decide +kernel, rfl, by decide +kernel, rfl, rfl⟩) (B.no "name" (by simp)) (B.no "look" (by simp)) (fun _ => rfl) (fun _ => rfl) (by decide) (fun L x u v hu hv => by first | exact ⟨gets_says says_str, rfl, rfl, rfl, rfl⟩ | exact ⟨gets_joined (by repeat (first | exact SaysAll.nil | refine SaysAll.cons (says_str) ?_ | refine SaysAll.cons (says_fmt rfl rfl rfl rfl (by assumption)) ?_)), rfl, rfl, rfl, rfl⟩) (fun x u v => by rfl), ⟨fun s x ws hl => match ws, hl with | [_, _], _ => .of_eq (by rfl), fun s x p q a b h => by cases h; exact .of_eq (by rfl)⟩⟩, B.xf, B.no, exc_mk t B, B.kC⟩
end
end Ox

namespace Ox
open PySem PySem.Spec PyProof.Rows L2
/-- the classes, in the order of the law's ways -/
structure AllC (w : World) (K : PySem.W.Frag) (mg : Str → Option Value) (base : Heap) (A : Nat → Addr) : Prop where
  c0 : Cl PP w K mg base "BadBasket" (A 0) []
  c1 : Cl PP w K mg base "BadEvent" (A 1) ["index"]
  c2 : Cl PP w K mg base "BadLength" (A 2) ["length"]
  c3 : Cl PP w K mg base "BadLook" (A 3) ["name", "look"]
  c4 : Cl PP w K mg base "BadMost" (A 4) ["most"]
  c5 : Cl PP w K mg base "BadPages" (A 5) ["pages"]
  c6 : Cl PP w K mg base "BadWords" (A 6) []
  c7 : Cl PP w K mg base "BadWorld" (A 7) ["world"]
  c8 : Cl PP w K mg base "BadWrong" (A 8) ["index"]
  c9 : Cl PP w K mg base "HasWrong" (A 9) ["wrong"]
  c10 : Cl PP w K mg base "InvalidRow" (A 10) ["index", "part"]
  c11 : Cl PP w K mg base "InvalidSituation" (A 11) []
  c12 : Cl PP w K mg base "InvalidStates" (A 12) ["index"]
  c13 : Cl PP w K mg base "InvalidText" (A 13) ["line"]
  c14 : Cl PP w K mg base "NoAnswer" (A 14) ["letter"]
  c15 : Cl PP w K mg base "NoLetter" (A 15) ["letter"]
  c16 : Cl PP w K mg base "NoPage" (A 16) ["page"]
  c17 : Cl PP w K mg base "NoRow" (A 17) ["name"]
  c18 : Cl PP w K mg base "NoSeat" (A 18) ["seat"]
  c19 : Cl PP w K mg base "NotDone" (A 19) []
  c20 : Cl PP w K mg base "NotShown" (A 20) ["seat"]
  c21 : Cl PP w K mg base "NothingToUndo" (A 21) []
  c22 : Cl PP w K mg base "UnlikeStates" (A 22) []
  c23 : Cl PP w K mg base "WrongAhead" (A 23) ["wrong"]
/-- the heap behind a raise: the error's dict, if it has one, is new -/
def ExX (H : Hp) (d : Option Addr) (H' : Hp) : Prop := (d = none ∧ H' = H) ∨ ∃ a fs, d = some a ∧ H a = none ∧ H' = upd H a (.xd fs)
def spOne (A : Nat → Addr) (lo : Nat) : Sp := fun vs H _ E => ∃ i : Nat, lo ≤ i ∧ i < 24 ∧ vs = [.int (i : Int)] ∧ ∀ d H', ExX H d H' → E (.ref (A i)) d H'
section
variable {D : Ends} {σ : L2.St} {H : Hp} {i c : Int} {tr rest : TS} {C : Addr} {W : WX} {p q : Str} {v u : V}
theorem step_no (hσ : σ[0]? = some (some (.int i))) (h : i ≠ c) (k : rest D σ H) : tSeq (tIfS (tTest (tOp rEq (tVar 0) (tC (.int c)))) tr tNext) rest D σ H := by
  refine ⟨_, hσ, rfl, _, rfl, ?_⟩
  have e : decide (V.int i = V.int c) = false := decide_eq_false (fun z => h (V.int.inj z))
  rw [e]
  exact k
theorem step_yes (hσ : σ[0]? = some (some (.int i))) (h : i = c) (k : tr { D with nx := rest D } σ H) : tSeq (tIfS (tTest (tOp rEq (tVar 0) (tC (.int c)))) tr tNext) rest D σ H := by
  subst h
  refine ⟨_, hσ, rfl, _, rfl, ?_⟩
  have e : decide (V.int i = V.int i) = true := decide_eq_true rfl
  rw [e]
  exact k
theorem step_end (hσ : σ[0]? = some (some (.int i))) (h : i = c) (k : tr D σ H) : tIfS (tTest (tOp rEq (tVar 0) (tC (.int c)))) tr tNext D σ H := by
  subst h
  refine ⟨_, hσ, rfl, _, rfl, ?_⟩
  have e : decide (V.int i = V.int i) = true := decide_eq_true rfl
  rw [e]
  exact k
theorem fine_int {z : Int} (h : z.natAbs.log2 < 1920 := by decide) : FineV (.int z) := .inr ⟨z, rfl, h⟩
theorem fine_str {z : Str} (h : z.length ≤ 1000000 := by decide) : FineV (.str z) := .inl ⟨z, rfl, h⟩
theorem raise_0 (k : ∀ d H', ExX H d H' → W (.ref C) d σ H') : tRaiseX0 C W D σ H := k none H (.inl ⟨rfl, rfl⟩)
theorem raise_n {ps : List Str} {ta : TA} {vs : List V} (ha : ∀ F : List V → Hp → Prop, F vs H → ta σ H F) (hl : vs.length = ps.length) (hz : vs.length ≤ 1000) (hp : ps ≠ []) (hf : ∀ v ∈ vs, FineV v) (k : ∀ d H', ExX H d H' → W (.ref C) d σ H') : tRaiseX C ps W ta D σ H := by
  exact ha _ ⟨hl, hz, hf, fun z => absurd z hp, fun _ d hd => k (some d) _ (.inr ⟨d, _, rfl, hd, rfl⟩)⟩
end
section
variable {w : World} {K : PySem.W.Frag} {mg : Str → Option Value} {base : Heap} {A : Nat → Addr}
abbrev s_raised_more : Stmt := top 53
theorem sc_raised_more : FnScope ["way"] ["way"] (defScope s_raised_more) := ⟨rfl, rfl, rfl, by decide +kernel, rfl, by decide +kernel, by decide +kernel⟩
theorem ok_raised_more {f : Addr} {fd : FuncData} (F : Fun K "_law_raised_more" "_law_raised_more" s_raised_more f fd) (T : AllC w K mg base A) : FnOk PP w K mg base (L2N.CX PP w) 1 f fd ["way"] (spOne A 12) := by
  refine okN F sc_raised_more (fun vs H Q E h => ?_) (fun cdv B outer s H vs Q E hr h => ?_)
  · obtain ⟨i, _, _, rfl, _⟩ := h
    rfl
  · obtain ⟨i, hlo, hi, rfl, k⟩ := h
    obtain ⟨fI12, fd12_, I12, _⟩ := T.c12.made
    obtain ⟨fI13, fd13_, I13, _⟩ := T.c13.made
    obtain ⟨fI14, fd14_, I14, _⟩ := T.c14.made
    obtain ⟨fI15, fd15_, I15, _⟩ := T.c15.made
    obtain ⟨fI16, fd16_, I16, _⟩ := T.c16.made
    obtain ⟨fI17, fd17_, I17, _⟩ := T.c17.made
    obtain ⟨fI18, fd18_, I18, _⟩ := T.c18.made
    obtain ⟨fI19, fd19_, I19, _⟩ := T.c19.made
    obtain ⟨fI20, fd20_, I20, _⟩ := T.c20.made
    obtain ⟨fI21, fd21_, I21, _⟩ := T.c21.made
    obtain ⟨fI22, fd22_, I22, _⟩ := T.c22.made
    obtain ⟨fI23, fd23_, I23, _⟩ := T.c23.made
    refine ⟨_, pss_cons (ps_if (pt_cmpR op_eq (pv 0) pe_int (nomark _)) (pss_one (ps_raiseX rfl I12 hr takesN rfl T.c12.g (pa_cons pe_int pa_nil))) pss_nil)
      (pss_cons (ps_if (pt_cmpR op_eq (pv 0) pe_int (nomark _)) (pss_one (ps_raiseX rfl I13 hr takesN rfl T.c13.g (pa_cons pe_int pa_nil))) pss_nil)
      (pss_cons (ps_if (pt_cmpR op_eq (pv 0) pe_int (nomark _)) (pss_one (ps_raiseX rfl I14 hr takesN rfl T.c14.g (pa_cons pe_int pa_nil))) pss_nil)
      (pss_cons (ps_if (pt_cmpR op_eq (pv 0) pe_int (nomark _)) (pss_one (ps_raiseX rfl I15 hr takesN rfl T.c15.g (pa_cons pe_int pa_nil))) pss_nil)
      (pss_cons (ps_if (pt_cmpR op_eq (pv 0) pe_int (nomark _)) (pss_one (ps_raiseX rfl I16 hr takesN rfl T.c16.g (pa_cons (pe_un un_neg pe_int) pa_nil))) pss_nil)
      (pss_cons (ps_if (pt_cmpR op_eq (pv 0) pe_int (nomark _)) (pss_one (ps_raiseX rfl I17 hr takesN rfl T.c17.g (pa_cons pe_str pa_nil))) pss_nil)
      (pss_cons (ps_if (pt_cmpR op_eq (pv 0) pe_int (nomark _)) (pss_one (ps_raiseX rfl I18 hr takesN rfl T.c18.g (pa_cons pe_int pa_nil))) pss_nil)
      (pss_cons (ps_if (pt_cmpR op_eq (pv 0) pe_int (nomark _)) (pss_one (ps_raiseX0 rfl I19 hr takesN rfl T.c19.g)) pss_nil)
      (pss_cons (ps_if (pt_cmpR op_eq (pv 0) pe_int (nomark _)) (pss_one (ps_raiseX rfl I20 hr takesN rfl T.c20.g (pa_cons pe_int pa_nil))) pss_nil)
      (pss_cons (ps_if (pt_cmpR op_eq (pv 0) pe_int (nomark _)) (pss_one (ps_raiseX0 rfl I21 hr takesN rfl T.c21.g)) pss_nil)
      (pss_cons (ps_if (pt_cmpR op_eq (pv 0) pe_int (nomark _)) (pss_one (ps_raiseX0 rfl I22 hr takesN rfl T.c22.g)) pss_nil)
      (pss_one (ps_if (pt_cmpR op_eq (pv 0) pe_int (nomark _)) (pss_one (ps_raiseX rfl I23 hr takesN rfl T.c23.g (pa_cons pe_str pa_nil))) pss_nil)))))))))))), ?_⟩
    have hσ : (start ["way"] [V.int (i : Int)])[0]? = some (some (.int (i : Int))) := rfl
    by_cases h12 : i = 12
    · subst h12
      exact step_yes hσ rfl (raise_n (vs := [.int 2]) (fun F h => h) rfl (by decide) (by decide) (by intro v hv; simp only [List.mem_cons, List.not_mem_nil, or_false] at hv; rcases hv with rfl <;> first | exact fine_int | exact fine_str) k)
    refine step_no hσ (by omega) ?_
    by_cases h13 : i = 13
    · subst h13
      exact step_yes hσ rfl (raise_n (vs := [.int 3]) (fun F h => h) rfl (by decide) (by decide) (by intro v hv; simp only [List.mem_cons, List.not_mem_nil, or_false] at hv; rcases hv with rfl <;> first | exact fine_int | exact fine_str) k)
    refine step_no hσ (by omega) ?_
    by_cases h14 : i = 14
    · subst h14
      exact step_yes hσ rfl (raise_n (vs := [.int 5]) (fun F h => h) rfl (by decide) (by decide) (by intro v hv; simp only [List.mem_cons, List.not_mem_nil, or_false] at hv; rcases hv with rfl <;> first | exact fine_int | exact fine_str) k)
    refine step_no hσ (by omega) ?_
    by_cases h15 : i = 15
    · subst h15
      exact step_yes hσ rfl (raise_n (vs := [.int 4]) (fun F h => h) rfl (by decide) (by decide) (by intro v hv; simp only [List.mem_cons, List.not_mem_nil, or_false] at hv; rcases hv with rfl <;> first | exact fine_int | exact fine_str) k)
    refine step_no hσ (by omega) ?_
    by_cases h16 : i = 16
    · subst h16
      exact step_yes hσ rfl (raise_n (vs := [.int (-1)]) (fun F h => ⟨1, rfl, h⟩) rfl (by decide) (by decide) (by intro v hv; simp only [List.mem_cons, List.not_mem_nil, or_false] at hv; rcases hv with rfl <;> first | exact fine_int | exact fine_str) k)
    refine step_no hσ (by omega) ?_
    by_cases h17 : i = 17
    · subst h17
      exact step_yes hσ rfl (raise_n (vs := [.str "pay"]) (fun F h => h) rfl (by decide) (by decide) (by intro v hv; simp only [List.mem_cons, List.not_mem_nil, or_false] at hv; rcases hv with rfl <;> first | exact fine_int | exact fine_str) k)
    refine step_no hσ (by omega) ?_
    by_cases h18 : i = 18
    · subst h18
      exact step_yes hσ rfl (raise_n (vs := [.int 7]) (fun F h => h) rfl (by decide) (by decide) (by intro v hv; simp only [List.mem_cons, List.not_mem_nil, or_false] at hv; rcases hv with rfl <;> first | exact fine_int | exact fine_str) k)
    refine step_no hσ (by omega) ?_
    by_cases h19 : i = 19
    · subst h19
      exact step_yes hσ rfl (raise_0 k)
    refine step_no hσ (by omega) ?_
    by_cases h20 : i = 20
    · subst h20
      exact step_yes hσ rfl (raise_n (vs := [.int 0]) (fun F h => h) rfl (by decide) (by decide) (by intro v hv; simp only [List.mem_cons, List.not_mem_nil, or_false] at hv; rcases hv with rfl <;> first | exact fine_int | exact fine_str) k)
    refine step_no hσ (by omega) ?_
    by_cases h21 : i = 21
    · subst h21
      exact step_yes hσ rfl (raise_0 k)
    refine step_no hσ (by omega) ?_
    by_cases h22 : i = 22
    · subst h22
      exact step_yes hσ rfl (raise_0 k)
    refine step_no hσ (by omega) ?_
    have hw : i = 23 := by omega
    subst hw
    exact step_end hσ rfl (raise_n (vs := [.str "taken"]) (fun F h => h) rfl (by decide) (by decide) (by intro v hv; simp only [List.mem_cons, List.not_mem_nil, or_false] at hv; rcases hv with rfl <;> first | exact fine_int | exact fine_str) k)
abbrev s_raised_one : Stmt := top 52
theorem sc_raised_one : FnScope ["way"] ["way"] (defScope s_raised_one) := ⟨rfl, rfl, rfl, by decide +kernel, rfl, by decide +kernel, by decide +kernel⟩
theorem ok_raised_one {f : Addr} {fd : FuncData} (F : Fun K "_law_raised_one" "_law_raised_one" s_raised_one f fd) (T : AllC w K mg base A) {f2 : Addr} {fd2 : FuncData} (F2 : FnOk PP w K mg base (L2N.CX PP w) 1 f2 fd2 ["way"] (spOne A 12)) (g2 : mg "_law_raised_more" = some (.ref f2)) (k2 : PySem.W.keepIn K (.ref f2) = true) (b2 : Binds K fd2 ["way"] []) : FnOk PP w K mg base (L2N.CX PP w) 2 f fd ["way"] (spOne A 0) := by
  refine okN F sc_raised_one (fun vs H Q E h => ?_) (fun cdv B outer s H vs Q E hr h => ?_)
  · obtain ⟨i, _, _, rfl, _⟩ := h
    rfl
  · obtain ⟨i, hlo, hi, rfl, k⟩ := h
    obtain ⟨fI0, fd0_, I0, _⟩ := T.c0.made
    obtain ⟨fI1, fd1_, I1, _⟩ := T.c1.made
    obtain ⟨fI2, fd2_, I2, _⟩ := T.c2.made
    obtain ⟨fI3, fd3_, I3, _⟩ := T.c3.made
    obtain ⟨fI4, fd4_, I4, _⟩ := T.c4.made
    obtain ⟨fI5, fd5_, I5, _⟩ := T.c5.made
    obtain ⟨fI6, fd6_, I6, _⟩ := T.c6.made
    obtain ⟨fI7, fd7_, I7, _⟩ := T.c7.made
    obtain ⟨fI8, fd8_, I8, _⟩ := T.c8.made
    obtain ⟨fI9, fd9_, I9, _⟩ := T.c9.made
    obtain ⟨fI10, fd10_, I10, _⟩ := T.c10.made
    obtain ⟨fI11, fd11_, I11, _⟩ := T.c11.made
    refine ⟨_, pss_cons (ps_if (pt_cmpR op_eq (pv 0) pe_int (nomark _)) (pss_one (ps_raiseX0 rfl I0 hr takesN rfl T.c0.g)) pss_nil)
      (pss_cons (ps_if (pt_cmpR op_eq (pv 0) pe_int (nomark _)) (pss_one (ps_raiseX rfl I1 hr takesN rfl T.c1.g (pa_cons pe_int pa_nil))) pss_nil)
      (pss_cons (ps_if (pt_cmpR op_eq (pv 0) pe_int (nomark _)) (pss_one (ps_raiseX rfl I2 hr takesN rfl T.c2.g (pa_cons pe_int pa_nil))) pss_nil)
      (pss_cons (ps_if (pt_cmpR op_eq (pv 0) pe_int (nomark _)) (pss_one (ps_raiseX rfl I3 hr takesN rfl T.c3.g (pa_cons pe_str (pa_cons pe_str pa_nil)))) pss_nil)
      (pss_cons (ps_if (pt_cmpR op_eq (pv 0) pe_int (nomark _)) (pss_one (ps_raiseX rfl I4 hr takesN rfl T.c4.g (pa_cons pe_int pa_nil))) pss_nil)
      (pss_cons (ps_if (pt_cmpR op_eq (pv 0) pe_int (nomark _)) (pss_one (ps_raiseX rfl I5 hr takesN rfl T.c5.g (pa_cons pe_int pa_nil))) pss_nil)
      (pss_cons (ps_if (pt_cmpR op_eq (pv 0) pe_int (nomark _)) (pss_one (ps_raiseX0 rfl I6 hr takesN rfl T.c6.g)) pss_nil)
      (pss_cons (ps_if (pt_cmpR op_eq (pv 0) pe_int (nomark _)) (pss_one (ps_raiseX rfl I7 hr takesN rfl T.c7.g (pa_cons pe_str pa_nil))) pss_nil)
      (pss_cons (ps_if (pt_cmpR op_eq (pv 0) pe_int (nomark _)) (pss_one (ps_raiseX rfl I8 hr takesN rfl T.c8.g (pa_cons pe_int pa_nil))) pss_nil)
      (pss_cons (ps_if (pt_cmpR op_eq (pv 0) pe_int (nomark _)) (pss_one (ps_raiseX rfl I9 hr takesN rfl T.c9.g (pa_cons pe_str pa_nil))) pss_nil)
      (pss_cons (ps_if (pt_cmpR op_eq (pv 0) pe_int (nomark _)) (pss_one (ps_raiseX rfl I10 hr takesN rfl T.c10.g (pa_cons pe_int (pa_cons pe_str pa_nil)))) pss_nil)
      (pss_cons (ps_if (pt_cmpR op_eq (pv 0) pe_int (nomark _)) (pss_one (ps_raiseX0 rfl I11 hr takesN rfl T.c11.g)) pss_nil)
      (pss_one (ps_expr (pe_call F2 hr rfl g2 k2 b2 .nil (L2N.passes_call takesN fun _ _ _ _ h => h) (pa_cons (pv 0) pa_nil))))))))))))))), ?_⟩
    have hσ : (start ["way"] [V.int (i : Int)])[0]? = some (some (.int (i : Int))) := rfl
    by_cases h0 : i = 0
    · subst h0
      exact step_yes hσ rfl (raise_0 k)
    refine step_no hσ (by omega) ?_
    by_cases h1 : i = 1
    · subst h1
      exact step_yes hσ rfl (raise_n (vs := [.int 2]) (fun F h => h) rfl (by decide) (by decide) (by intro v hv; simp only [List.mem_cons, List.not_mem_nil, or_false] at hv; rcases hv with rfl <;> first | exact fine_int | exact fine_str) k)
    refine step_no hσ (by omega) ?_
    by_cases h2 : i = 2
    · subst h2
      exact step_yes hσ rfl (raise_n (vs := [.int 0]) (fun F h => h) rfl (by decide) (by decide) (by intro v hv; simp only [List.mem_cons, List.not_mem_nil, or_false] at hv; rcases hv with rfl <;> first | exact fine_int | exact fine_str) k)
    refine step_no hσ (by omega) ?_
    by_cases h3 : i = 3
    · subst h3
      exact step_yes hσ rfl (raise_n (vs := [.str "pay", .str "mine"]) (fun F h => h) rfl (by decide) (by decide) (by intro v hv; simp only [List.mem_cons, List.not_mem_nil, or_false] at hv; rcases hv with rfl | rfl <;> first | exact fine_int | exact fine_str) k)
    refine step_no hσ (by omega) ?_
    by_cases h4 : i = 4
    · subst h4
      exact step_yes hσ rfl (raise_n (vs := [.int 5]) (fun F h => h) rfl (by decide) (by decide) (by intro v hv; simp only [List.mem_cons, List.not_mem_nil, or_false] at hv; rcases hv with rfl <;> first | exact fine_int | exact fine_str) k)
    refine step_no hσ (by omega) ?_
    by_cases h5 : i = 5
    · subst h5
      exact step_yes hσ rfl (raise_n (vs := [.int 9]) (fun F h => h) rfl (by decide) (by decide) (by intro v hv; simp only [List.mem_cons, List.not_mem_nil, or_false] at hv; rcases hv with rfl <;> first | exact fine_int | exact fine_str) k)
    refine step_no hσ (by omega) ?_
    by_cases h6 : i = 6
    · subst h6
      exact step_yes hσ rfl (raise_0 k)
    refine step_no hσ (by omega) ?_
    by_cases h7 : i = 7
    · subst h7
      exact step_yes hσ rfl (raise_n (vs := [.str "old"]) (fun F h => h) rfl (by decide) (by decide) (by intro v hv; simp only [List.mem_cons, List.not_mem_nil, or_false] at hv; rcases hv with rfl <;> first | exact fine_int | exact fine_str) k)
    refine step_no hσ (by omega) ?_
    by_cases h8 : i = 8
    · subst h8
      exact step_yes hσ rfl (raise_n (vs := [.int 0]) (fun F h => h) rfl (by decide) (by decide) (by intro v hv; simp only [List.mem_cons, List.not_mem_nil, or_false] at hv; rcases hv with rfl <;> first | exact fine_int | exact fine_str) k)
    refine step_no hσ (by omega) ?_
    by_cases h9 : i = 9
    · subst h9
      exact step_yes hσ rfl (raise_n (vs := [.str "twice"]) (fun F h => h) rfl (by decide) (by decide) (by intro v hv; simp only [List.mem_cons, List.not_mem_nil, or_false] at hv; rcases hv with rfl <;> first | exact fine_int | exact fine_str) k)
    refine step_no hσ (by omega) ?_
    by_cases h10 : i = 10
    · subst h10
      exact step_yes hσ rfl (raise_n (vs := [.int 1, .str "looks"]) (fun F h => h) rfl (by decide) (by decide) (by intro v hv; simp only [List.mem_cons, List.not_mem_nil, or_false] at hv; rcases hv with rfl | rfl <;> first | exact fine_int | exact fine_str) k)
    refine step_no hσ (by omega) ?_
    by_cases h11 : i = 11
    · subst h11
      exact step_yes hσ rfl (raise_0 k)
    refine step_no hσ (by omega) ?_
    exact ⟨_, hσ, i, by omega, hi, rfl, k⟩
end
end Ox

namespace Ox
open PySem PySem.Spec PyProof.Rows L2 Evl L2H
/-- evaluates to a list (new or not) -/
def EvR (te : TE) (σ : L2.St) (H : Hp) (xs : List V) : Prop := ∀ H1, Ex H H1 → ∀ Q : VK, (∀ p H2, Ex H1 H2 → H2 p = some (.lst xs) → Q (.ref p) H2) → te σ H1 Q
section
variable {K : PySem.W.Frag} {σ : L2.St} {H H' : Hp} {ta tb te tl : TE} {tt : TT} {xs ys : List V} {p : Addr}
theorem EvR.mono (h : EvR te σ H xs) (e : Ex H H') : EvR te σ H' xs := fun H1 a Q q => h H1 (e.trans a) Q q
theorem lr (h : EvL te σ H xs) : EvR te σ H xs := fun H1 e Q q => h H1 e Q fun p H2 _ e2 h2 => q p H2 e2 h2
theorem er_var {i : Nat} (h : σ[i]? = some (some (.ref p))) (hp : H p = some (.lst xs)) : EvR (tVar i) σ H xs := fun H1 e Q q => ⟨_, h, q p H1 (Ex.refl _) (e _ _ hp)⟩
theorem el_cat (ha : EvR ta σ H xs) (hb : EvR tb σ H ys) (hz : xs.length + ys.length ≤ 100000) : EvL (tOp rCat ta tb) σ H (xs ++ ys) := fun H1 e Q q =>
  ha H1 e _ fun l H2 e2 h2 => hb H2 (e.trans e2) _ fun b H3 e3 h3 => ⟨l, b, xs, ys, rfl, rfl, e3 _ _ h2, h3, sz_of hz, fun r hr => q r _ (fresh_back (e2.trans e3) hr) ((e2.trans e3).trans (Ex.new hr)) upd_same⟩
end
/-! ### how often a truth value stands in a list of such -/
def eqb (k : Bool) (v : Value) : Bool := match v with
  | .bool n => n == k
  | _ => false
theorem eqb_at {k : Bool} {A : Around} {s : Shared} : ∀ {us : List Value} {bs : List Bool}, Vals (bs.map V.bl) us → ∀ y ∈ us, SeqAt.EqAt A s y (.bool k) (eqb k y)
  | _, [], r => fun y hy => by cases r; cases hy
  | _, b :: bs, r => fun y hy => by
    cases r with
    | cons r1 r2 =>
      cases r1
      rcases List.mem_cons.mp hy with e | e
      · rw [e]
        exact SeqAt.EqAt.bool_bool b k
      · exact eqb_at r2 y e
theorem eqb_count {k : Bool} : ∀ {us : List Value} {bs : List Bool}, Vals (bs.map V.bl) us → us.countP (eqb k) = bs.count k
  | _, [], r => by cases r; rfl
  | _, b :: bs, r => by
    cases r with
    | cons r1 r2 =>
      cases r1
      have ih := eqb_count (k := k) r2
      rw [List.countP_cons, List.count_cons, ih] <;> rfl
def rCntB (K : PySem.W.Frag) : V → List V → Hp → VK → Prop := fun x xs H Q => ∃ (p : Addr) (ns : List Bool) (k : Bool), x = .ref p ∧ xs = [.bl k] ∧ SqL K H p (ns.map V.bl) ∧ Q (.int (ns.count k : Nat)) H
theorem mt_bcount {X : Cx} : MtR X "list.count" (rCntB X.K) := by
  intro pins s σ H x xs v us Q I rx rxs h
  obtain ⟨p, ns, k, rfl, rfl, hs, q⟩ := h
  cases rx
  obtain ⟨u, rfl, ru⟩ := rxs.one
  cases ru
  obtain ⟨its, rv, ⟨⟨cls, dd, data, sl⟩, n, ho, hc, hdn, hd⟩, hlen⟩ := I.list hs
  simp only at hc hd
  subst hc hd
  refine call_meets PySem.F.slot_list_count ⟨_, ho, rfl⟩ PySem.F.entry_list_count (PySem.F.args_list_count_2 _ _)
    (SeqAt.list_countAt p its.toArray n dd sl (.bool k) (eqb k)) ⟨ho, fun y hy => eqb_at rv y (by simpa using hy), ?_⟩
  have ec : its.toArray.toList.countP (eqb k) = ns.count k := eqb_count rv
  refine ⟨.int (ns.count k : Nat), H, I.tok _, ⟨s.toks, ?_⟩, q⟩
  rw [ec]
theorem ty_count : typeOf (.builtin "list.count") = pure (.type "method_descriptor") := by
  show builtinType _ = _
  rw [builtinType_eq_fast]
  kernel_rfl

/-! ### the marks of an error -/
def marksOf (f : Nat → Bool) : List Bool := (List.range 24).map f
def spMarks (K : PySem.W.Frag) (A : Nat → Addr) : SpE := fun a c d vs H Q _ => ∃ (f : Nat → Bool) (D : Addr), vs = [.ref a] ∧ c = .ref D ∧ ExcC K D ∧ (∀ j, j < 24 → PySem.W.kitOne K c (.ref (A j)) = some (f j)) ∧ (∀ dd, d = some dd → ∃ fs, H dd = some (.xd fs)) ∧
  ∀ H' l, Ex H H' → H l = none → H' l = some (.lst ((marksOf f).map V.bl)) → Q (.ref l) H'
theorem ev_isP {K : PySem.W.Frag} {A : Nat → Addr} {σ : L2.St} {H : Hp} {a : Addr} {c : Value} {d : Option Addr} {j : Nat} {b : Bool} (hσ : σ[0]? = some (some (.ref a))) (hk : PySem.W.kitOne K c (.ref (A j)) = some b) (hd : ∀ dd, d = some dd → ∃ fs, H dd = some (.xd fs)) :
    Ev (tCB (rIsP K a c d) (tCons (tVar 0) (tCons (tC (.ref (A j))) tNil))) σ H (.bl b) := fun H1 e Q q =>
  ⟨_, hσ, .ref (A j), .ref (A j), b, rfl, fun u r => r, hk, fun dd z => (hd dd z).imp fun fs hf => e _ _ hf, q H1 (Ex.refl H1)⟩
abbrev s_marks : Stmt := top 54
theorem sc_marks : FnScope ["e", "marks"] ["e"] (defScope s_marks) := ⟨rfl, rfl, rfl, by decide +kernel, rfl, by decide +kernel, by decide +kernel⟩
section
variable {w : World} {K : PySem.W.Frag} {mg : Str → Option Value} {base : Heap} {A : Nat → Addr}
theorem ok_marks {f : Addr} {fd : FuncData} (F : Fun K "_law_marks" "_law_marks" s_marks f fd) (T : AllC w K mg base A) (hI : mg "isinstance" = none) : FnE PP w K mg base CX0 1 f fd ["e"] (spMarks K A) := by
  refine fn_ofE F sc_marks (fun a c d vs H Q E h => ?_) (fun cdv B outer s H vs Q E p c d hot hh hr h => ?_)
  · obtain ⟨_, _, rfl, _⟩ := h
    rfl
  · obtain ⟨f, D, rfl, rfl, TE0, hk, hd, k⟩ := h
    refine ⟨_, pss_cons (ps_set (i := 1) sc_marks.nd rfl (Or.inl rfl) (pe_lst (pa_cons (pe_callB (call_isP (D := D) (p := p) (d := d) TE0 (List.mem_singleton_self p) hh) rfl hI PyProof.Rows.boot_isinstance (pa_cons (pv 0) (pa_cons (pe_glob (v := .ref (A 0)) rfl T.c0.g rfl) pa_nil))) (pa_cons (pe_callB (call_isP (D := D) (p := p) (d := d) TE0 (List.mem_singleton_self p) hh) rfl hI PyProof.Rows.boot_isinstance (pa_cons (pv 0) (pa_cons (pe_glob (v := .ref (A 1)) rfl T.c1.g rfl) pa_nil))) (pa_cons (pe_callB (call_isP (D := D) (p := p) (d := d) TE0 (List.mem_singleton_self p) hh) rfl hI PyProof.Rows.boot_isinstance (pa_cons (pv 0) (pa_cons (pe_glob (v := .ref (A 2)) rfl T.c2.g rfl) pa_nil))) pa_nil)))))
      (pss_cons (ps_set (i := 1) sc_marks.nd rfl (Or.inl rfl) (pe_op op_cat (pv 1) (pe_lst (pa_cons (pe_callB (call_isP (D := D) (p := p) (d := d) TE0 (List.mem_singleton_self p) hh) rfl hI PyProof.Rows.boot_isinstance (pa_cons (pv 0) (pa_cons (pe_glob (v := .ref (A 3)) rfl T.c3.g rfl) pa_nil))) (pa_cons (pe_callB (call_isP (D := D) (p := p) (d := d) TE0 (List.mem_singleton_self p) hh) rfl hI PyProof.Rows.boot_isinstance (pa_cons (pv 0) (pa_cons (pe_glob (v := .ref (A 4)) rfl T.c4.g rfl) pa_nil))) (pa_cons (pe_callB (call_isP (D := D) (p := p) (d := d) TE0 (List.mem_singleton_self p) hh) rfl hI PyProof.Rows.boot_isinstance (pa_cons (pv 0) (pa_cons (pe_glob (v := .ref (A 5)) rfl T.c5.g rfl) pa_nil))) pa_nil))))))
      (pss_cons (ps_set (i := 1) sc_marks.nd rfl (Or.inl rfl) (pe_op op_cat (pv 1) (pe_lst (pa_cons (pe_callB (call_isP (D := D) (p := p) (d := d) TE0 (List.mem_singleton_self p) hh) rfl hI PyProof.Rows.boot_isinstance (pa_cons (pv 0) (pa_cons (pe_glob (v := .ref (A 6)) rfl T.c6.g rfl) pa_nil))) (pa_cons (pe_callB (call_isP (D := D) (p := p) (d := d) TE0 (List.mem_singleton_self p) hh) rfl hI PyProof.Rows.boot_isinstance (pa_cons (pv 0) (pa_cons (pe_glob (v := .ref (A 7)) rfl T.c7.g rfl) pa_nil))) (pa_cons (pe_callB (call_isP (D := D) (p := p) (d := d) TE0 (List.mem_singleton_self p) hh) rfl hI PyProof.Rows.boot_isinstance (pa_cons (pv 0) (pa_cons (pe_glob (v := .ref (A 8)) rfl T.c8.g rfl) pa_nil))) pa_nil))))))
      (pss_cons (ps_set (i := 1) sc_marks.nd rfl (Or.inl rfl) (pe_op op_cat (pv 1) (pe_lst (pa_cons (pe_callB (call_isP (D := D) (p := p) (d := d) TE0 (List.mem_singleton_self p) hh) rfl hI PyProof.Rows.boot_isinstance (pa_cons (pv 0) (pa_cons (pe_glob (v := .ref (A 9)) rfl T.c9.g rfl) pa_nil))) (pa_cons (pe_callB (call_isP (D := D) (p := p) (d := d) TE0 (List.mem_singleton_self p) hh) rfl hI PyProof.Rows.boot_isinstance (pa_cons (pv 0) (pa_cons (pe_glob (v := .ref (A 10)) rfl T.c10.g rfl) pa_nil))) (pa_cons (pe_callB (call_isP (D := D) (p := p) (d := d) TE0 (List.mem_singleton_self p) hh) rfl hI PyProof.Rows.boot_isinstance (pa_cons (pv 0) (pa_cons (pe_glob (v := .ref (A 11)) rfl T.c11.g rfl) pa_nil))) pa_nil))))))
      (pss_cons (ps_set (i := 1) sc_marks.nd rfl (Or.inl rfl) (pe_op op_cat (pv 1) (pe_lst (pa_cons (pe_callB (call_isP (D := D) (p := p) (d := d) TE0 (List.mem_singleton_self p) hh) rfl hI PyProof.Rows.boot_isinstance (pa_cons (pv 0) (pa_cons (pe_glob (v := .ref (A 12)) rfl T.c12.g rfl) pa_nil))) (pa_cons (pe_callB (call_isP (D := D) (p := p) (d := d) TE0 (List.mem_singleton_self p) hh) rfl hI PyProof.Rows.boot_isinstance (pa_cons (pv 0) (pa_cons (pe_glob (v := .ref (A 13)) rfl T.c13.g rfl) pa_nil))) (pa_cons (pe_callB (call_isP (D := D) (p := p) (d := d) TE0 (List.mem_singleton_self p) hh) rfl hI PyProof.Rows.boot_isinstance (pa_cons (pv 0) (pa_cons (pe_glob (v := .ref (A 14)) rfl T.c14.g rfl) pa_nil))) pa_nil))))))
      (pss_cons (ps_set (i := 1) sc_marks.nd rfl (Or.inl rfl) (pe_op op_cat (pv 1) (pe_lst (pa_cons (pe_callB (call_isP (D := D) (p := p) (d := d) TE0 (List.mem_singleton_self p) hh) rfl hI PyProof.Rows.boot_isinstance (pa_cons (pv 0) (pa_cons (pe_glob (v := .ref (A 15)) rfl T.c15.g rfl) pa_nil))) (pa_cons (pe_callB (call_isP (D := D) (p := p) (d := d) TE0 (List.mem_singleton_self p) hh) rfl hI PyProof.Rows.boot_isinstance (pa_cons (pv 0) (pa_cons (pe_glob (v := .ref (A 16)) rfl T.c16.g rfl) pa_nil))) (pa_cons (pe_callB (call_isP (D := D) (p := p) (d := d) TE0 (List.mem_singleton_self p) hh) rfl hI PyProof.Rows.boot_isinstance (pa_cons (pv 0) (pa_cons (pe_glob (v := .ref (A 17)) rfl T.c17.g rfl) pa_nil))) pa_nil))))))
      (pss_cons (ps_set (i := 1) sc_marks.nd rfl (Or.inl rfl) (pe_op op_cat (pv 1) (pe_lst (pa_cons (pe_callB (call_isP (D := D) (p := p) (d := d) TE0 (List.mem_singleton_self p) hh) rfl hI PyProof.Rows.boot_isinstance (pa_cons (pv 0) (pa_cons (pe_glob (v := .ref (A 18)) rfl T.c18.g rfl) pa_nil))) (pa_cons (pe_callB (call_isP (D := D) (p := p) (d := d) TE0 (List.mem_singleton_self p) hh) rfl hI PyProof.Rows.boot_isinstance (pa_cons (pv 0) (pa_cons (pe_glob (v := .ref (A 19)) rfl T.c19.g rfl) pa_nil))) (pa_cons (pe_callB (call_isP (D := D) (p := p) (d := d) TE0 (List.mem_singleton_self p) hh) rfl hI PyProof.Rows.boot_isinstance (pa_cons (pv 0) (pa_cons (pe_glob (v := .ref (A 20)) rfl T.c20.g rfl) pa_nil))) pa_nil))))))
      (pss_cons (ps_set (i := 1) sc_marks.nd rfl (Or.inl rfl) (pe_op op_cat (pv 1) (pe_lst (pa_cons (pe_callB (call_isP (D := D) (p := p) (d := d) TE0 (List.mem_singleton_self p) hh) rfl hI PyProof.Rows.boot_isinstance (pa_cons (pv 0) (pa_cons (pe_glob (v := .ref (A 21)) rfl T.c21.g rfl) pa_nil))) (pa_cons (pe_callB (call_isP (D := D) (p := p) (d := d) TE0 (List.mem_singleton_self p) hh) rfl hI PyProof.Rows.boot_isinstance (pa_cons (pv 0) (pa_cons (pe_glob (v := .ref (A 22)) rfl T.c22.g rfl) pa_nil))) (pa_cons (pe_callB (call_isP (D := D) (p := p) (d := d) TE0 (List.mem_singleton_self p) hh) rfl hI PyProof.Rows.boot_isinstance (pa_cons (pv 0) (pa_cons (pe_glob (v := .ref (A 23)) rfl T.c23.g rfl) pa_nil))) pa_nil))))))
      (pss_one (ps_ret (pv 1)))))))))), ?_⟩
    have hs0 : (start ["e", "marks"] [V.ref p.1])[0]? = some (some (.ref p.1)) := rfl
    have hd0 := hd
    refine q_asgL (xs := [.bl (f 0), .bl (f 1), .bl (f 2)]) (el_lst (ea_cons (ev_isP (j := 0) hs0 (hk 0 (by decide)) hd0) (ea_cons (ev_isP (j := 1) hs0 (hk 1 (by decide)) hd0) (ea_cons (ev_isP (j := 2) hs0 (hk 2 (by decide)) hd0) ea_nil))) (by show 3 ≤ _; decide)) fun l1 H1 n1 e1 h1 => ?_
    have hd1 : ∀ dd, d = some dd → ∃ fs, H1 dd = some (.xd fs) := fun dd z => (hd0 dd z).imp fun fs hf => e1 _ _ hf
    have hs1 : (((start ["e", "marks"] [V.ref p.1]).set 1 (some (V.ref l1)))[0]?) = some (some (.ref p.1)) := rfl
    refine q_asgL (el_cat (er_var (p := l1) rfl h1) (lr (el_lst (vs := [.bl (f 3), .bl (f 4), .bl (f 5)]) (ea_cons (ev_isP (j := 3) hs1 (hk 3 (by decide)) hd1) (ea_cons (ev_isP (j := 4) hs1 (hk 4 (by decide)) hd1) (ea_cons (ev_isP (j := 5) hs1 (hk 5 (by decide)) hd1) ea_nil))) (by show 3 ≤ _; decide))) (by show 3 + 3 ≤ _; decide)) fun l2 H2 n2 e2 h2 => ?_
    have hd2 : ∀ dd, d = some dd → ∃ fs, H2 dd = some (.xd fs) := fun dd z => (hd1 dd z).imp fun fs hf => e2 _ _ hf
    have hs2 : (((start ["e", "marks"] [V.ref p.1]).set 1 (some (V.ref l2)))[0]?) = some (some (.ref p.1)) := rfl
    refine q_asgL (el_cat (er_var (p := l2) rfl h2) (lr (el_lst (vs := [.bl (f 6), .bl (f 7), .bl (f 8)]) (ea_cons (ev_isP (j := 6) hs2 (hk 6 (by decide)) hd2) (ea_cons (ev_isP (j := 7) hs2 (hk 7 (by decide)) hd2) (ea_cons (ev_isP (j := 8) hs2 (hk 8 (by decide)) hd2) ea_nil))) (by show 3 ≤ _; decide))) (by show 6 + 3 ≤ _; decide)) fun l3 H3 n3 e3 h3 => ?_
    have hd3 : ∀ dd, d = some dd → ∃ fs, H3 dd = some (.xd fs) := fun dd z => (hd2 dd z).imp fun fs hf => e3 _ _ hf
    have hs3 : (((start ["e", "marks"] [V.ref p.1]).set 1 (some (V.ref l3)))[0]?) = some (some (.ref p.1)) := rfl
    refine q_asgL (el_cat (er_var (p := l3) rfl h3) (lr (el_lst (vs := [.bl (f 9), .bl (f 10), .bl (f 11)]) (ea_cons (ev_isP (j := 9) hs3 (hk 9 (by decide)) hd3) (ea_cons (ev_isP (j := 10) hs3 (hk 10 (by decide)) hd3) (ea_cons (ev_isP (j := 11) hs3 (hk 11 (by decide)) hd3) ea_nil))) (by show 3 ≤ _; decide))) (by show 9 + 3 ≤ _; decide)) fun l4 H4 n4 e4 h4 => ?_
    have hd4 : ∀ dd, d = some dd → ∃ fs, H4 dd = some (.xd fs) := fun dd z => (hd3 dd z).imp fun fs hf => e4 _ _ hf
    have hs4 : (((start ["e", "marks"] [V.ref p.1]).set 1 (some (V.ref l4)))[0]?) = some (some (.ref p.1)) := rfl
    refine q_asgL (el_cat (er_var (p := l4) rfl h4) (lr (el_lst (vs := [.bl (f 12), .bl (f 13), .bl (f 14)]) (ea_cons (ev_isP (j := 12) hs4 (hk 12 (by decide)) hd4) (ea_cons (ev_isP (j := 13) hs4 (hk 13 (by decide)) hd4) (ea_cons (ev_isP (j := 14) hs4 (hk 14 (by decide)) hd4) ea_nil))) (by show 3 ≤ _; decide))) (by show 12 + 3 ≤ _; decide)) fun l5 H5 n5 e5 h5 => ?_
    have hd5 : ∀ dd, d = some dd → ∃ fs, H5 dd = some (.xd fs) := fun dd z => (hd4 dd z).imp fun fs hf => e5 _ _ hf
    have hs5 : (((start ["e", "marks"] [V.ref p.1]).set 1 (some (V.ref l5)))[0]?) = some (some (.ref p.1)) := rfl
    refine q_asgL (el_cat (er_var (p := l5) rfl h5) (lr (el_lst (vs := [.bl (f 15), .bl (f 16), .bl (f 17)]) (ea_cons (ev_isP (j := 15) hs5 (hk 15 (by decide)) hd5) (ea_cons (ev_isP (j := 16) hs5 (hk 16 (by decide)) hd5) (ea_cons (ev_isP (j := 17) hs5 (hk 17 (by decide)) hd5) ea_nil))) (by show 3 ≤ _; decide))) (by show 15 + 3 ≤ _; decide)) fun l6 H6 n6 e6 h6 => ?_
    have hd6 : ∀ dd, d = some dd → ∃ fs, H6 dd = some (.xd fs) := fun dd z => (hd5 dd z).imp fun fs hf => e6 _ _ hf
    have hs6 : (((start ["e", "marks"] [V.ref p.1]).set 1 (some (V.ref l6)))[0]?) = some (some (.ref p.1)) := rfl
    refine q_asgL (el_cat (er_var (p := l6) rfl h6) (lr (el_lst (vs := [.bl (f 18), .bl (f 19), .bl (f 20)]) (ea_cons (ev_isP (j := 18) hs6 (hk 18 (by decide)) hd6) (ea_cons (ev_isP (j := 19) hs6 (hk 19 (by decide)) hd6) (ea_cons (ev_isP (j := 20) hs6 (hk 20 (by decide)) hd6) ea_nil))) (by show 3 ≤ _; decide))) (by show 18 + 3 ≤ _; decide)) fun l7 H7 n7 e7 h7 => ?_
    have hd7 : ∀ dd, d = some dd → ∃ fs, H7 dd = some (.xd fs) := fun dd z => (hd6 dd z).imp fun fs hf => e7 _ _ hf
    have hs7 : (((start ["e", "marks"] [V.ref p.1]).set 1 (some (V.ref l7)))[0]?) = some (some (.ref p.1)) := rfl
    refine q_asgL (el_cat (er_var (p := l7) rfl h7) (lr (el_lst (vs := [.bl (f 21), .bl (f 22), .bl (f 23)]) (ea_cons (ev_isP (j := 21) hs7 (hk 21 (by decide)) hd7) (ea_cons (ev_isP (j := 22) hs7 (hk 22 (by decide)) hd7) (ea_cons (ev_isP (j := 23) hs7 (hk 23 (by decide)) hd7) ea_nil))) (by show 3 ≤ _; decide))) (by show 21 + 3 ≤ _; decide)) fun l8 H8 n8 e8 h8 => ?_
    have ez : Ex H H7 := ((((((e1.trans e2).trans e3).trans e4).trans e5).trans e6).trans e7)
    refine ⟨_, rfl, k H8 l8 (ez.trans e8) (fresh_back ez n8) ?_⟩
    rw [h8]
    rfl
end
end Ox

namespace Ox
open PySem PySem.Spec PyProof.Rows L2 Evl L2H
/-- which class is below which -/
structure KitC (K : PySem.W.Frag) (mg : Str → Option Value) (A : Nat → Addr) (HE : Addr) : Prop where
  g : mg "HoldError" = some (.ref HE)
  ex : ∀ i, i < 24 → ExcC K (A i)
  exm : ∀ i, i < 24 → PySem.W.exmOne K (.ref (A i)) (.ref HE) = some true
  kit : ∀ i j, i < 24 → j < 24 → PySem.W.kitOne K (.ref (A i)) (.ref (A j)) = some (decide (j = i))
  kve : ∀ i, i < 24 → PySem.W.kitOne K (.ref (A i)) (.type "ValueError") = some true
  exH : ExcC K HE
  exmH : PySem.W.exmOne K (.ref HE) (.ref HE) = some true
  kitH : ∀ j, j < 24 → PySem.W.kitOne K (.ref HE) (.ref (A j)) = some false
  ve : mg "ValueError" = none
  ist : mg "isinstance" = none
  len : mg "len" = none
theorem exx_ex {H H' : Hp} {d : Option Addr} (h : ExX H d H') : Ex H H' := by
  rcases h with ⟨_, rfl⟩ | ⟨a, fs, _, hn, rfl⟩
  · exact Ex.refl _
  · exact Ex.new hn
theorem exx_at {H H' : Hp} {d : Option Addr} (h : ExX H d H') : ∀ dd, d = some dd → ∃ fs, H' dd = some (.xd fs) := by
  rcases h with ⟨rfl, rfl⟩ | ⟨a, fs, rfl, hn, rfl⟩
  · exact fun _ z => nomatch z
  · intro dd z
    cases z
    exact ⟨fs, upd_same⟩
/-- isinstance of the held error, its class not told yet -/
def rIsQ (K : PySem.W.Frag) (a : Addr) (c : Value) (d : Option Addr) : List V → Hp → VK → Prop := fun xs H Q => ∃ D, c = .ref D ∧ ExcC K D ∧ rIsP K a c d xs H Q
theorem call_isQ {X : Cx} {p : Addr × Obj} {c : Value} {d : Option Addr} (hp : p ∈ X.pn) (hh : Held p c d) : CallR X (.builtin "isinstance") (rIsQ X.K p.1 c d) := by
  intro pins s σ H xs us Q I r ⟨D, e, T, h⟩
  subst e
  exact call_isP T hp hh pins s σ H xs us Q I r h
theorem takesN0 {X : Cx} : L2N.Takes X (fun _ _ _ _ => False) := fun _ _ x => by
  obtain ⟨_, _, _, _, _, _, _, _, _, _, _, _, _, _, _, _, z⟩ := x
  exact z.elim
theorem held_of {a : Addr} {oe : Obj} {c : Value} {d : Option Addr} (hz : L2N.Zn c d oe) (hf : ∃ vs, oe.data = .fields vs) : Held (a, oe) c d := ⟨hz, hf⟩
theorem hot_of {B : Around} {a : Addr} {oe : Obj} {c : Value} {d : Option Addr} (hz : L2N.Zn c d oe) (hf : ∃ vs, oe.data = .fields vs) : Hot1 (B.mark (some (.ref a))) (a, oe) := by
  obtain ⟨vs, hv⟩ := hf
  exact ⟨rfl, vs, hv, hz.2.2 vs hv⟩
theorem boot_VE : bootBuiltins "ValueError" = some (.type "ValueError") := by first | decide +kernel | kernel_rfl
theorem roomH_mark {k : Nat} {B : Around} {v : Option Value} (h : Room k B) : RoomH k (B.mark v) := ⟨h.dp, h.un⟩
theorem q_parLC {i j : Nat} {ta : TE} {v : V} {xs : List V} {rest : TS} {D : Ends} {σ : L2.St} {H : Hp} (h : EvL ta σ H xs) (k : ∀ p H1, H p = none → Ex H H1 → H1 p = some (.lst xs) → rest D ((σ.set i (some (.ref p))).set j (some v)) H1) :
    tSeq (tPar i j (tCons ta (tCons (tC v) tNil))) rest D σ H := h H (Ex.refl H) _ fun p H1 hp e h1 => ⟨_, _, rfl, k p H1 hp e h1⟩
/-! ### one way -/
abbrev s_way : Stmt := top 55
def spWay : Sp := fun vs H Q _ => ∃ i : Nat, i < 24 ∧ vs = [.int (i : Int), .int 24] ∧ ∀ H', Ex H H' → Q (.bl true) H'
theorem sc_way : FnScope ["way", "many", "marks", "under", "e"] ["way", "many"] (defScope s_way) := ⟨rfl, rfl, rfl, by decide +kernel, rfl, by decide +kernel, by decide +kernel⟩
section
variable {w : World} {K : PySem.W.Frag} {mg : Str → Option Value} {base : Heap} {A : Nat → Addr} {HE : Addr}
theorem ok_way {f fo fm : Addr} {fd fdo fdm : FuncData} (F : Fun K "_law_way_right" "_law_way_right" s_way f fd) (T : KitC K mg A HE)
    (FO : FnOk PP w K mg base (L2N.CX PP w) 2 fo fdo ["way"] (spOne A 0)) (gO : mg "_law_raised_one" = some (.ref fo)) (kO : PySem.W.keepIn K (.ref fo) = true) (bO : Binds K fdo ["way"] [])
    (FM : FnE PP w K mg base CX0 1 fm fdm ["e"] (spMarks K A)) (gM : mg "_law_marks" = some (.ref fm)) (kM : PySem.W.keepIn K (.ref fm) = true) (bM : Binds K fdm ["e"] []) : FnOk PP w K mg base CX0 3 f fd ["way", "many"] spWay := by
  refine F.ok sc_way (fun vs H Q E h => ?_) (fun cdv B outer s H vs Q E hr h => ?_)
  · obtain ⟨_, _, rfl, _⟩ := h
    rfl
  · obtain ⟨i, hi, rfl, k⟩ := h
    refine ⟨_, pss_cons (ps_par (i := 2) (j := 3) rfl sc_way.nd rfl rfl (by decide) rfl rfl (pa_cons (pe_lst pa_nil) (pa_cons pe_bl pa_nil)) rfl)
      (pss_cons (L2N.ps_try_as (i := 4) (c := .ref HE) (Wout := fun _ _ _ _ => False) (ts := fun a c d => tSeq (tAsg (tCallE (spMarks K A) a c d E0 (tCons (tVar 4) tNil)) (gName 2)) (tAsg (tCB (rIsQ K a c d) (tCons (tVar 4) (tCons (tC (.ty "ValueError")) tNil))) (gName 3)))
          (tb := fun W => tDrop (tCallS (spOne A 0) (WE W) (tCons (tVar 0) tNil))) rfl rfl sc_way.nd rfl rfl ⟨rfl, by decide, .inl T.g⟩ takesN0
          (fun W pn xe tk _ => pss_one (ps_expr (pe_callS FO hr rfl gO kO bO (L2N.passAt tk) (pa_cons (pv 0) pa_nil))))
          (fun a oe c d pn hz hf => pss_cons (ps_set (i := 2) sc_way.nd rfl (Or.inl rfl) (pe_callE FM (roomH_mark (hr.mono (by decide))) (hot_of hz hf) List.mem_cons_self (held_of hz hf) rfl gM kM bM pass0 (pa_cons (pv 4) pa_nil)))
            (pss_one (ps_set (i := 3) sc_way.nd rfl (Or.inl rfl) (pe_callB (call_isQ (p := (a, oe)) List.mem_cons_self (held_of hz hf)) rfl T.ist PyProof.Rows.boot_isinstance (pa_cons (pv 4) (pa_cons (pe_bltn (v := .ty "ValueError") (u := .type "ValueError") rfl T.ve boot_VE rfl) pa_nil)))))))
      (pss_one (ps_ret (pe_and (pv 3) (pe_and (pe_cmpR op_eq (pe_bm PySem.F.plainAttrs_list PySem.F.slot_list_count ty_count mt_bcount (pv 2) (pa_cons pe_bl pa_nil)) pe_int (nomark _))
        (pe_and (pe_cmpR op_eq (pe_callB call_len rfl T.len boot_len (pa_cons (pv 2) pa_nil)) (pv 1) (nomark _)) (pe_one (pe_ix ix_list (pv 2) (pv 0) (fun _ _ => rfl))))))))), ?_⟩
    have par : EvL (tLst tNil) (start ["way", "many", "marks", "under", "e"] [.int (i : Int), .int 24]) H [] := el_lst ea_nil (by decide)
    refine q_parLC par fun p H1 np e1 hp => ?_
    refine ⟨_, rfl, i, Nat.zero_le _, hi, rfl, fun d H2 hx => ⟨true, T.exm i hi, fun _ a na => ?_, fun z => nomatch z⟩⟩
    have e2 : Ex H1 H2 := exx_ex hx
    have hd := exx_at hx
    have mk : EvL (tCallE (spMarks K A) a (.ref (A i)) d E0 (tCons (tVar 4) tNil)) [some (.int (i : Int)), some (.int 24), some (.ref p), some (.bl false), some (.ref a)] H2 ((marksOf fun j => decide (j = i)).map V.bl) := fun H3 e3 Q q =>
      ⟨_, rfl, fun j => decide (j = i), A i, rfl, rfl, T.ex i hi, fun j hj => T.kit i j hi hj, fun dd z => (hd dd z).imp fun fs hf => e3 _ _ hf, fun H' l e n h => q l H' n e h⟩
    refine q_asgL mk fun l H3 n3 e3 h3 => ?_
    have iv : Ev (tCB (rIsQ K a (.ref (A i)) d) (tCons (tVar 4) (tCons (tC (.ty "ValueError")) tNil))) [some (.int (i : Int)), some (.int 24), some (.ref l), some (.bl false), some (.ref a)] H3 (.bl true) := fun H4 e4 Q q =>
      ⟨_, rfl, A i, rfl, T.ex i hi, .ty "ValueError", .type "ValueError", true, rfl, fun u r => r, T.kve i hi, fun dd z => (hd dd z).imp fun fs hf => e4 _ _ (e3 _ _ hf), q H4 (Ex.refl _)⟩
    refine s_asg iv fun H4 e4 => ?_
    have h4 := e4 _ _ h3
    have hs := sq_of (K := K) h4
    have c1 : (marksOf fun j => decide (j = i)).count true = 1 := by
      have key : ∀ k, k < 24 → ((List.range 24).map fun j => decide (j = k)).count true = 1 := by decide
      exact key i hi
    refine s_ret (v := .bl true) (ev_is (ev_andV (a := true) (ev_var rfl) fun _ => ev_andV (a := true) (b := true) (ev_is (ev_op (x := .int 1) ?_ ev_c (rv_eq rfl)) (by decide)) fun _ => ev_andV (a := true) (b := true) (ev_is (ev_op (x := .int 24) ?_ (ev_var rfl) (rv_eq rfl)) (by decide)) fun _ => ?_) rfl) fun H5 e5 => k H5 ((((e1.trans e2).trans e3).trans e4).trans e5)
    · exact fun H5 e5 Q q => ⟨_, rfl, .inl ⟨rfl, _, sq_of (e5 _ _ h4)⟩, l, marksOf fun j => decide (j = i), true, rfl, rfl, sq_of (e5 _ _ h4), by rw [c1]; exact q H5 (Ex.refl _)⟩
    · exact fun H5 e5 Q q => ⟨_, rfl, _, 24, rfl, .inl ⟨_, sq_of (e5 _ _ h4), by simp [marksOf]⟩, q H5 (Ex.refl _)⟩
    · refine ev_op (ev_var rfl) (ev_var rfl) (rv_ixL hs ?_)
      have key : ∀ k, k < 24 → atI (((List.range 24).map fun j => decide (j = k)).map V.bl) (k : Int) = some (.bl true) := by decide
      exact key i hi
end
end Ox

namespace Ox
open PySem PySem.Spec PyProof.Rows L2 Evl
theorem kwb1 {fd : FuncData} {ps : List Str} (W : KwOk fd ps) : KwB fd ps ps (fun l => l) := ⟨fun s x ws hl => W.one s x ws hl, fun r _ => r⟩
theorem kwb2 {fd : FuncData} {p q : Str} (W : KwOk fd [p, q]) : KwB fd [p, q] [q, p] (fun l => l.reverse) := ⟨fun s x ws hl => match ws, hl with | [b, a], _ => W.two s x p q a b rfl, fun r hl => by
  cases r with
  | nil => cases hl
  | cons r1 r2 =>
    cases r2 with
    | nil => cases hl
    | cons r3 r4 =>
      cases r4 with
      | nil => exact .cons r3 (.cons r1 .nil)
      | cons _ _ => cases hl⟩
/-- an error as a value, with its fields -/
structure Obx (H : Hp) (a d C : Addr) (fs : List (Str × V)) : Prop where
  o : H a = some (exo a C (some d))
  d : H d = some (exd d fs)
theorem Obx.ex {H H' : Hp} {a d C : Addr} {fs : List (Str × V)} (x : Obx H a d C fs) (e : Ex H H') : Obx H' a d C fs := ⟨e _ _ x.o, e _ _ x.d⟩
def EvX (te : TE) (σ : L2.St) (H : Hp) (C : Addr) (fs : List (Str × V)) : Prop := ∀ H1, Ex H H1 → ∀ Q : VK, (∀ a d H2, Ex H1 H2 → Obx H2 a d C fs → Q (.ref a) H2) → te σ H1 Q
section
variable {σ : L2.St} {H : Hp} {C a d : Addr} {ps : List Str} {f : Str} {ta : TA} {te : TE} {vs : List V} {v : V} {fs : List (Str × V)} {pm : {α : Type} → List α → List α} {n i j l : Nat} {tz : TS} {D : Ends} {K : PySem.W.Frag}
theorem new2 {H2 : Hp} {e d : Addr} {o u : HO} (nd : H2 d = none) (ne : H2 e = none) (z : d ≠ e) : Ex H2 (upd (upd H2 d o) e u) := (Ex.new nd).trans (Ex.new (by rw [upd_ne (Ne.symm z)]; exact ne))
theorem obx_new {H2 : Hp} {e d : Addr} {fs : List (Str × V)} (z : d ≠ e) : Obx (upd (upd H2 d (exd d fs)) e (exo e C (some d))) e d C fs := ⟨upd_same, by rw [upd_ne z]; exact upd_same⟩
theorem eo_val (ha : EvA ta σ H vs) (hl : vs.length = ps.length) (hz : vs.length ≤ 1000) (hps : ps ≠ []) (hf : ∀ v ∈ vs, FineV v) : EvX (tVal C ps ta) σ H C (ps.zip vs).reverse := fun H1 e Q q =>
  ha H1 e _ fun H2 e2 => ⟨hl, hz, hps, hf, fun x dx nd ne z => q x dx _ (e2.trans (new2 nd ne z)) (obx_new z)⟩
theorem eo_valK (ha : EvA ta σ H vs) (hn : vs.length = n) (hl : (pm vs).length = ps.length) (hz : (pm vs).length ≤ 1000) (hps : ps ≠ []) (hf : ∀ v ∈ pm vs, FineV v) : EvX (tValK C ps pm n ta) σ H C (ps.zip (pm vs)).reverse := fun H1 e Q q =>
  ha H1 e _ fun H2 e2 => ⟨hn, hl, hz, hps, hf, fun x dx nd ne z => q x dx _ (e2.trans (new2 nd ne z)) (obx_new z)⟩
theorem ev_xo (h : EvX te σ H C fs) (hv : fs.lookup f = some v) : Ev (tXo C f te) σ H v := fun H1 e Q q => h H1 e _ fun x dx H2 e2 ob => ⟨x, dx, fs, v, rfl, ob.o, ob.d, hv, q H2 e2⟩
theorem ev_val (ha : EvA ta σ H vs) (hl : vs.length = ps.length) (hz : vs.length ≤ 1000) (hps : ps ≠ []) (hf : ∀ v ∈ vs, FineV v) (hv : (ps.zip vs).reverse.lookup f = some v) : Ev (tXo C f (tVal C ps ta)) σ H v := ev_xo (eo_val ha hl hz hps hf) hv
theorem ev_valK (ha : EvA ta σ H vs) (hn : vs.length = n) (hl : (pm vs).length = ps.length) (hz : (pm vs).length ≤ 1000) (hps : ps ≠ []) (hf : ∀ v ∈ pm vs, FineV v) (hv : (ps.zip (pm vs)).reverse.lookup f = some v) : Ev (tXo C f (tValK C ps pm n ta)) σ H v :=
  ev_xo (eo_valK ha hn hl hz hps hf) hv
theorem ev_xoV (h : σ[i]? = some (some (.ref a))) (ob : Obx H a d C fs) (hv : fs.lookup f = some v) : Ev (tXo C f (tVar i)) σ H v := fun H1 e Q q => ⟨_, h, a, d, fs, v, rfl, (ob.ex e).o, (ob.ex e).d, hv, q H1 (Ex.refl _)⟩
theorem q_asgO (h : EvX te σ H C fs) (k : ∀ a d H1, Ex H H1 → Obx H1 a d C fs → tz D (σ.set i (some (.ref a))) H1) : tSeq (tAsg te (gName i)) tz D σ H := h H (Ex.refl _) _ fun a d H1 e ob => k a d H1 e ob
theorem q_par3O {t1 t2 t3 : TE} {C1 C2 C3 : Addr} {f1 f2 f3 : List (Str × V)} (h1 : EvX t1 σ H C1 f1) (h2 : EvX t2 σ H C2 f2) (h3 : EvX t3 σ H C3 f3)
    (k : ∀ a1 d1 a2 d2 a3 d3 H1, Ex H H1 → Obx H1 a1 d1 C1 f1 → Obx H1 a2 d2 C2 f2 → Obx H1 a3 d3 C3 f3 → tz D (((σ.set i (some (.ref a1))).set j (some (.ref a2))).set l (some (.ref a3))) H1) :
    tSeq (tPar3 i j l (tCons t1 (tCons t2 (tCons t3 tNil)))) tz D σ H := h1 H (Ex.refl _) _ fun a1 d1 H1 e1 o1 => h2 H1 e1 _ fun a2 d2 H2 e2 o2 => h3 H2 (e1.trans e2) _ fun a3 d3 H3 e3 o3 =>
  ⟨_, _, _, rfl, k a1 d1 a2 d2 a3 d3 H3 ((e1.trans e2).trans e3) (o1.ex (e2.trans e3)) (o2.ex e3) o3⟩
def toD : V → PyData
  | .int i => .int i
  | .str s => .str s
  | _ => .none
def scD : V → Bool
  | .int _ => true
  | .str _ => true
  | _ => false
theorem dp_all : ∀ {xs : List V}, xs.all scD = true → DpAll K H xs (xs.map toD)
  | [], _ => .nil
  | x :: xs, h => by
    have h2 : scD x = true ∧ xs.all scD = true := by simpa using h
    refine .cons ?_ (dp_all h2.2)
    cases x with
    | int i => exact .int i
    | str s => exact .str s
    | _ => cases h2.1
theorem rv_eqS {p q : Addr} {xs ys : List V} {b : Bool} (h1 : SqL K H p xs) (h2 : SqL K H q ys) (hx : xs.all scD = true) (hy : ys.all scD = true) (hs : (SeqAt.shaped (.list (xs.map toD)) && SeqAt.shaped (.list (ys.map toD)) && (PyData.eqv (.list (xs.map toD)) (.list (ys.map toD)) == b)) = true) :
    RV (rEqD K) (.ref p) (.ref q) H (.bl b) := fun H1 e Q z => by
  simp only [Bool.and_eq_true, beq_iff_eq] at hs
  obtain ⟨⟨s1, s2⟩, s3⟩ := hs
  exact ⟨_, _, .lst (ex_l e h1) (dp_all hx), .lst (ex_l e h2) (dp_all hy), s1, s2, by rw [s3]; exact z H1 (Ex.refl _)⟩
end
theorem lt_units {k : Nat} {B : Around} (r : Room k B) : B.units + 64 < cLine := by have := r.un; omega
abbrev s_fields : Stmt := top 57
def spTrue : Sp := fun vs H Q _ => vs = [] ∧ ∀ H', Ex H H' → Q (.bl true) H'
theorem sc_fields : FnScope ["kept", "due", "first", "second", "third", "fourth"] [] (defScope s_fields) := ⟨rfl, rfl, rfl, by decide +kernel, rfl, by decide +kernel, by decide +kernel⟩
section
variable {w : World} {K : PySem.W.Frag} {mg : Str → Option Value} {base : Heap} {A : Nat → Addr}
theorem ok_fields {f : Addr} {fd : FuncData} (F : Fun K "_law_fields_right" "_law_fields_right" s_fields f fd) (T : AllC w K mg base A) : FnOk PP w K mg base CX0 1 f fd [] spTrue := by
  refine F.ok sc_fields (fun vs H Q E h => ?_) (fun cdv B outer s H vs Q E hr h => ?_)
  · obtain ⟨rfl, _⟩ := h
    rfl
  · obtain ⟨rfl, k⟩ := h
    obtain ⟨fI1, fd1, I1, W1⟩ := T.c1.made
    obtain ⟨fI2, fd2, I2, W2⟩ := T.c2.made
    obtain ⟨fI3, fd3, I3, W3⟩ := T.c3.made
    obtain ⟨fI4, fd4, I4, W4⟩ := T.c4.made
    obtain ⟨fI5, fd5, I5, W5⟩ := T.c5.made
    obtain ⟨fI7, fd7, I7, W7⟩ := T.c7.made
    obtain ⟨fI8, fd8, I8, W8⟩ := T.c8.made
    obtain ⟨fI9, fd9, I9, W9⟩ := T.c9.made
    obtain ⟨fI10, fd10, I10, W10⟩ := T.c10.made
    obtain ⟨fI12, fd12, I12, W12⟩ := T.c12.made
    obtain ⟨fI13, fd13, I13, W13⟩ := T.c13.made
    obtain ⟨fI14, fd14, I14, W14⟩ := T.c14.made
    obtain ⟨fI15, fd15, I15, W15⟩ := T.c15.made
    obtain ⟨fI16, fd16, I16, W16⟩ := T.c16.made
    obtain ⟨fI17, fd17, I17, W17⟩ := T.c17.made
    obtain ⟨fI18, fd18, I18, W18⟩ := T.c18.made
    obtain ⟨fI20, fd20, I20, W20⟩ := T.c20.made
    obtain ⟨fI23, fd23, I23, W23⟩ := T.c23.made
    refine ⟨_, pss_cons (ps_set (i := 0) sc_fields.nd rfl (Or.inl rfl) (pe_lst (pa_cons (pe_xo T.c12.xf (T.c12.no "index" (by simp)) (pe_val I12 hr rfl T.c12.g (pa_cons pe_int pa_nil))) (pa_cons (pe_xo T.c12.xf (T.c12.no "index" (by simp)) (pe_valK I12 (kwb1 W12) hr rfl T.c12.g (pk_cons pe_int pk_nil))) (pa_cons (pe_xo T.c13.xf (T.c13.no "line" (by simp)) (pe_val I13 hr rfl T.c13.g (pa_cons pe_int pa_nil))) (pa_cons (pe_xo T.c13.xf (T.c13.no "line" (by simp)) (pe_valK I13 (kwb1 W13) hr rfl T.c13.g (pk_cons pe_int pk_nil))) pa_nil))))))
      (pss_cons (ps_set (i := 0) sc_fields.nd rfl (Or.inl rfl) (pe_op op_cat (pv 0) (pe_lst (pa_cons (pe_xo T.c8.xf (T.c8.no "index" (by simp)) (pe_val I8 hr rfl T.c8.g (pa_cons pe_int pa_nil))) (pa_cons (pe_xo T.c8.xf (T.c8.no "index" (by simp)) (pe_valK I8 (kwb1 W8) hr rfl T.c8.g (pk_cons pe_int pk_nil))) (pa_cons (pe_xo T.c7.xf (T.c7.no "world" (by simp)) (pe_val I7 hr rfl T.c7.g (pa_cons pe_str pa_nil))) (pa_cons (pe_xo T.c7.xf (T.c7.no "world" (by simp)) (pe_valK I7 (kwb1 W7) hr rfl T.c7.g (pk_cons pe_str pk_nil))) pa_nil)))))))
      (pss_cons (ps_set (i := 0) sc_fields.nd rfl (Or.inl rfl) (pe_op op_cat (pv 0) (pe_lst (pa_cons (pe_xo T.c18.xf (T.c18.no "seat" (by simp)) (pe_val I18 hr rfl T.c18.g (pa_cons pe_int pa_nil))) (pa_cons (pe_xo T.c18.xf (T.c18.no "seat" (by simp)) (pe_valK I18 (kwb1 W18) hr rfl T.c18.g (pk_cons pe_int pk_nil))) (pa_cons (pe_xo T.c16.xf (T.c16.no "page" (by simp)) (pe_val I16 hr rfl T.c16.g (pa_cons pe_int pa_nil))) (pa_cons (pe_xo T.c16.xf (T.c16.no "page" (by simp)) (pe_valK I16 (kwb1 W16) hr rfl T.c16.g (pk_cons pe_int pk_nil))) (pa_cons (pe_xo T.c17.xf (T.c17.no "name" (by simp)) (pe_val I17 hr rfl T.c17.g (pa_cons pe_str pa_nil))) pa_nil))))))))
      (pss_cons (ps_set (i := 0) sc_fields.nd rfl (Or.inl rfl) (pe_op op_cat (pv 0) (pe_lst (pa_cons (pe_xo T.c17.xf (T.c17.no "name" (by simp)) (pe_valK I17 (kwb1 W17) hr rfl T.c17.g (pk_cons pe_str pk_nil))) (pa_cons (pe_xo T.c20.xf (T.c20.no "seat" (by simp)) (pe_val I20 hr rfl T.c20.g (pa_cons pe_int pa_nil))) (pa_cons (pe_xo T.c20.xf (T.c20.no "seat" (by simp)) (pe_valK I20 (kwb1 W20) hr rfl T.c20.g (pk_cons pe_int pk_nil))) (pa_cons (pe_xo T.c15.xf (T.c15.no "letter" (by simp)) (pe_val I15 hr rfl T.c15.g (pa_cons pe_int pa_nil))) pa_nil)))))))
      (pss_cons (ps_set (i := 0) sc_fields.nd rfl (Or.inl rfl) (pe_op op_cat (pv 0) (pe_lst (pa_cons (pe_xo T.c15.xf (T.c15.no "letter" (by simp)) (pe_valK I15 (kwb1 W15) hr rfl T.c15.g (pk_cons pe_int pk_nil))) (pa_cons (pe_xo T.c14.xf (T.c14.no "letter" (by simp)) (pe_val I14 hr rfl T.c14.g (pa_cons pe_int pa_nil))) (pa_cons (pe_xo T.c14.xf (T.c14.no "letter" (by simp)) (pe_valK I14 (kwb1 W14) hr rfl T.c14.g (pk_cons pe_int pk_nil))) (pa_cons (pe_xo T.c2.xf (T.c2.no "length" (by simp)) (pe_val I2 hr rfl T.c2.g (pa_cons pe_int pa_nil))) pa_nil)))))))
      (pss_cons (ps_set (i := 0) sc_fields.nd rfl (Or.inl rfl) (pe_op op_cat (pv 0) (pe_lst (pa_cons (pe_xo T.c2.xf (T.c2.no "length" (by simp)) (pe_valK I2 (kwb1 W2) hr rfl T.c2.g (pk_cons (pe_un un_neg pe_int) pk_nil))) (pa_cons (pe_xo T.c1.xf (T.c1.no "index" (by simp)) (pe_val I1 hr rfl T.c1.g (pa_cons pe_int pa_nil))) (pa_cons (pe_xo T.c1.xf (T.c1.no "index" (by simp)) (pe_valK I1 (kwb1 W1) hr rfl T.c1.g (pk_cons pe_int pk_nil))) pa_nil))))))
      (pss_cons (ps_set (i := 0) sc_fields.nd rfl (Or.inl rfl) (pe_op op_cat (pv 0) (pe_lst (pa_cons (pe_xo T.c23.xf (T.c23.no "wrong" (by simp)) (pe_val I23 hr rfl T.c23.g (pa_cons pe_str pa_nil))) pa_nil))))
      (pss_cons (ps_set (i := 0) sc_fields.nd rfl (Or.inl rfl) (pe_op op_cat (pv 0) (pe_lst (pa_cons (pe_xo T.c23.xf (T.c23.no "wrong" (by simp)) (pe_valK I23 (kwb1 W23) hr rfl T.c23.g (pk_cons pe_str pk_nil))) (pa_cons (pe_xo T.c5.xf (T.c5.no "pages" (by simp)) (pe_val I5 hr rfl T.c5.g (pa_cons pe_int pa_nil))) (pa_cons (pe_xo T.c5.xf (T.c5.no "pages" (by simp)) (pe_valK I5 (kwb1 W5) hr rfl T.c5.g (pk_cons pe_int pk_nil))) (pa_cons (pe_xo T.c4.xf (T.c4.no "most" (by simp)) (pe_val I4 hr rfl T.c4.g (pa_cons pe_int pa_nil))) pa_nil)))))))
      (pss_cons (ps_set (i := 0) sc_fields.nd rfl (Or.inl rfl) (pe_op op_cat (pv 0) (pe_lst (pa_cons (pe_xo T.c4.xf (T.c4.no "most" (by simp)) (pe_valK I4 (kwb1 W4) hr rfl T.c4.g (pk_cons (pe_un un_neg pe_int) pk_nil))) (pa_cons (pe_xo T.c9.xf (T.c9.no "wrong" (by simp)) (pe_val I9 hr rfl T.c9.g (pa_cons pe_str pa_nil))) (pa_cons (pe_xo T.c9.xf (T.c9.no "wrong" (by simp)) (pe_valK I9 (kwb1 W9) hr rfl T.c9.g (pk_cons pe_str pk_nil))) pa_nil))))))
      (pss_cons (ps_set (i := 1) sc_fields.nd rfl (Or.inl rfl) (pe_lst (pa_cons pe_int (pa_cons pe_int (pa_cons pe_int (pa_cons pe_int (pa_cons pe_int (pa_cons pe_int (pa_cons pe_str (pa_cons pe_str (pa_cons pe_int (pa_cons pe_int (pa_cons pe_int (pa_cons pe_int (pa_cons pe_str (pa_cons pe_str (pa_cons pe_int (pa_cons pe_int (pa_cons pe_int (pa_cons pe_int (pa_cons pe_int (pa_cons pe_int (pa_cons pe_int (pa_cons (pe_un un_neg pe_int) (pa_cons pe_int (pa_cons pe_int pa_nil))))))))))))))))))))))))))
      (pss_cons (ps_set (i := 1) sc_fields.nd rfl (Or.inl rfl) (pe_op op_cat (pv 1) (pe_lst (pa_cons pe_str (pa_cons pe_str (pa_cons pe_int (pa_cons pe_int (pa_cons pe_int (pa_cons (pe_un un_neg pe_int) pa_nil)))))))))
      (pss_cons (ps_set (i := 1) sc_fields.nd rfl (Or.inl rfl) (pe_op op_cat (pv 1) (pe_lst (pa_cons pe_str (pa_cons pe_str pa_nil)))))
      (pss_cons (ps_par3 (i := 2) (j := 3) (l := 4) rfl sc_fields.nd rfl rfl rfl (by decide) (by decide) (by decide) rfl rfl rfl (pa_cons (pe_val I10 hr rfl T.c10.g (pa_cons pe_int (pa_cons pe_str pa_nil))) (pa_cons (pe_valK I10 (kwb2 W10) hr rfl T.c10.g (pk_cons pe_str (pk_cons pe_int pk_nil))) (pa_cons (pe_val I3 hr rfl T.c3.g (pa_cons pe_str (pa_cons pe_str pa_nil))) pa_nil))) rfl)
      (pss_cons (ps_set (i := 5) sc_fields.nd rfl (Or.inl rfl) (pe_valK I3 (kwb2 W3) hr rfl T.c3.g (pk_cons pe_str (pk_cons pe_str pk_nil))))
      (pss_cons (ps_set (i := 0) sc_fields.nd rfl (Or.inl rfl) (pe_op op_cat (pv 0) (pe_lst (pa_cons (pe_xo T.c10.xf (T.c10.no "index" (by simp)) (pv 2)) (pa_cons (pe_xo T.c10.xf (T.c10.no "part" (by simp)) (pv 2)) (pa_cons (pe_xo T.c10.xf (T.c10.no "index" (by simp)) (pv 3)) (pa_cons (pe_xo T.c10.xf (T.c10.no "part" (by simp)) (pv 3)) (pa_cons (pe_xo T.c3.xf (T.c3.no "name" (by simp)) (pv 4)) (pa_cons (pe_xo T.c3.xf (T.c3.no "look" (by simp)) (pv 4)) pa_nil)))))))))
      (pss_cons (ps_set (i := 0) sc_fields.nd rfl (Or.inl rfl) (pe_op op_cat (pv 0) (pe_lst (pa_cons (pe_xo T.c3.xf (T.c3.no "name" (by simp)) (pv 5)) (pa_cons (pe_xo T.c3.xf (T.c3.no "look" (by simp)) (pv 5)) pa_nil)))))
      (pss_one (ps_ret (pe_cmpR (op_eqD (lt_units hr)) (pv 0) (pe_op op_cat (pv 1) (pe_lst (pa_cons pe_int (pa_cons pe_str (pa_cons pe_int (pa_cons pe_str (pa_cons pe_str (pa_cons pe_str (pa_cons pe_str (pa_cons pe_str pa_nil)))))))))) (nomark _))))))))))))))))))), ?_⟩
    have s0 : True := trivial
    refine q_asgL (xs := [.int 3, .int 0, .int 2, .int 9]) (el_lst (ea_cons (ev_val (vs := [.int 3]) (ea_cons ev_c ea_nil) rfl (by decide) (by decide) (by intro v hv; simp only [List.mem_cons, List.not_mem_nil, or_false, List.reverse_cons, List.reverse_nil, List.nil_append, List.cons_append] at hv; rcases hv with rfl <;> first | exact fine_int | exact fine_str) (by decide)) (ea_cons (ev_valK (vs := [.int 0]) (ea_cons ev_c ea_nil) rfl rfl (by decide) (by decide) (by intro v hv; simp only [List.mem_cons, List.not_mem_nil, or_false, List.reverse_cons, List.reverse_nil, List.nil_append, List.cons_append] at hv; rcases hv with rfl <;> first | exact fine_int | exact fine_str) (by decide)) (ea_cons (ev_val (vs := [.int 2]) (ea_cons ev_c ea_nil) rfl (by decide) (by decide) (by intro v hv; simp only [List.mem_cons, List.not_mem_nil, or_false, List.reverse_cons, List.reverse_nil, List.nil_append, List.cons_append] at hv; rcases hv with rfl <;> first | exact fine_int | exact fine_str) (by decide)) (ea_cons (ev_valK (vs := [.int 9]) (ea_cons ev_c ea_nil) rfl rfl (by decide) (by decide) (by intro v hv; simp only [List.mem_cons, List.not_mem_nil, or_false, List.reverse_cons, List.reverse_nil, List.nil_append, List.cons_append] at hv; rcases hv with rfl <;> first | exact fine_int | exact fine_str) (by decide)) ea_nil)))) (by simp)) fun akept H1 n e hkept => ?_
    have EZ := e
    refine q_asgL (xs := [.int 3, .int 0, .int 2, .int 9, .int 1, .int 2, .str "x", .str ""]) (el_cat (xs := [.int 3, .int 0, .int 2, .int 9]) (ys := [.int 1, .int 2, .str "x", .str ""]) (er_var (p := akept) rfl hkept) (lr (el_lst (ea_cons (ev_val (vs := [.int 1]) (ea_cons ev_c ea_nil) rfl (by decide) (by decide) (by intro v hv; simp only [List.mem_cons, List.not_mem_nil, or_false, List.reverse_cons, List.reverse_nil, List.nil_append, List.cons_append] at hv; rcases hv with rfl <;> first | exact fine_int | exact fine_str) (by decide)) (ea_cons (ev_valK (vs := [.int 2]) (ea_cons ev_c ea_nil) rfl rfl (by decide) (by decide) (by intro v hv; simp only [List.mem_cons, List.not_mem_nil, or_false, List.reverse_cons, List.reverse_nil, List.nil_append, List.cons_append] at hv; rcases hv with rfl <;> first | exact fine_int | exact fine_str) (by decide)) (ea_cons (ev_val (vs := [.str "x"]) (ea_cons ev_c ea_nil) rfl (by decide) (by decide) (by intro v hv; simp only [List.mem_cons, List.not_mem_nil, or_false, List.reverse_cons, List.reverse_nil, List.nil_append, List.cons_append] at hv; rcases hv with rfl <;> first | exact fine_int | exact fine_str) (by decide)) (ea_cons (ev_valK (vs := [.str ""]) (ea_cons ev_c ea_nil) rfl rfl (by decide) (by decide) (by intro v hv; simp only [List.mem_cons, List.not_mem_nil, or_false, List.reverse_cons, List.reverse_nil, List.nil_append, List.cons_append] at hv; rcases hv with rfl <;> first | exact fine_int | exact fine_str) (by decide)) ea_nil)))) (by simp))) (by decide)) fun akept H1 n e h2 => ?_
    replace hkept := h2
    clear h2
    replace EZ := EZ.trans e
    refine q_asgL (xs := [.int 3, .int 0, .int 2, .int 9, .int 1, .int 2, .str "x", .str "", .int 5, .int 6, .int 7, .int 8, .str "a"]) (el_cat (xs := [.int 3, .int 0, .int 2, .int 9, .int 1, .int 2, .str "x", .str ""]) (ys := [.int 5, .int 6, .int 7, .int 8, .str "a"]) (er_var (p := akept) rfl hkept) (lr (el_lst (ea_cons (ev_val (vs := [.int 5]) (ea_cons ev_c ea_nil) rfl (by decide) (by decide) (by intro v hv; simp only [List.mem_cons, List.not_mem_nil, or_false, List.reverse_cons, List.reverse_nil, List.nil_append, List.cons_append] at hv; rcases hv with rfl <;> first | exact fine_int | exact fine_str) (by decide)) (ea_cons (ev_valK (vs := [.int 6]) (ea_cons ev_c ea_nil) rfl rfl (by decide) (by decide) (by intro v hv; simp only [List.mem_cons, List.not_mem_nil, or_false, List.reverse_cons, List.reverse_nil, List.nil_append, List.cons_append] at hv; rcases hv with rfl <;> first | exact fine_int | exact fine_str) (by decide)) (ea_cons (ev_val (vs := [.int 7]) (ea_cons ev_c ea_nil) rfl (by decide) (by decide) (by intro v hv; simp only [List.mem_cons, List.not_mem_nil, or_false, List.reverse_cons, List.reverse_nil, List.nil_append, List.cons_append] at hv; rcases hv with rfl <;> first | exact fine_int | exact fine_str) (by decide)) (ea_cons (ev_valK (vs := [.int 8]) (ea_cons ev_c ea_nil) rfl rfl (by decide) (by decide) (by intro v hv; simp only [List.mem_cons, List.not_mem_nil, or_false, List.reverse_cons, List.reverse_nil, List.nil_append, List.cons_append] at hv; rcases hv with rfl <;> first | exact fine_int | exact fine_str) (by decide)) (ea_cons (ev_val (vs := [.str "a"]) (ea_cons ev_c ea_nil) rfl (by decide) (by decide) (by intro v hv; simp only [List.mem_cons, List.not_mem_nil, or_false, List.reverse_cons, List.reverse_nil, List.nil_append, List.cons_append] at hv; rcases hv with rfl <;> first | exact fine_int | exact fine_str) (by decide)) ea_nil))))) (by simp))) (by decide)) fun akept H1 n e h2 => ?_
    replace hkept := h2
    clear h2
    replace EZ := EZ.trans e
    refine q_asgL (xs := [.int 3, .int 0, .int 2, .int 9, .int 1, .int 2, .str "x", .str "", .int 5, .int 6, .int 7, .int 8, .str "a", .str "b", .int 1, .int 0, .int 3]) (el_cat (xs := [.int 3, .int 0, .int 2, .int 9, .int 1, .int 2, .str "x", .str "", .int 5, .int 6, .int 7, .int 8, .str "a"]) (ys := [.str "b", .int 1, .int 0, .int 3]) (er_var (p := akept) rfl hkept) (lr (el_lst (ea_cons (ev_valK (vs := [.str "b"]) (ea_cons ev_c ea_nil) rfl rfl (by decide) (by decide) (by intro v hv; simp only [List.mem_cons, List.not_mem_nil, or_false, List.reverse_cons, List.reverse_nil, List.nil_append, List.cons_append] at hv; rcases hv with rfl <;> first | exact fine_int | exact fine_str) (by decide)) (ea_cons (ev_val (vs := [.int 1]) (ea_cons ev_c ea_nil) rfl (by decide) (by decide) (by intro v hv; simp only [List.mem_cons, List.not_mem_nil, or_false, List.reverse_cons, List.reverse_nil, List.nil_append, List.cons_append] at hv; rcases hv with rfl <;> first | exact fine_int | exact fine_str) (by decide)) (ea_cons (ev_valK (vs := [.int 0]) (ea_cons ev_c ea_nil) rfl rfl (by decide) (by decide) (by intro v hv; simp only [List.mem_cons, List.not_mem_nil, or_false, List.reverse_cons, List.reverse_nil, List.nil_append, List.cons_append] at hv; rcases hv with rfl <;> first | exact fine_int | exact fine_str) (by decide)) (ea_cons (ev_val (vs := [.int 3]) (ea_cons ev_c ea_nil) rfl (by decide) (by decide) (by intro v hv; simp only [List.mem_cons, List.not_mem_nil, or_false, List.reverse_cons, List.reverse_nil, List.nil_append, List.cons_append] at hv; rcases hv with rfl <;> first | exact fine_int | exact fine_str) (by decide)) ea_nil)))) (by simp))) (by decide)) fun akept H1 n e h2 => ?_
    replace hkept := h2
    clear h2
    replace EZ := EZ.trans e
    refine q_asgL (xs := [.int 3, .int 0, .int 2, .int 9, .int 1, .int 2, .str "x", .str "", .int 5, .int 6, .int 7, .int 8, .str "a", .str "b", .int 1, .int 0, .int 3, .int 4, .int 2, .int 1, .int 0]) (el_cat (xs := [.int 3, .int 0, .int 2, .int 9, .int 1, .int 2, .str "x", .str "", .int 5, .int 6, .int 7, .int 8, .str "a", .str "b", .int 1, .int 0, .int 3]) (ys := [.int 4, .int 2, .int 1, .int 0]) (er_var (p := akept) rfl hkept) (lr (el_lst (ea_cons (ev_valK (vs := [.int 4]) (ea_cons ev_c ea_nil) rfl rfl (by decide) (by decide) (by intro v hv; simp only [List.mem_cons, List.not_mem_nil, or_false, List.reverse_cons, List.reverse_nil, List.nil_append, List.cons_append] at hv; rcases hv with rfl <;> first | exact fine_int | exact fine_str) (by decide)) (ea_cons (ev_val (vs := [.int 2]) (ea_cons ev_c ea_nil) rfl (by decide) (by decide) (by intro v hv; simp only [List.mem_cons, List.not_mem_nil, or_false, List.reverse_cons, List.reverse_nil, List.nil_append, List.cons_append] at hv; rcases hv with rfl <;> first | exact fine_int | exact fine_str) (by decide)) (ea_cons (ev_valK (vs := [.int 1]) (ea_cons ev_c ea_nil) rfl rfl (by decide) (by decide) (by intro v hv; simp only [List.mem_cons, List.not_mem_nil, or_false, List.reverse_cons, List.reverse_nil, List.nil_append, List.cons_append] at hv; rcases hv with rfl <;> first | exact fine_int | exact fine_str) (by decide)) (ea_cons (ev_val (vs := [.int 0]) (ea_cons ev_c ea_nil) rfl (by decide) (by decide) (by intro v hv; simp only [List.mem_cons, List.not_mem_nil, or_false, List.reverse_cons, List.reverse_nil, List.nil_append, List.cons_append] at hv; rcases hv with rfl <;> first | exact fine_int | exact fine_str) (by decide)) ea_nil)))) (by simp))) (by decide)) fun akept H1 n e h2 => ?_
    replace hkept := h2
    clear h2
    replace EZ := EZ.trans e
    refine q_asgL (xs := [.int 3, .int 0, .int 2, .int 9, .int 1, .int 2, .str "x", .str "", .int 5, .int 6, .int 7, .int 8, .str "a", .str "b", .int 1, .int 0, .int 3, .int 4, .int 2, .int 1, .int 0, .int (-3), .int 2, .int 7]) (el_cat (xs := [.int 3, .int 0, .int 2, .int 9, .int 1, .int 2, .str "x", .str "", .int 5, .int 6, .int 7, .int 8, .str "a", .str "b", .int 1, .int 0, .int 3, .int 4, .int 2, .int 1, .int 0]) (ys := [.int (-3), .int 2, .int 7]) (er_var (p := akept) rfl hkept) (lr (el_lst (ea_cons (ev_valK (vs := [.int (-3)]) (ea_cons (ev_un ev_c ru_neg) ea_nil) rfl rfl (by decide) (by decide) (by intro v hv; simp only [List.mem_cons, List.not_mem_nil, or_false, List.reverse_cons, List.reverse_nil, List.nil_append, List.cons_append] at hv; rcases hv with rfl <;> first | exact fine_int | exact fine_str) (by decide)) (ea_cons (ev_val (vs := [.int 2]) (ea_cons ev_c ea_nil) rfl (by decide) (by decide) (by intro v hv; simp only [List.mem_cons, List.not_mem_nil, or_false, List.reverse_cons, List.reverse_nil, List.nil_append, List.cons_append] at hv; rcases hv with rfl <;> first | exact fine_int | exact fine_str) (by decide)) (ea_cons (ev_valK (vs := [.int 7]) (ea_cons ev_c ea_nil) rfl rfl (by decide) (by decide) (by intro v hv; simp only [List.mem_cons, List.not_mem_nil, or_false, List.reverse_cons, List.reverse_nil, List.nil_append, List.cons_append] at hv; rcases hv with rfl <;> first | exact fine_int | exact fine_str) (by decide)) ea_nil))) (by simp))) (by decide)) fun akept H1 n e h2 => ?_
    replace hkept := h2
    clear h2
    replace EZ := EZ.trans e
    refine q_asgL (xs := [.int 3, .int 0, .int 2, .int 9, .int 1, .int 2, .str "x", .str "", .int 5, .int 6, .int 7, .int 8, .str "a", .str "b", .int 1, .int 0, .int 3, .int 4, .int 2, .int 1, .int 0, .int (-3), .int 2, .int 7, .str "twice"]) (el_cat (xs := [.int 3, .int 0, .int 2, .int 9, .int 1, .int 2, .str "x", .str "", .int 5, .int 6, .int 7, .int 8, .str "a", .str "b", .int 1, .int 0, .int 3, .int 4, .int 2, .int 1, .int 0, .int (-3), .int 2, .int 7]) (ys := [.str "twice"]) (er_var (p := akept) rfl hkept) (lr (el_lst (ea_cons (ev_val (vs := [.str "twice"]) (ea_cons ev_c ea_nil) rfl (by decide) (by decide) (by intro v hv; simp only [List.mem_cons, List.not_mem_nil, or_false, List.reverse_cons, List.reverse_nil, List.nil_append, List.cons_append] at hv; rcases hv with rfl <;> first | exact fine_int | exact fine_str) (by decide)) ea_nil) (by simp))) (by decide)) fun akept H1 n e h2 => ?_
    replace hkept := h2
    clear h2
    replace EZ := EZ.trans e
    refine q_asgL (xs := [.int 3, .int 0, .int 2, .int 9, .int 1, .int 2, .str "x", .str "", .int 5, .int 6, .int 7, .int 8, .str "a", .str "b", .int 1, .int 0, .int 3, .int 4, .int 2, .int 1, .int 0, .int (-3), .int 2, .int 7, .str "twice", .str "taken", .int 9, .int 0, .int 4]) (el_cat (xs := [.int 3, .int 0, .int 2, .int 9, .int 1, .int 2, .str "x", .str "", .int 5, .int 6, .int 7, .int 8, .str "a", .str "b", .int 1, .int 0, .int 3, .int 4, .int 2, .int 1, .int 0, .int (-3), .int 2, .int 7, .str "twice"]) (ys := [.str "taken", .int 9, .int 0, .int 4]) (er_var (p := akept) rfl hkept) (lr (el_lst (ea_cons (ev_valK (vs := [.str "taken"]) (ea_cons ev_c ea_nil) rfl rfl (by decide) (by decide) (by intro v hv; simp only [List.mem_cons, List.not_mem_nil, or_false, List.reverse_cons, List.reverse_nil, List.nil_append, List.cons_append] at hv; rcases hv with rfl <;> first | exact fine_int | exact fine_str) (by decide)) (ea_cons (ev_val (vs := [.int 9]) (ea_cons ev_c ea_nil) rfl (by decide) (by decide) (by intro v hv; simp only [List.mem_cons, List.not_mem_nil, or_false, List.reverse_cons, List.reverse_nil, List.nil_append, List.cons_append] at hv; rcases hv with rfl <;> first | exact fine_int | exact fine_str) (by decide)) (ea_cons (ev_valK (vs := [.int 0]) (ea_cons ev_c ea_nil) rfl rfl (by decide) (by decide) (by intro v hv; simp only [List.mem_cons, List.not_mem_nil, or_false, List.reverse_cons, List.reverse_nil, List.nil_append, List.cons_append] at hv; rcases hv with rfl <;> first | exact fine_int | exact fine_str) (by decide)) (ea_cons (ev_val (vs := [.int 4]) (ea_cons ev_c ea_nil) rfl (by decide) (by decide) (by intro v hv; simp only [List.mem_cons, List.not_mem_nil, or_false, List.reverse_cons, List.reverse_nil, List.nil_append, List.cons_append] at hv; rcases hv with rfl <;> first | exact fine_int | exact fine_str) (by decide)) ea_nil)))) (by simp))) (by decide)) fun akept H1 n e h2 => ?_
    replace hkept := h2
    clear h2
    replace EZ := EZ.trans e
    refine q_asgL (xs := [.int 3, .int 0, .int 2, .int 9, .int 1, .int 2, .str "x", .str "", .int 5, .int 6, .int 7, .int 8, .str "a", .str "b", .int 1, .int 0, .int 3, .int 4, .int 2, .int 1, .int 0, .int (-3), .int 2, .int 7, .str "twice", .str "taken", .int 9, .int 0, .int 4, .int (-1), .str "nobody", .str "astray"]) (el_cat (xs := [.int 3, .int 0, .int 2, .int 9, .int 1, .int 2, .str "x", .str "", .int 5, .int 6, .int 7, .int 8, .str "a", .str "b", .int 1, .int 0, .int 3, .int 4, .int 2, .int 1, .int 0, .int (-3), .int 2, .int 7, .str "twice", .str "taken", .int 9, .int 0, .int 4]) (ys := [.int (-1), .str "nobody", .str "astray"]) (er_var (p := akept) rfl hkept) (lr (el_lst (ea_cons (ev_valK (vs := [.int (-1)]) (ea_cons (ev_un ev_c ru_neg) ea_nil) rfl rfl (by decide) (by decide) (by intro v hv; simp only [List.mem_cons, List.not_mem_nil, or_false, List.reverse_cons, List.reverse_nil, List.nil_append, List.cons_append] at hv; rcases hv with rfl <;> first | exact fine_int | exact fine_str) (by decide)) (ea_cons (ev_val (vs := [.str "nobody"]) (ea_cons ev_c ea_nil) rfl (by decide) (by decide) (by intro v hv; simp only [List.mem_cons, List.not_mem_nil, or_false, List.reverse_cons, List.reverse_nil, List.nil_append, List.cons_append] at hv; rcases hv with rfl <;> first | exact fine_int | exact fine_str) (by decide)) (ea_cons (ev_valK (vs := [.str "astray"]) (ea_cons ev_c ea_nil) rfl rfl (by decide) (by decide) (by intro v hv; simp only [List.mem_cons, List.not_mem_nil, or_false, List.reverse_cons, List.reverse_nil, List.nil_append, List.cons_append] at hv; rcases hv with rfl <;> first | exact fine_int | exact fine_str) (by decide)) ea_nil))) (by simp))) (by decide)) fun akept H1 n e h2 => ?_
    replace hkept := h2
    clear h2
    replace EZ := EZ.trans e
    refine q_asgL (xs := [.int 3, .int 0, .int 2, .int 9, .int 1, .int 2, .str "x", .str "", .int 5, .int 6, .int 7, .int 8, .str "a", .str "b", .int 1, .int 0, .int 3, .int 4, .int 2, .int 1, .int 0, .int (-3), .int 2, .int 7]) (el_lst (ea_cons ev_c (ea_cons ev_c (ea_cons ev_c (ea_cons ev_c (ea_cons ev_c (ea_cons ev_c (ea_cons ev_c (ea_cons ev_c (ea_cons ev_c (ea_cons ev_c (ea_cons ev_c (ea_cons ev_c (ea_cons ev_c (ea_cons ev_c (ea_cons ev_c (ea_cons ev_c (ea_cons ev_c (ea_cons ev_c (ea_cons ev_c (ea_cons ev_c (ea_cons ev_c (ea_cons (ev_un ev_c ru_neg) (ea_cons ev_c (ea_cons ev_c ea_nil)))))))))))))))))))))))) (by simp)) fun adue H1 n e hdue => ?_
    have hkept := e _ _ hkept
    replace EZ := EZ.trans e
    refine q_asgL (xs := [.int 3, .int 0, .int 2, .int 9, .int 1, .int 2, .str "x", .str "", .int 5, .int 6, .int 7, .int 8, .str "a", .str "b", .int 1, .int 0, .int 3, .int 4, .int 2, .int 1, .int 0, .int (-3), .int 2, .int 7, .str "twice", .str "taken", .int 9, .int 0, .int 4, .int (-1)]) (el_cat (xs := [.int 3, .int 0, .int 2, .int 9, .int 1, .int 2, .str "x", .str "", .int 5, .int 6, .int 7, .int 8, .str "a", .str "b", .int 1, .int 0, .int 3, .int 4, .int 2, .int 1, .int 0, .int (-3), .int 2, .int 7]) (ys := [.str "twice", .str "taken", .int 9, .int 0, .int 4, .int (-1)]) (er_var (p := adue) rfl hdue) (lr (el_lst (ea_cons ev_c (ea_cons ev_c (ea_cons ev_c (ea_cons ev_c (ea_cons ev_c (ea_cons (ev_un ev_c ru_neg) ea_nil)))))) (by simp))) (by decide)) fun adue H1 n e h2 => ?_
    have hkept := e _ _ hkept
    replace hdue := h2
    clear h2
    replace EZ := EZ.trans e
    refine q_asgL (xs := [.int 3, .int 0, .int 2, .int 9, .int 1, .int 2, .str "x", .str "", .int 5, .int 6, .int 7, .int 8, .str "a", .str "b", .int 1, .int 0, .int 3, .int 4, .int 2, .int 1, .int 0, .int (-3), .int 2, .int 7, .str "twice", .str "taken", .int 9, .int 0, .int 4, .int (-1), .str "nobody", .str "astray"]) (el_cat (xs := [.int 3, .int 0, .int 2, .int 9, .int 1, .int 2, .str "x", .str "", .int 5, .int 6, .int 7, .int 8, .str "a", .str "b", .int 1, .int 0, .int 3, .int 4, .int 2, .int 1, .int 0, .int (-3), .int 2, .int 7, .str "twice", .str "taken", .int 9, .int 0, .int 4, .int (-1)]) (ys := [.str "nobody", .str "astray"]) (er_var (p := adue) rfl hdue) (lr (el_lst (ea_cons ev_c (ea_cons ev_c ea_nil)) (by simp))) (by decide)) fun adue H1 n e h2 => ?_
    have hkept := e _ _ hkept
    replace hdue := h2
    clear h2
    replace EZ := EZ.trans e
    refine q_par3O (eo_val (vs := [.int 1, .str "shown"]) (ea_cons ev_c (ea_cons ev_c ea_nil)) rfl (by decide) (by decide) (by intro v hv; simp only [List.mem_cons, List.not_mem_nil, or_false, List.reverse_cons, List.reverse_nil, List.nil_append, List.cons_append] at hv; rcases hv with rfl | rfl <;> first | exact fine_int | exact fine_str)) (eo_valK (vs := [.str "name", .int 0]) (ea_cons ev_c (ea_cons ev_c ea_nil)) rfl rfl (by decide) (by decide) (by intro v hv; simp only [List.mem_cons, List.not_mem_nil, or_false, List.reverse_cons, List.reverse_nil, List.nil_append, List.cons_append] at hv; rcases hv with rfl | rfl <;> first | exact fine_int | exact fine_str)) (eo_val (vs := [.str "pay", .str "same"]) (ea_cons ev_c (ea_cons ev_c ea_nil)) rfl (by decide) (by decide) (by intro v hv; simp only [List.mem_cons, List.not_mem_nil, or_false, List.reverse_cons, List.reverse_nil, List.nil_append, List.cons_append] at hv; rcases hv with rfl | rfl <;> first | exact fine_int | exact fine_str)) fun afirst dfirst asecond dsecond athird dthird H1 e OBfirst OBsecond OBthird => ?_
    have hkept := e _ _ hkept
    have hdue := e _ _ hdue
    replace EZ := EZ.trans e
    refine q_asgO (eo_valK (vs := [.str "mine", .str "hold"]) (ea_cons ev_c (ea_cons ev_c ea_nil)) rfl rfl (by decide) (by decide) (by intro v hv; simp only [List.mem_cons, List.not_mem_nil, or_false, List.reverse_cons, List.reverse_nil, List.nil_append, List.cons_append] at hv; rcases hv with rfl | rfl <;> first | exact fine_int | exact fine_str)) fun afourth dfourth H1 e OBfourth => ?_
    have hkept := e _ _ hkept
    have hdue := e _ _ hdue
    have OBfirst := OBfirst.ex e
    have OBsecond := OBsecond.ex e
    have OBthird := OBthird.ex e
    replace EZ := EZ.trans e
    refine q_asgL (xs := [.int 3, .int 0, .int 2, .int 9, .int 1, .int 2, .str "x", .str "", .int 5, .int 6, .int 7, .int 8, .str "a", .str "b", .int 1, .int 0, .int 3, .int 4, .int 2, .int 1, .int 0, .int (-3), .int 2, .int 7, .str "twice", .str "taken", .int 9, .int 0, .int 4, .int (-1), .str "nobody", .str "astray", .int 1, .str "shown", .int 0, .str "name", .str "pay", .str "same"]) (el_cat (xs := [.int 3, .int 0, .int 2, .int 9, .int 1, .int 2, .str "x", .str "", .int 5, .int 6, .int 7, .int 8, .str "a", .str "b", .int 1, .int 0, .int 3, .int 4, .int 2, .int 1, .int 0, .int (-3), .int 2, .int 7, .str "twice", .str "taken", .int 9, .int 0, .int 4, .int (-1), .str "nobody", .str "astray"]) (ys := [.int 1, .str "shown", .int 0, .str "name", .str "pay", .str "same"]) (er_var (p := akept) rfl hkept) (lr (el_lst (ea_cons (ev_xoV (a := afirst) (d := dfirst) rfl (OBfirst) (by decide)) (ea_cons (ev_xoV (a := afirst) (d := dfirst) rfl (OBfirst) (by decide)) (ea_cons (ev_xoV (a := asecond) (d := dsecond) rfl (OBsecond) (by decide)) (ea_cons (ev_xoV (a := asecond) (d := dsecond) rfl (OBsecond) (by decide)) (ea_cons (ev_xoV (a := athird) (d := dthird) rfl (OBthird) (by decide)) (ea_cons (ev_xoV (a := athird) (d := dthird) rfl (OBthird) (by decide)) ea_nil)))))) (by simp))) (by decide)) fun akept H1 n e h2 => ?_
    have hdue := e _ _ hdue
    have OBfirst := OBfirst.ex e
    have OBsecond := OBsecond.ex e
    have OBthird := OBthird.ex e
    have OBfourth := OBfourth.ex e
    replace hkept := h2
    clear h2
    replace EZ := EZ.trans e
    refine q_asgL (xs := [.int 3, .int 0, .int 2, .int 9, .int 1, .int 2, .str "x", .str "", .int 5, .int 6, .int 7, .int 8, .str "a", .str "b", .int 1, .int 0, .int 3, .int 4, .int 2, .int 1, .int 0, .int (-3), .int 2, .int 7, .str "twice", .str "taken", .int 9, .int 0, .int 4, .int (-1), .str "nobody", .str "astray", .int 1, .str "shown", .int 0, .str "name", .str "pay", .str "same", .str "hold", .str "mine"]) (el_cat (xs := [.int 3, .int 0, .int 2, .int 9, .int 1, .int 2, .str "x", .str "", .int 5, .int 6, .int 7, .int 8, .str "a", .str "b", .int 1, .int 0, .int 3, .int 4, .int 2, .int 1, .int 0, .int (-3), .int 2, .int 7, .str "twice", .str "taken", .int 9, .int 0, .int 4, .int (-1), .str "nobody", .str "astray", .int 1, .str "shown", .int 0, .str "name", .str "pay", .str "same"]) (ys := [.str "hold", .str "mine"]) (er_var (p := akept) rfl hkept) (lr (el_lst (ea_cons (ev_xoV (a := afourth) (d := dfourth) rfl (OBfourth) (by decide)) (ea_cons (ev_xoV (a := afourth) (d := dfourth) rfl (OBfourth) (by decide)) ea_nil)) (by simp))) (by decide)) fun akept H1 n e h2 => ?_
    have hdue := e _ _ hdue
    have OBfirst := OBfirst.ex e
    have OBsecond := OBsecond.ex e
    have OBthird := OBthird.ex e
    have OBfourth := OBfourth.ex e
    replace hkept := h2
    clear h2
    replace EZ := EZ.trans e
    refine s_ret (v := .bl true) (ev_opL (ev_var (v := .ref akept) rfl) (el_cat (er_var (p := adue) rfl hdue) (lr (el_lst (vs := [.int 1, .str "shown", .int 0, .str "name", .str "pay", .str "same", .str "hold", .str "mine"]) (ea_cons ev_c (ea_cons ev_c (ea_cons ev_c (ea_cons ev_c (ea_cons ev_c (ea_cons ev_c (ea_cons ev_c (ea_cons ev_c ea_nil)))))))) (by decide))) (by decide)) fun q H1 hq e => ?_) fun H1 e => k H1 (EZ.trans e)
    exact rv_eqS (sq_of (e _ _ hkept)) (sq_of hq) (by decide) (by decide) (by first | decide +kernel | kernel_rfl)
end
end Ox

namespace Ox
open PySem PySem.Spec PyProof.Rows L2 Evl L2H
/-- nothing goes on behind the first statement -/
theorem pss_stop {X : Cx} {st : Stmt} {rest : List Stmt} {t : TS} (h : PS X st t) : PSs X (st :: rest) (fun D σ H => t { D with nx := fun _ _ => False } σ H) := by
  refine ⟨fun pins s σ H D I q => ?_⟩
  refine wpAny_execs_cons (thn (h.run pins s σ H _ I q) fun fl s1 hs => ?_)
  match fl, hs with
  | .next, ⟨_, _, _, z⟩ => exact z.elim
  | .brk, hs => exact hs
  | .cont, hs => exact hs
  | .ret u, hs => exact hs
/-- C(), C without an __init__ of its own -/
theorem pmk_own0 {X : Cx} {C : Addr} {bmB : List Value} {B newId initId : String} {x : Str} {p pos : Pos} (F : ExcBaseFacts B newId initId bmB) (q : PySem.W.excIn X.K C bmB newId = true) (gC : X.mg x = some (.ref C)) (kC : PySem.W.keepIn X.K (.ref C) = true) (r : Raises X (.ref C)) (hg : Gl X x)
    (hdb : (x == ("__debug__" : Str)) = false := by decide) : L2N.PMk X (.Call (.Name x p) [] [] pos) (fun _ H Q => Q (.ref C) none H) := by
  intro pins s σ H Q I h
  refine wpAny_Call_Name_kw (ld_glob I hg gC ?_ hdb)
  refine PySem.W.callWith_K0 I.kIn kC ?_
  obtain ⟨bm, N, nm, qn, bs, hdct, sn, sub, ab, col, dd, k0, k1, k2, k3, k5, mN, hC, hN, hni, T⟩ := exc_obj I.kIn q
  exact wpAny_call_exc_subT F T hC hN hni (fun h' e hm => L2N.mk_of I hm r h (I.hok.gone hm.new)) (Nat.zero_le _)
abbrev s_check : Stmt := top 32
abbrev s_show : Stmt := top 33
/-- the book without states -/
def spNone (K : PySem.W.Frag) (A : Nat → Addr) : Sp := fun vs H _ E => ∃ (b x : Addr) (y : V), vs = [.ref b] ∧ SqT K H b [.ref x, y] ∧ SqT K H x [] ∧ ∀ d H', ExX H d H' → E (.ref (A 12)) d H'
theorem sc_check : FnScope ["book", "states", "rows", "index", "state", "row", "part"] ["book"] (defScope s_check) := ⟨rfl, rfl, rfl, by decide +kernel, rfl, by decide +kernel, by decide +kernel⟩
theorem sc_show : FnScope ["book", "states", "rows", "lines", "row", "line"] ["book"] (defScope s_show) := ⟨rfl, rfl, rfl, by decide +kernel, rfl, by decide +kernel, by decide +kernel⟩
section
variable {w : World} {K : PySem.W.Frag} {mg : Str → Option Value} {base : Heap} {A : Nat → Addr} {HE : Addr}
theorem ok_check {f : Addr} {fd : FuncData} (F : Fun K "check_book" "check_book" s_check f fd) (T : AllC w K mg base A) : FnOk PP w K mg base (L2N.CX PP w) 1 f fd ["book"] (spNone K A) := by
  refine okN F sc_check (fun vs H Q E h => ?_) (fun cdv B outer s H vs Q E hr h => ?_)
  · obtain ⟨_, _, _, rfl, _⟩ := h
    rfl
  · obtain ⟨b, x, y, rfl, hb, hx, k⟩ := h
    obtain ⟨fI, fd2, I, _⟩ := T.c12.made
    refine ⟨_, pss_cons (ps_asg (pv 0) (pg_tup rfl (pgs_cons (pg_name (i := 1) sc_check.nd rfl (Or.inl rfl)) (pgs_cons (pg_name (i := 2) sc_check.nd rfl (Or.inl rfl)) pgs_nil))))
      (pss_stop (ps_if (pt_not (pt_truth (pv 1) (by intro _; rfl))) (pss_one (ps_raiseX rfl I hr takesN rfl T.c12.g (pa_cons pe_int pa_nil))) pss_nil)), ?_⟩
    refine ⟨_, rfl, b, _, rfl, hb, rfl, .ref x, _, rfl, y, _, rfl, rfl, ?_⟩
    refine ⟨_, rfl, false, .inr (.inl ⟨[], hx, rfl⟩), ?_⟩
    show if (!false) = true then _ else _
    rw [if_pos (by rfl)]
    exact raise_n (ps := ["index"]) (vs := [.int 0]) (fun F h => h) rfl (by decide) (by decide) (by intro v hv; simp only [List.mem_cons, List.not_mem_nil, or_false] at hv; rcases hv with rfl; exact fine_int) k
theorem ok_show {f fc : Addr} {fd fdc : FuncData} (F : Fun K "show_book" "show_book" s_show f fd) (FC : FnOk PP w K mg base (L2N.CX PP w) 1 fc fdc ["book"] (spNone K A)) (gC : mg "check_book" = some (.ref fc)) (kC : PySem.W.keepIn K (.ref fc) = true) (bC : Binds K fdc ["book"] []) :
    FnOk PP w K mg base (L2N.CX PP w) 2 f fd ["book"] (spNone K A) := by
  refine okN F sc_show (fun vs H Q E h => ?_) (fun cdv B outer s H vs Q E hr h => ?_)
  · obtain ⟨_, _, _, rfl, _⟩ := h
    rfl
  · obtain ⟨b, x, y, rfl, hb, hx, k⟩ := h
    refine ⟨_, pss_stop (ps_expr (pe_call FC hr rfl gC kC bC .nil (L2N.passes_call takesN fun _ _ _ _ h => h) (pa_cons (pv 0) pa_nil))), ?_⟩
    exact ⟨_, rfl, b, x, y, rfl, hb, hx, k⟩
abbrev s_kept : Stmt := top 56
theorem sc_kept : FnScope ["marks", "kinds_here", "e"] [] (defScope s_kept) := ⟨rfl, rfl, rfl, by decide +kernel, rfl, by decide +kernel, by decide +kernel⟩
theorem q_parLL {i j : Nat} {ta tb : TE} {xs ys : List V} {rest : TS} {D : Ends} {σ : L2.St} {H : Hp} (h : EvL ta σ H xs) (h2 : EvL tb σ H ys)
    (k : ∀ p q H1, Ex H H1 → H1 p = some (.lst xs) → H1 q = some (.lst ys) → rest D ((σ.set i (some (.ref p))).set j (some (.ref q))) H1) :
    tSeq (tPar i j (tCons ta (tCons tb tNil))) rest D σ H := h H (Ex.refl H) _ fun p H1 hp e h1 => h2 H1 e _ fun q H2 hq e2 h2 => ⟨_, _, rfl, k p q H2 (e.trans e2) (e2 _ _ h1) h2⟩
theorem ev_marks {K : PySem.W.Frag} {A : Nat → Addr} {σ : L2.St} {H : Hp} {a D : Addr} {d : Option Addr} {i : Nat} {f : Nat → Bool} (hσ : σ[i]? = some (some (.ref a))) (hD : ExcC K D) (hk : ∀ j, j < 24 → PySem.W.kitOne K (.ref D) (.ref (A j)) = some (f j)) (hd : ∀ dd, d = some dd → ∃ fs, H dd = some (.xd fs)) :
    EvL (tCallE (spMarks K A) a (.ref D) d E0 (tCons (tVar i) tNil)) σ H ((marksOf f).map V.bl) := fun H3 e3 Q q =>
  ⟨_, hσ, f, D, rfl, rfl, hD, hk, fun dd z => (hd dd z).imp fun fs hf => e3 _ _ hf, fun H' l e n h => q l H' n e h⟩
theorem call_empty {σ : L2.St} {H : Hp} {F : List V → Hp → Prop} (k : ∀ b x y H1, Ex H H1 → H1 b = some (.tup [.ref x, .ref y]) → H1 x = some (.tup []) → F [.ref b] H1) : (tCons (tTup (tCons (tTup tNil) (tCons (tTup tNil) tNil))) tNil) σ H F := by
  have t2 : EvU (tTup tNil) σ H [] := eu_tup ea_nil (by decide)
  refine (show tTup tNil σ H (fun x H1 => tTup tNil σ H1 fun y H2 => ([x, y].length ≤ sizeLine ∧ ∀ p, H2 p = none → F [.ref p] (upd H2 p (.tup [x, y])))) from ?_)
  exact t2 H (Ex.refl _) _ fun x H3 n3 e3 h3 => t2 H3 e3 _ fun y H4 n4 e4 h4 => ⟨by show 2 ≤ sizeLine; decide, fun b nb => k b x y _ ((e3.trans e4).trans (Ex.new nb)) upd_same (Ex.new nb _ _ (e4 _ _ h3))⟩
theorem q_call_empty {sp : Sp} {Wf : Ends → WX} {rest : TS} {D : Ends} {σ : L2.St} {H : Hp} (k : ∀ b x y H1, Ex H H1 → H1 b = some (.tup [.ref x, .ref y]) → H1 x = some (.tup []) → sp [.ref b] H1 (fun _ H2 => rest D σ H2) (WE (Wf { D with nx := rest D }) σ)) :
    tSeq (fun D σ H => tDrop (tCallS sp (WE (Wf D)) (tCons (tTup (tCons (tTup tNil) (tCons (tTup tNil) tNil))) tNil)) D σ H) rest D σ H := by
  show (tCons (tTup (tCons (tTup tNil) (tCons (tTup tNil) tNil))) tNil) σ H (fun vs H1 => sp vs H1 (fun _ H2 => rest D σ H2) (WE (Wf { D with nx := rest D }) σ))
  exact call_empty k
theorem ok_kept {f fs fm ff : Addr} {fd fds fdm fdf : FuncData} (F : Fun K "_law_kept_right" "_law_kept_right" s_kept f fd) (T : KitC K mg A HE) (xH : PySem.W.excIn K HE [.type "ValueError", .type "Exception", .type "BaseException", .type "object"] "ValueError.__new__" = true) (kH : PySem.W.keepIn K (.ref HE) = true)
    (bH : PySem.W.subIn K (.ref HE) (.type "BaseException") = some true) (tH : PySem.W.typeIn K (.ref HE) = some (.type "type"))
    (FS : FnOk PP w K mg base (L2N.CX PP w) 2 fs fds ["book"] (spNone K A)) (gS : mg "show_book" = some (.ref fs)) (kS : PySem.W.keepIn K (.ref fs) = true) (bS : Binds K fds ["book"] [])
    (FM : FnE PP w K mg base CX0 1 fm fdm ["e"] (spMarks K A)) (gM : mg "_law_marks" = some (.ref fm)) (kM : PySem.W.keepIn K (.ref fm) = true) (bM : Binds K fdm ["e"] [])
    (FF : FnOk PP w K mg base CX0 1 ff fdf [] spTrue) (gF : mg "_law_fields_right" = some (.ref ff)) (kF : PySem.W.keepIn K (.ref ff) = true) (bF : Binds K fdf [] []) : FnOk PP w K mg base CX0 3 f fd [] spTrue := by
  refine F.ok sc_kept (fun vs H Q E h => ?_) (fun cdv B outer s H vs Q E hr h => ?_)
  · obtain ⟨rfl, _⟩ := h
    rfl
  · obtain ⟨rfl, k⟩ := h
    refine ⟨_, pss_cons (ps_par (i := 0) (j := 1) rfl sc_kept.nd rfl rfl (by decide) rfl rfl (pa_cons (pe_lst (pa_cons pe_bl pa_nil)) (pa_cons (pe_lst pa_nil) pa_nil)) rfl)
      (pss_cons (L2N.ps_try_as (i := 2) (c := .ref HE) (Wout := fun _ _ _ _ => False) (ts := fun a c d => tAsg (tCallE (spMarks K A) a c d E0 (tCons (tVar 2) tNil)) (gName 0))
          (tb := fun W => fun _ σ H => W (.ref HE) none σ H) rfl rfl sc_kept.nd rfl rfl ⟨rfl, by decide, .inl T.g⟩ takesN0
          (fun W pn xe tk _ => pss_one (L2N.ps_raise rfl tk (pmk_own0 PySem.F.excBase_ValueError xH T.g kH (raises_own bH tH) rfl)))
          (fun a oe c d pn hz hf => pss_one (ps_set (i := 0) sc_kept.nd rfl (Or.inl rfl) (pe_callE FM (roomH_mark (hr.mono (by decide))) (hot_of hz hf) List.mem_cons_self (held_of hz hf) rfl gM kM bM pass0 (pa_cons (pv 2) pa_nil)))))
      (pss_cons (L2N.ps_try_as (i := 2) (c := .ref HE) (Wout := fun _ _ _ _ => False) (ts := fun a c d => tAsg (tCallE (spMarks K A) a c d E0 (tCons (tVar 2) tNil)) (gName 1))
          (tb := fun W => tDrop (tCallS (spNone K A) (WE W) (tCons (tTup (tCons (tTup tNil) (tCons (tTup tNil) tNil))) tNil))) rfl rfl sc_kept.nd rfl rfl ⟨rfl, by decide, .inl T.g⟩ takesN0
          (fun W pn xe tk _ => pss_one (ps_expr (pe_callS FS hr rfl gS kS bS (L2N.passAt tk) (pa_cons (pe_tup (pa_cons (pe_tup pa_nil) (pa_cons (pe_tup pa_nil) pa_nil))) pa_nil))))
          (fun a oe c d pn hz hf => pss_one (ps_set (i := 1) sc_kept.nd rfl (Or.inl rfl) (pe_callE FM (roomH_mark (hr.mono (by decide))) (hot_of hz hf) List.mem_cons_self (held_of hz hf) rfl gM kM bM pass0 (pa_cons (pv 2) pa_nil)))))
      (pss_one (ps_ret (pe_and (pe_not (pe_cmpR op_in_seq pe_bl (pv 0) rfl)) (pe_and (pe_call0 FF (hr.mono (by decide)) rfl gF kF bF .nil pass0)
        (pe_and (pe_cmpR op_eq (pe_bm PySem.F.plainAttrs_list PySem.F.slot_list_count ty_count mt_bcount (pv 1) (pa_cons pe_bl pa_nil)) pe_int (nomark _)) (pe_one (pe_ix ix_list (pv 1) pe_int (fun _ _ => rfl)))))))))), ?_⟩
    refine q_parLL (xs := [.bl true]) (ys := []) (el_lst (ea_cons ev_c ea_nil) (by decide)) (el_lst ea_nil (by decide)) fun p q H1 e1 hp hq => ?_
    refine ⟨true, T.exmH, fun _ a na => ?_, fun z => nomatch z⟩
    refine s_asgL (ev_marks (f := fun _ => false) rfl T.exH T.kitH fun _ z => nomatch z) fun l H2 n2 e2 h2 => ?_
    refine q_call_empty (Wf := fun D => wAs _ _ 2 _ _ D) fun b x y H4 e5 hb hx0 => ?_
    refine ⟨b, x, .ref y, rfl, st_of hb, st_of hx0, fun d H5 hx => ⟨true, T.exm 12 (by decide), fun _ a2 na2 => ?_, fun z => nomatch z⟩⟩
    have e6 := exx_ex hx
    have E0 : Ex H2 H5 := e5.trans e6
    refine s_asgL (ev_marks (f := fun j => decide (j = 12)) rfl (T.ex 12 (by decide)) (fun j hj => T.kit 12 j (by decide) hj) (exx_at hx)) fun l2 H6 n6 e7 h6 => ?_
    have hl := e7 _ _ (E0 _ _ h2)
    refine s_ret (v := .bl true) (ev_is (ev_andV (a := true) (ev_is (ev_notV (a := false) (ev_is (ev_op ev_c (ev_var rfl) (rv_isL (sq_of hl) (by decide) (by decide))) (by decide))) rfl) fun _ => ev_andV (a := true) (b := true) (fun H7 e8 Q q => ⟨rfl, fun H8 e9 => q H8 e9⟩) fun _ =>
      ev_andV (a := true) (b := true) (ev_is (ev_op (x := .int 1) ?_ ev_c (rv_eq rfl)) (by decide)) fun _ => ev_op (ev_var rfl) ev_c (rv_ixL (sq_of h6) (by decide))) rfl) fun H7 e8 => k H7 (((e1.trans e2).trans E0).trans (e7.trans e8))
    exact fun H7 e8 Q q => ⟨_, rfl, .inl ⟨rfl, _, sq_of (e8 _ _ h6)⟩, l2, marksOf fun j => decide (j = 12), true, rfl, rfl, sq_of (e8 _ _ h6), q H7 (Ex.refl _)⟩
end
end Ox

namespace Ox
open PySem PySem.Spec PyProof.Rows L2 Evl L2H
abbrev s_law : Stmt := top 58
def spLaw (K : PySem.W.Frag) : Sp := fun vs H Q _ => ∃ (a : Addr) (ns : List Int), vs = [.ref a] ∧ SqL K H a (ns.map V.int) ∧ ∀ H', Q (.bl true) H'
theorem sc_law : FnScope ["script", "many", "spot", "way"] ["script"] (defScope s_law) := ⟨rfl, rfl, rfl, by decide +kernel, rfl, by decide +kernel, by decide +kernel⟩
theorem lay_ints : ∀ ns : List Int, PyData.canLayAll0 (ns.map PyData.int) = true ∧ PyData.depthAll (ns.map PyData.int) = 0
  | [] => by simp [PyData.canLayAll0, PyData.depthAll]
  | x :: r => by
    obtain ⟨h1, h2⟩ := lay_ints r
    simp [PyData.canLayAll0, PyData.depthAll, PyData.canLay0, PyData.depth, h1, h2]
theorem shaped_ints (ns : List Int) : SeqAt.shaped (.list (ns.map PyData.int)) = true := by
  obtain ⟨h1, h2⟩ := lay_ints ns
  show (PyData.canLay0 (.list (ns.map PyData.int)) && decide (PyData.depth (.list (ns.map PyData.int)) ≤ 64)) = true
  simp [PyData.canLay0, PyData.depth, h1, h2]
theorem dp_ints {K : PySem.W.Frag} {H : Hp} : ∀ ns : List Int, DpAll K H (ns.map V.int) (ns.map PyData.int)
  | [] => .nil
  | x :: r => .cons (.int x) (dp_ints r)
theorem eqv_ints0 (ns : List Int) : PyData.eqv (.list (ns.map PyData.int)) (.list []) = decide (ns = []) := by
  cases ns with
  | nil => rfl
  | cons x r => simp [PyData.eqv, PyData.eqvAll]
/-- the way that the script asks for first -/
def spotOf : List Int → Nat
  | [] => 0
  | x :: _ => (x % 24).toNat
theorem spot_lt (ns : List Int) : spotOf ns < 24 := by
  cases ns with
  | nil => decide
  | cons x r =>
    show (x % 24).toNat < 24
    omega
section
variable {w : World} {K : PySem.W.Frag} {mg : Str → Option Value} {base : Heap}
theorem ok_law {f fw fk : Addr} {fd fdw fdk : FuncData} (F : Fun K "law" "law" s_law f fd) (FW : FnOk PP w K mg base CX0 3 fw fdw ["way", "many"] spWay) (gW : mg "_law_way_right" = some (.ref fw)) (kW : PySem.W.keepIn K (.ref fw) = true) (bW : Binds K fdw ["way", "many"] [])
    (FK : FnOk PP w K mg base CX0 3 fk fdk [] spTrue) (gK : mg "_law_kept_right" = some (.ref fk)) (kK : PySem.W.keepIn K (.ref fk) = true) (bK : Binds K fdk [] []) (gI : mg "int" = none) (gR : mg "range" = none) : FnOk PP w K mg base CX0 4 f fd ["script"] (spLaw K) := by
  refine F.ok sc_law (fun vs H Q E h => ?_) (fun cdv B outer s H vs Q E hr h => ?_)
  · obtain ⟨_, _, rfl, _⟩ := h
    rfl
  · obtain ⟨a, ns, rfl, hs, k⟩ := h
    refine ⟨_, pss_cons (ps_set (i := 1) sc_law.nd rfl (Or.inr rfl) pe_int)
      (pss_cons (ps_set (i := 2) sc_law.nd rfl (Or.inl rfl) (pe_ifExp (pt_cmpR (op_neD (lt_units hr)) (pv 0) (pe_lst pa_nil) (nomark _)) (pe_op op_mod (pe_callTy call_int1 rfl gI PyProof.Rows.boot_int (pa_cons (pe_ix ix_list (pv 0) pe_int (fun _ _ => rfl)) pa_nil)) (pv 1)) pe_int))
      (pss_cons (ps_if (PW.pt (pw_or (pt_not (pt_val (pe_call FW hr rfl gW kW bW .nil pass0 (pa_cons (pv 2) (pa_cons (pv 1) pa_nil))))) (pw_or1 (pt_not (pt_val (pe_call0 FK hr rfl gK kK bK .nil pass0)))))) (pss_one (ps_ret pe_bl)) pss_nil)
      (pss_one (ps_ret (pe_cmpR (op_eqD (lt_units hr)) (pe_lc (own := [("way", 3)]) rfl sc_law.nd (pi_range1 rfl gR (pa_cons (pv 1) pa_nil)) (blkOk_by (N := ["script", "many", "spot", "way"]) (sc := defScope s_law) (by decide +kernel)) (fun _ _ _ _ _ => pg_name (i := 3) sc_law.nd rfl (Or.inl rfl))
        (fun _ _ _ _ _ => pts_one (pt_not (pt_val (pe_call FW hr rfl gW kW bW .nil pass0 (pa_cons (pv 3) (pa_cons (pv 1) pa_nil)))))) (fun _ _ _ _ _ => pv 3)) (pe_lst pa_nil) (nomark _)))))), ?_⟩
    refine q_asg (v := .int 24) ev_c fun H1 e1 => ?_
    have ts : EvT (tTest (tOp (rNeD K) (tVar 0) (tLst tNil))) [some (.ref a), some (.int 24), none, none] H1 (!decide (ns = [])) := et_test (ev_opL (ev_var rfl) (el_lst ea_nil (by decide)) fun p H2 hp e H3 e3 Q q =>
      ⟨_, _, .lst (ex_l ((e1.trans e).trans e3) hs) (dp_ints ns), .lst (sq_of (e3 _ _ hp)) .nil, shaped_ints ns, rfl, by rw [eqv_ints0]; exact q H3 (Ex.refl _)⟩)
    refine q_asg (v := .int (spotOf ns : Int)) (ev_if ts (fun hne => ?_) fun he => ?_) fun H2 e2 => ?_
    · cases ns with
      | nil => cases hne
      | cons x r =>
        refine ev_is (ev_op (ev_cb (z := .int x) (ea_cons (ev_op (ev_var rfl) ev_c (rv_ixL (ex_l e1 hs) (by simp [atI, ixN]))) ea_nil) fun H3 e3 Q q => .inl ⟨x, rfl, q H3 (Ex.refl _)⟩) (ev_var rfl) (rv_I (by decide))) ?_
        show V.int (x % 24) = V.int (((x % 24).toNat : Nat) : Int)
        rw [Int.toNat_of_nonneg (Int.emod_nonneg x (by decide))]
    · cases ns with
      | nil => exact ev_c
      | cons x r => simp at he
    have hw : ∀ (i : Nat) (j : Nat) (σ : L2.St) (H : Hp), i < 24 → σ[j]? = some (some (.int (i : Int))) → σ[1]? = some (some (.int 24)) → Ev (tCall spWay [] E0 (tCons (tVar j) (tCons (tVar 1) tNil))) σ H (.bl true) := fun i j σ H hi h1 h2 H3 e3 Q q =>
      ⟨_, h1, _, h2, i, hi, rfl, fun H' e => q H' e⟩
    refine q_when (b := false) (et_is (et_or (et_not (et_B (hw (spotOf ns) 2 _ H2 (spot_lt ns) rfl rfl))) fun _ => et_not (et_B (b := true) fun H3 e3 Q q => ⟨rfl, fun H' e => q H' e⟩)) rfl) (fun z => nomatch z) fun _ H3 e3 => ?_
    refine s_ret (v := .bl true) (ev_opLL (xs := []) (ys := []) ?_ (el_lst ea_nil (by decide)) fun p q H4 hp hq e H5 e5 Q z => ⟨.list [], .list [], .lst (sq_of (e5 _ _ hp)) .nil, .lst (sq_of (e5 _ _ hq)) .nil, rfl, rfl, z H5 (Ex.refl _)⟩) fun H4 e4 => k H4
    have lc := el_lcR1 (σ := [some (.ref a), some (.int 24), some (.int (spotOf ns : Int)), none]) (H := H3) (ta := tCons (tVar 1) tNil) (t := tNot (tB (tCall spWay [] E0 (tCons (tVar 3) (tCons (tVar 1) tNil))))) (te := tVar 3) (j := 3) (vs := [3]) (n := 24) (fun _ => false) (fun i => .int (i : Int)) (ea_cons (ev_var rfl) ea_nil) (by decide) (fun x => rfl)
      (fun i H4 e4 hi => et_is (et_not (et_B (hw i 3 _ H4 (by omega) rfl rfl))) rfl) (fun i H4 e4 hi z => nomatch z)
    have e0 : given (24 : Int).toNat (fun _ => false) (fun i => V.int (i : Int)) = [] := by
      unfold given
      simp
    rw [e0] at lc
    exact lc
end
end Ox

namespace Ox
open PySem PySem.Spec PySem.W PyProof.Rows L2 PySem.HandSPX
/-- a class as the top left it -/
def Raw (K : Frag) (mg : Str → Option Value) (x qual : Str) (st : Stmt) (C : Addr) (ps : List Str) : Prop := ∃ (fI cc cda : Addr) (oc kV doc pm ct : Value) (od an : Option Addr) (osl : Array (Option Value)), mg x = some (.ref C) ∧ ClF K C fI cda qual ps ∧ (Tops K mg → ExsTxt PP K C fI cc cda) ∧
  K.lookup fI = some ⟨oc, od, .func (ksFn "__init__" qual (defArgs st) (defBody st) (defScope st) .none kV doc pm an (.ref cda) ct cc), osl⟩
theorem raw_mk {K : Frag} {mg : Str → Option Value} {h : Heap} {x qual : Str} {st : Stmt} {ps : List Str} {C fI cc cda N : Addr} {oc kV doc pm ct cl ccl : Value} {od an dd cld cdd : Option Addr} {osl ccs csl : Array (Option Value)} {nm q : Str} {bs bm : List Value} {sn : List Str} {sub : List Value} {ab : Bool} {col : Option Bool} {m0 m1 m2 m3 m5 : Option Value} {vs : Array Value} {file : Str} {tf : Tok}
    (X : K.In h) (G : h.Ns mainGlobals mg) (a : nsIn K mainGlobals x = some (some (.ref C))) (xC : K.lookup C = some (excClassObj nm q C N bs bm true sn sub ab col dd m0 m1 m2 m3 m5 "ValueError.__new__")) (i : findIn K (.ref C) "__init__" = some (some (.ref fI)))
    (l : K.lookup fI = some ⟨oc, od, .func (ksFn "__init__" qual (defArgs st) (defBody st) (defScope st) .none kV doc pm an (.ref cda) ct cc), osl⟩) (lc : K.lookup cda = some ⟨ccl, cdd, .fields vs, ccs⟩) (ll : K.lookup cc = some ⟨cl, cld, .cell (some (.ref C)), csl⟩)
    (B : clB K C fI cda qual ps = true) (hb : refsVE bm = true) (hv : vs[2]? = some (.str file tf)) (hf : ((PP.main.file : Str) == file) = true) : Raw K mg x qual st C ps :=
  ⟨fI, cc, cda, oc, kV, doc, pm, ct, od, an, osl, mg_of X G a, clB_ok B, fun t => txt_mk t (clB_ok B) xC hb lc hv hf ll, l⟩
/-- a def as the top left it -/
def FunAt (K : Frag) (mg : Str → Option Value) (x : Str) (st : Stmt) (ps : List Str) (f : Addr) : Prop := ∃ fd, Fun K x x st f fd ∧ mg x = some (.ref f) ∧ Binds K fd ps []
theorem fun_at {K : Frag} {mg : Str → Option Value} {h : Heap} {x : Str} {st : Stmt} {ps : List Str} {f : Addr} {oc kV doc pm cdv ct : Value} {od an : Option Addr} {osl : Array (Option Value)} (X : K.In h) (G : h.Ns mainGlobals mg) (a : nsIn K mainGlobals x = some (some (.ref f)))
    (l : K.lookup f = some ⟨oc, od, .func (fnOf x x (defArgs st) (defBody st) (defScope st) .none kV doc pm an cdv ct), osl⟩) (c : codeIn K cdv x = true) (k : keepIn K (.ref f) = true)
    (b : ∀ (kV doc pm : Value) (an : Option Addr) (cdv ct : Value) (us : List Value), us.length = ps.length → bindArgs (fnOf x x (defArgs st) (defBody st) (defScope st) .none kV doc pm an cdv ct) ⟨us, []⟩ = pure (ps.zip us)) : FunAt K mg x st ps f :=
  ⟨_, fun_mk (st := st) l c k, mg_of X G a, (fun_mk (st := st) l c k).binds b⟩
def kitB (K : Frag) (HE : Addr) (cs : List Addr) : Bool :=
  (List.range 24).all (fun i => decide (exmOne K (.ref (cs.getD i 0)) (.ref HE) = some true) && (decide (kitOne K (.ref (cs.getD i 0)) (.type "ValueError") = some true) && (decide (kitOne K (.ref HE) (.ref (cs.getD i 0)) = some false) &&
    (List.range 24).all fun j => decide (kitOne K (.ref (cs.getD i 0)) (.ref (cs.getD j 0)) = some (decide (j = i)))))) && decide (exmOne K (.ref HE) (.ref HE) = some true)
structure KitF (K : Frag) (HE : Addr) (A : Nat → Addr) : Prop where
  exm : ∀ i, i < 24 → exmOne K (.ref (A i)) (.ref HE) = some true
  kve : ∀ i, i < 24 → kitOne K (.ref (A i)) (.type "ValueError") = some true
  kitH : ∀ i, i < 24 → kitOne K (.ref HE) (.ref (A i)) = some false
  kit : ∀ i j, i < 24 → j < 24 → kitOne K (.ref (A i)) (.ref (A j)) = some (decide (j = i))
  exmH : exmOne K (.ref HE) (.ref HE) = some true
theorem kitB_ok {K : Frag} {HE : Addr} {cs : List Addr} (h : kitB K HE cs = true) : KitF K HE fun i => cs.getD i 0 := by
  unfold kitB at h
  simp only [Bool.and_eq_true, List.all_eq_true, List.mem_range, decide_eq_true_eq] at h
  exact ⟨fun i hi => (h.1 i hi).1, fun i hi => (h.1 i hi).2.1, fun i hi => (h.1 i hi).2.2.1, fun i j hi hj => (h.1 i hi).2.2.2 j hj, h.2⟩
/-- HoldError -/
def hoB (K : Frag) (C : Addr) : Bool := xfB K C && (decide (findIn K (.ref C) "__class__" = some (some (.builtin "object.__class__"))) && (decide (mroIn K C (.type "object") = some true) && (excIn K C [.type "ValueError", .type "Exception", .type "BaseException", .type "object"] "ValueError.__new__" &&
  (keepIn K (.ref C) && decide (typeIn K (.ref C) = some (.type "type"))))))
structure HoF (K : Frag) (C : Addr) : Prop where
  xf : XfC K C
  ca : findIn K (.ref C) "__class__" = some (some (.builtin "object.__class__"))
  ob : mroIn K C (.type "object") = some true
  ex : excIn K C [.type "ValueError", .type "Exception", .type "BaseException", .type "object"] "ValueError.__new__" = true
  kp : keepIn K (.ref C) = true
  ty : typeIn K (.ref C) = some (.type "type")
theorem hoB_ok {K : Frag} {C : Addr} (h : hoB K C = true) : HoF K C := by
  unfold hoB at h
  simp only [Bool.and_eq_true, decide_eq_true_eq] at h
  obtain ⟨h1, h2, h3, h4, h5, h6⟩ := h
  exact ⟨xfB_ok h1, h2, h3, h4, h5, h6⟩
theorem fnok_mod {P : Program} {w : World} {K : Frag} {mg : Str → Option Value} {base : Heap} {CX : CXT} {k : Nat} {f : Addr} {fd : FuncData} {ps : List Str} {sp : Sp} (len : ∀ vs H Q E, sp vs H Q E → vs.length = ps.length) (h : L2.Mod K mg base → FnOk P w K mg base CX k f fd ps sp) : FnOk P w K mg base CX k f fd ps sp :=
  ⟨len, fun A outer s H args us vs Q E hr e0 hb hv hs => (h e0.mod).run A outer s H args us vs Q E hr e0 hb hv hs⟩
theorem r_BadBasket {w : World} {K : Frag} {mg : Str → Option Value} {base : Heap} {C : Addr} (t : Tops K mg) (M : L2.Mod K mg base) (r : Raw K mg "BadBasket" "BadBasket.__init__" (inClass (top 10) 0) C []) : Cl PP w K mg base "BadBasket" C [] := by
  obtain ⟨fI, cc, cda, oc, kV, doc, pm, ct, od, an, osl, g, B, T, l⟩ := r
  exact c_BadBasket t M g B (T t) l
theorem r_BadEvent {w : World} {K : Frag} {mg : Str → Option Value} {base : Heap} {C : Addr} (t : Tops K mg) (M : L2.Mod K mg base) (r : Raw K mg "BadEvent" "BadEvent.__init__" (inClass (top 17) 0) C ["index"]) : Cl PP w K mg base "BadEvent" C ["index"] := by
  obtain ⟨fI, cc, cda, oc, kV, doc, pm, ct, od, an, osl, g, B, T, l⟩ := r
  exact c_BadEvent t M g B (T t) l
theorem r_BadLength {w : World} {K : Frag} {mg : Str → Option Value} {base : Heap} {C : Addr} (t : Tops K mg) (M : L2.Mod K mg base) (r : Raw K mg "BadLength" "BadLength.__init__" (inClass (top 15) 0) C ["length"]) : Cl PP w K mg base "BadLength" C ["length"] := by
  obtain ⟨fI, cc, cda, oc, kV, doc, pm, ct, od, an, osl, g, B, T, l⟩ := r
  exact c_BadLength t M g B (T t) l
theorem r_BadLook {w : World} {K : Frag} {mg : Str → Option Value} {base : Heap} {C : Addr} (t : Tops K mg) (M : L2.Mod K mg base) (r : Raw K mg "BadLook" "BadLook.__init__" (inClass (top 25) 0) C ["name", "look"]) : Cl PP w K mg base "BadLook" C ["name", "look"] := by
  obtain ⟨fI, cc, cda, oc, kV, doc, pm, ct, od, an, osl, g, B, T, l⟩ := r
  exact c_BadLook t M g B (T t) l
theorem r_BadMost {w : World} {K : Frag} {mg : Str → Option Value} {base : Heap} {C : Addr} (t : Tops K mg) (M : L2.Mod K mg base) (r : Raw K mg "BadMost" "BadMost.__init__" (inClass (top 22) 0) C ["most"]) : Cl PP w K mg base "BadMost" C ["most"] := by
  obtain ⟨fI, cc, cda, oc, kV, doc, pm, ct, od, an, osl, g, B, T, l⟩ := r
  exact c_BadMost t M g B (T t) l
theorem r_BadPages {w : World} {K : Frag} {mg : Str → Option Value} {base : Heap} {C : Addr} (t : Tops K mg) (M : L2.Mod K mg base) (r : Raw K mg "BadPages" "BadPages.__init__" (inClass (top 21) 0) C ["pages"]) : Cl PP w K mg base "BadPages" C ["pages"] := by
  obtain ⟨fI, cc, cda, oc, kV, doc, pm, ct, od, an, osl, g, B, T, l⟩ := r
  exact c_BadPages t M g B (T t) l
theorem r_BadWords {w : World} {K : Frag} {mg : Str → Option Value} {base : Heap} {C : Addr} (t : Tops K mg) (M : L2.Mod K mg base) (r : Raw K mg "BadWords" "BadWords.__init__" (inClass (top 12) 0) C []) : Cl PP w K mg base "BadWords" C [] := by
  obtain ⟨fI, cc, cda, oc, kV, doc, pm, ct, od, an, osl, g, B, T, l⟩ := r
  exact c_BadWords t M g B (T t) l
theorem r_BadWorld {w : World} {K : Frag} {mg : Str → Option Value} {base : Heap} {C : Addr} (t : Tops K mg) (M : L2.Mod K mg base) (r : Raw K mg "BadWorld" "BadWorld.__init__" (inClass (top 6) 0) C ["world"]) : Cl PP w K mg base "BadWorld" C ["world"] := by
  obtain ⟨fI, cc, cda, oc, kV, doc, pm, ct, od, an, osl, g, B, T, l⟩ := r
  exact c_BadWorld t M g B (T t) l
theorem r_BadWrong {w : World} {K : Frag} {mg : Str → Option Value} {base : Heap} {C : Addr} (t : Tops K mg) (M : L2.Mod K mg base) (r : Raw K mg "BadWrong" "BadWrong.__init__" (inClass (top 5) 0) C ["index"]) : Cl PP w K mg base "BadWrong" C ["index"] := by
  obtain ⟨fI, cc, cda, oc, kV, doc, pm, ct, od, an, osl, g, B, T, l⟩ := r
  exact c_BadWrong t M g B (T t) l
theorem r_HasWrong {w : World} {K : Frag} {mg : Str → Option Value} {base : Heap} {C : Addr} (t : Tops K mg) (M : L2.Mod K mg base) (r : Raw K mg "HasWrong" "HasWrong.__init__" (inClass (top 23) 0) C ["wrong"]) : Cl PP w K mg base "HasWrong" C ["wrong"] := by
  obtain ⟨fI, cc, cda, oc, kV, doc, pm, ct, od, an, osl, g, B, T, l⟩ := r
  exact c_HasWrong t M g B (T t) l
theorem r_InvalidRow {w : World} {K : Frag} {mg : Str → Option Value} {base : Heap} {C : Addr} (t : Tops K mg) (M : L2.Mod K mg base) (r : Raw K mg "InvalidRow" "InvalidRow.__init__" (inClass (top 3) 0) C ["index", "part"]) : Cl PP w K mg base "InvalidRow" C ["index", "part"] := by
  obtain ⟨fI, cc, cda, oc, kV, doc, pm, ct, od, an, osl, g, B, T, l⟩ := r
  exact c_InvalidRow t M g B (T t) l
theorem r_InvalidSituation {w : World} {K : Frag} {mg : Str → Option Value} {base : Heap} {C : Addr} (t : Tops K mg) (M : L2.Mod K mg base) (r : Raw K mg "InvalidSituation" "InvalidSituation.__init__" (inClass (top 19) 0) C []) : Cl PP w K mg base "InvalidSituation" C [] := by
  obtain ⟨fI, cc, cda, oc, kV, doc, pm, ct, od, an, osl, g, B, T, l⟩ := r
  exact c_InvalidSituation t M g B (T t) l
theorem r_InvalidStates {w : World} {K : Frag} {mg : Str → Option Value} {base : Heap} {C : Addr} (t : Tops K mg) (M : L2.Mod K mg base) (r : Raw K mg "InvalidStates" "InvalidStates.__init__" (inClass (top 2) 0) C ["index"]) : Cl PP w K mg base "InvalidStates" C ["index"] := by
  obtain ⟨fI, cc, cda, oc, kV, doc, pm, ct, od, an, osl, g, B, T, l⟩ := r
  exact c_InvalidStates t M g B (T t) l
theorem r_InvalidText {w : World} {K : Frag} {mg : Str → Option Value} {base : Heap} {C : Addr} (t : Tops K mg) (M : L2.Mod K mg base) (r : Raw K mg "InvalidText" "InvalidText.__init__" (inClass (top 4) 0) C ["line"]) : Cl PP w K mg base "InvalidText" C ["line"] := by
  obtain ⟨fI, cc, cda, oc, kV, doc, pm, ct, od, an, osl, g, B, T, l⟩ := r
  exact c_InvalidText t M g B (T t) l
theorem r_NoAnswer {w : World} {K : Frag} {mg : Str → Option Value} {base : Heap} {C : Addr} (t : Tops K mg) (M : L2.Mod K mg base) (r : Raw K mg "NoAnswer" "NoAnswer.__init__" (inClass (top 14) 0) C ["letter"]) : Cl PP w K mg base "NoAnswer" C ["letter"] := by
  obtain ⟨fI, cc, cda, oc, kV, doc, pm, ct, od, an, osl, g, B, T, l⟩ := r
  exact c_NoAnswer t M g B (T t) l
theorem r_NoLetter {w : World} {K : Frag} {mg : Str → Option Value} {base : Heap} {C : Addr} (t : Tops K mg) (M : L2.Mod K mg base) (r : Raw K mg "NoLetter" "NoLetter.__init__" (inClass (top 13) 0) C ["letter"]) : Cl PP w K mg base "NoLetter" C ["letter"] := by
  obtain ⟨fI, cc, cda, oc, kV, doc, pm, ct, od, an, osl, g, B, T, l⟩ := r
  exact c_NoLetter t M g B (T t) l
theorem r_NoPage {w : World} {K : Frag} {mg : Str → Option Value} {base : Heap} {C : Addr} (t : Tops K mg) (M : L2.Mod K mg base) (r : Raw K mg "NoPage" "NoPage.__init__" (inClass (top 8) 0) C ["page"]) : Cl PP w K mg base "NoPage" C ["page"] := by
  obtain ⟨fI, cc, cda, oc, kV, doc, pm, ct, od, an, osl, g, B, T, l⟩ := r
  exact c_NoPage t M g B (T t) l
theorem r_NoRow {w : World} {K : Frag} {mg : Str → Option Value} {base : Heap} {C : Addr} (t : Tops K mg) (M : L2.Mod K mg base) (r : Raw K mg "NoRow" "NoRow.__init__" (inClass (top 9) 0) C ["name"]) : Cl PP w K mg base "NoRow" C ["name"] := by
  obtain ⟨fI, cc, cda, oc, kV, doc, pm, ct, od, an, osl, g, B, T, l⟩ := r
  exact c_NoRow t M g B (T t) l
theorem r_NoSeat {w : World} {K : Frag} {mg : Str → Option Value} {base : Heap} {C : Addr} (t : Tops K mg) (M : L2.Mod K mg base) (r : Raw K mg "NoSeat" "NoSeat.__init__" (inClass (top 7) 0) C ["seat"]) : Cl PP w K mg base "NoSeat" C ["seat"] := by
  obtain ⟨fI, cc, cda, oc, kV, doc, pm, ct, od, an, osl, g, B, T, l⟩ := r
  exact c_NoSeat t M g B (T t) l
theorem r_NotDone {w : World} {K : Frag} {mg : Str → Option Value} {base : Heap} {C : Addr} (t : Tops K mg) (M : L2.Mod K mg base) (r : Raw K mg "NotDone" "NotDone.__init__" (inClass (top 20) 0) C []) : Cl PP w K mg base "NotDone" C [] := by
  obtain ⟨fI, cc, cda, oc, kV, doc, pm, ct, od, an, osl, g, B, T, l⟩ := r
  exact c_NotDone t M g B (T t) l
theorem r_NotShown {w : World} {K : Frag} {mg : Str → Option Value} {base : Heap} {C : Addr} (t : Tops K mg) (M : L2.Mod K mg base) (r : Raw K mg "NotShown" "NotShown.__init__" (inClass (top 11) 0) C ["seat"]) : Cl PP w K mg base "NotShown" C ["seat"] := by
  obtain ⟨fI, cc, cda, oc, kV, doc, pm, ct, od, an, osl, g, B, T, l⟩ := r
  exact c_NotShown t M g B (T t) l
theorem r_NothingToUndo {w : World} {K : Frag} {mg : Str → Option Value} {base : Heap} {C : Addr} (t : Tops K mg) (M : L2.Mod K mg base) (r : Raw K mg "NothingToUndo" "NothingToUndo.__init__" (inClass (top 16) 0) C []) : Cl PP w K mg base "NothingToUndo" C [] := by
  obtain ⟨fI, cc, cda, oc, kV, doc, pm, ct, od, an, osl, g, B, T, l⟩ := r
  exact c_NothingToUndo t M g B (T t) l
theorem r_UnlikeStates {w : World} {K : Frag} {mg : Str → Option Value} {base : Heap} {C : Addr} (t : Tops K mg) (M : L2.Mod K mg base) (r : Raw K mg "UnlikeStates" "UnlikeStates.__init__" (inClass (top 24) 0) C []) : Cl PP w K mg base "UnlikeStates" C [] := by
  obtain ⟨fI, cc, cda, oc, kV, doc, pm, ct, od, an, osl, g, B, T, l⟩ := r
  exact c_UnlikeStates t M g B (T t) l
theorem r_WrongAhead {w : World} {K : Frag} {mg : Str → Option Value} {base : Heap} {C : Addr} (t : Tops K mg) (M : L2.Mod K mg base) (r : Raw K mg "WrongAhead" "WrongAhead.__init__" (inClass (top 18) 0) C ["wrong"]) : Cl PP w K mg base "WrongAhead" C ["wrong"] := by
  obtain ⟨fI, cc, cda, oc, kV, doc, pm, ct, od, an, osl, g, B, T, l⟩ := r
  exact c_WrongAhead t M g B (T t) l
theorem all_mk {w : World} {K : Frag} {mg : Str → Option Value} {h : Heap} {fa HE C0 C1 C2 C3 C4 C5 C6 C7 C8 C9 C10 C11 C12 C13 C14 C15 C16 C17 C18 C19 C20 C21 C22 C23 f32 f33 f52 f53 f54 f55 f56 f57 f58 : Addr} (X : K.In h) (G : h.Ns mainGlobals mg) (hfa : mg "law" = some (.ref fa))
    (r0 : Raw K mg "BadBasket" "BadBasket.__init__" (inClass (top 10) 0) C0 [])
    (r1 : Raw K mg "BadEvent" "BadEvent.__init__" (inClass (top 17) 0) C1 ["index"])
    (r2 : Raw K mg "BadLength" "BadLength.__init__" (inClass (top 15) 0) C2 ["length"])
    (r3 : Raw K mg "BadLook" "BadLook.__init__" (inClass (top 25) 0) C3 ["name", "look"])
    (r4 : Raw K mg "BadMost" "BadMost.__init__" (inClass (top 22) 0) C4 ["most"])
    (r5 : Raw K mg "BadPages" "BadPages.__init__" (inClass (top 21) 0) C5 ["pages"])
    (r6 : Raw K mg "BadWords" "BadWords.__init__" (inClass (top 12) 0) C6 [])
    (r7 : Raw K mg "BadWorld" "BadWorld.__init__" (inClass (top 6) 0) C7 ["world"])
    (r8 : Raw K mg "BadWrong" "BadWrong.__init__" (inClass (top 5) 0) C8 ["index"])
    (r9 : Raw K mg "HasWrong" "HasWrong.__init__" (inClass (top 23) 0) C9 ["wrong"])
    (r10 : Raw K mg "InvalidRow" "InvalidRow.__init__" (inClass (top 3) 0) C10 ["index", "part"])
    (r11 : Raw K mg "InvalidSituation" "InvalidSituation.__init__" (inClass (top 19) 0) C11 [])
    (r12 : Raw K mg "InvalidStates" "InvalidStates.__init__" (inClass (top 2) 0) C12 ["index"])
    (r13 : Raw K mg "InvalidText" "InvalidText.__init__" (inClass (top 4) 0) C13 ["line"])
    (r14 : Raw K mg "NoAnswer" "NoAnswer.__init__" (inClass (top 14) 0) C14 ["letter"])
    (r15 : Raw K mg "NoLetter" "NoLetter.__init__" (inClass (top 13) 0) C15 ["letter"])
    (r16 : Raw K mg "NoPage" "NoPage.__init__" (inClass (top 8) 0) C16 ["page"])
    (r17 : Raw K mg "NoRow" "NoRow.__init__" (inClass (top 9) 0) C17 ["name"])
    (r18 : Raw K mg "NoSeat" "NoSeat.__init__" (inClass (top 7) 0) C18 ["seat"])
    (r19 : Raw K mg "NotDone" "NotDone.__init__" (inClass (top 20) 0) C19 [])
    (r20 : Raw K mg "NotShown" "NotShown.__init__" (inClass (top 11) 0) C20 ["seat"])
    (r21 : Raw K mg "NothingToUndo" "NothingToUndo.__init__" (inClass (top 16) 0) C21 [])
    (r22 : Raw K mg "UnlikeStates" "UnlikeStates.__init__" (inClass (top 24) 0) C22 [])
    (r23 : Raw K mg "WrongAhead" "WrongAhead.__init__" (inClass (top 18) 0) C23 ["wrong"])
    (aH : nsIn K mainGlobals "HoldError" = some (some (.ref HE))) (bH : hoB K HE = true) (kB : kitB K HE [C0, C1, C2, C3, C4, C5, C6, C7, C8, C9, C10, C11, C12, C13, C14, C15, C16, C17, C18, C19, C20, C21, C22, C23] = true)
    (u32 : FunAt K mg "check_book" s_check ["book"] f32)
    (u33 : FunAt K mg "show_book" s_show ["book"] f33)
    (u52 : FunAt K mg "_law_raised_one" s_raised_one ["way"] f52)
    (u53 : FunAt K mg "_law_raised_more" s_raised_more ["way"] f53)
    (u54 : FunAt K mg "_law_marks" s_marks ["e"] f54)
    (u55 : FunAt K mg "_law_way_right" s_way ["way", "many"] f55)
    (u56 : FunAt K mg "_law_kept_right" s_kept [] f56)
    (u57 : FunAt K mg "_law_fields_right" s_fields [] f57)
    (u58 : FunAt K mg "law" s_law ["script"] f58)
    (opq : nsIn K cStatics "thirdparty.any" = some none) (hn : specialIn K (.builtin "object.__class__") "__get__" = some (some (.builtin "getset_descriptor.__get__"))) (ht : takesIn K (.builtin "object.__class__") = some true)
    (z1 : nsIn K mainGlobals "super" = some none) (z2 : nsIn K mainGlobals "ValueError" = some none) (z3 : nsIn K mainGlobals "isinstance" = some none) (z4 : nsIn K mainGlobals "len" = some none) (z5 : nsIn K mainGlobals "int" = some none) (z6 : nsIn K mainGlobals "range" = some none) :
    ∃ fd : FuncData, (∀ (s : Shared) (v : Value), BindsTo s fd ⟨[v], []⟩ [("script", v)]) ∧ ∀ base : Heap, K.In base → base.Ns mainGlobals mg → FnOk PP w K mg base CX0 4 fa fd ["script"] (spLaw K) := by
  obtain ⟨fd32, F32, g32, b32⟩ := u32
  obtain ⟨fd33, F33, g33, b33⟩ := u33
  obtain ⟨fd52, F52, g52, b52⟩ := u52
  obtain ⟨fd53, F53, g53, b53⟩ := u53
  obtain ⟨fd54, F54, g54, b54⟩ := u54
  obtain ⟨fd55, F55, g55, b55⟩ := u55
  obtain ⟨fd56, F56, g56, b56⟩ := u56
  obtain ⟨fd57, F57, g57, b57⟩ := u57
  obtain ⟨fd58, F58, g58, b58⟩ := u58
  have e := hfa.symm.trans g58
  cases e
  have t : Tops K mg := ⟨opq, hn, ht, mg_none_of X G z1⟩
  have H1 := hoB_ok bH
  have H2 := kitB_ok kB
  obtain ⟨oc, od, kV, doc, pm, an, cdv, ct, osl, efd, lk, hcd⟩ := id F58.ex
  refine ⟨fd58, fun s v => ?_, fun base kb gb => fnok_mod (fun vs H Q E z => ?_) fun M => ?_⟩
  · rw [efd]
    exact .of_eq rfl
  · obtain ⟨_, _, rfl, _⟩ := z
    rfl
  · have T : AllC w K mg base (fun i => [C0, C1, C2, C3, C4, C5, C6, C7, C8, C9, C10, C11, C12, C13, C14, C15, C16, C17, C18, C19, C20, C21, C22, C23].getD i 0) :=
      ⟨r_BadBasket t M r0, r_BadEvent t M r1, r_BadLength t M r2, r_BadLook t M r3, r_BadMost t M r4, r_BadPages t M r5, r_BadWords t M r6, r_BadWorld t M r7, r_BadWrong t M r8, r_HasWrong t M r9, r_InvalidRow t M r10, r_InvalidSituation t M r11, r_InvalidStates t M r12, r_InvalidText t M r13, r_NoAnswer t M r14, r_NoLetter t M r15, r_NoPage t M r16, r_NoRow t M r17, r_NoSeat t M r18, r_NotDone t M r19, r_NotShown t M r20, r_NothingToUndo t M r21, r_UnlikeStates t M r22, r_WrongAhead t M r23⟩
    have TK : KitC K mg (fun i => [C0, C1, C2, C3, C4, C5, C6, C7, C8, C9, C10, C11, C12, C13, C14, C15, C16, C17, C18, C19, C20, C21, C22, C23].getD i 0) HE := {
      g := mg_of X G aH
      ex := fun i hi => by
        match i, hi with
        | 0, _ => exact T.c0.ex
        | 1, _ => exact T.c1.ex
        | 2, _ => exact T.c2.ex
        | 3, _ => exact T.c3.ex
        | 4, _ => exact T.c4.ex
        | 5, _ => exact T.c5.ex
        | 6, _ => exact T.c6.ex
        | 7, _ => exact T.c7.ex
        | 8, _ => exact T.c8.ex
        | 9, _ => exact T.c9.ex
        | 10, _ => exact T.c10.ex
        | 11, _ => exact T.c11.ex
        | 12, _ => exact T.c12.ex
        | 13, _ => exact T.c13.ex
        | 14, _ => exact T.c14.ex
        | 15, _ => exact T.c15.ex
        | 16, _ => exact T.c16.ex
        | 17, _ => exact T.c17.ex
        | 18, _ => exact T.c18.ex
        | 19, _ => exact T.c19.ex
        | 20, _ => exact T.c20.ex
        | 21, _ => exact T.c21.ex
        | 22, _ => exact T.c22.ex
        | 23, _ => exact T.c23.ex
        | n + 24, h => exact absurd h (by omega)
      exm := H2.exm
      kit := H2.kit
      kve := H2.kve
      exH := ⟨H1.xf.ga, H1.xf.gg, H1.xf.exC, H1.xf.hdC, H1.ca, hn, ht, H1.ob⟩
      exmH := H2.exmH
      kitH := H2.kitH
      ve := mg_none_of X G z2
      ist := mg_none_of X G z3
      len := mg_none_of X G z4 }
    have K53 := ok_raised_more (w := w) (base := base) F53 T
    have K52 := ok_raised_one F52 T K53 g53 F53.kp b53
    have K54 := ok_marks (w := w) (base := base) F54 T TK.ist
    have K55 := ok_way F55 TK K52 g52 F52.kp b52 K54 g54 F54.kp b54
    have K57 := ok_fields (w := w) (base := base) F57 T
    have K32 := ok_check (w := w) (base := base) F32 T
    have K33 := ok_show F33 K32 g32 F32.kp b32
    have K56 := ok_kept F56 TK H1.ex H1.kp H1.xf.exC H1.ty K33 g33 F33.kp b33 K54 g54 F54.kp b54 K57 g57 F57.kp b57
    exact ok_law F58 K55 g55 F55.kp b55 K56 g56 F56.kp b56 (mg_none_of X G z5) (mg_none_of X G z6)
end Ox

open PySem PySem.W PyProof.Rows
set_option maxRecDepth 100000 in
set_option maxHeartbeats 0 in
theorem PySem.Challenge.cw_onehold_k00_error_classes_holds : PySem.Challenge.rw_onehold_k00_error_classes.Holds := by
  w_on; o_law; k_head; (case hw => w_witness2)
  k_fill
  refine L2.walk_ofB (l := PySem.Challenge.rw_onehold_k00_error_classes) (n := 63) (k := 4) (x := "script") (CX := fun _ => L2.CX0) (sp := fun w => Ox.spLaw _) rfl (by decide) rfl ⟨rfl, by decide, by decide⟩ (fun w h Y => PySem.W.kIn_of Y) ?F (fun _ _ a ns _ _ _ hS => ⟨a, ns, rfl, hS, fun _ => rfl⟩) (fun _ _ _ _ _ z => z)
  case F =>
    intro w mg fa h KX G hmg
    refine' Ox.all_mk KX G hmg ?r0 ?r1 ?r2 ?r3 ?r4 ?r5 ?r6 ?r7 ?r8 ?r9 ?r10 ?r11 ?r12 ?r13 ?r14 ?r15 ?r16 ?r17 ?r18 ?r19 ?r20 ?r21 ?r22 ?r23 ?aH ?bH ?kB ?u32 ?u33 ?u52 ?u53 ?u54 ?u55 ?u56 ?u57 ?u58 ?opq ?hn ?ht ?z1 ?z2 ?z3 ?z4 ?z5 ?z6
    (case r0 => refine' Ox.raw_mk KX G ?a ?x ?i ?l ?c ?ll ?B ?hb ?hv ?hf; (case a => k_is); (case x => k_is); (case i => k_is); (case l => k_is); (case c => k_is); (case ll => k_is); (case B => kernel_rfl); (case hb => decide +kernel); (case hv => rfl); (case hf => decide +kernel))
    (case r1 => refine' Ox.raw_mk KX G ?a ?x ?i ?l ?c ?ll ?B ?hb ?hv ?hf; (case a => k_is); (case x => k_is); (case i => k_is); (case l => k_is); (case c => k_is); (case ll => k_is); (case B => kernel_rfl); (case hb => decide +kernel); (case hv => rfl); (case hf => decide +kernel))
    (case r2 => refine' Ox.raw_mk KX G ?a ?x ?i ?l ?c ?ll ?B ?hb ?hv ?hf; (case a => k_is); (case x => k_is); (case i => k_is); (case l => k_is); (case c => k_is); (case ll => k_is); (case B => kernel_rfl); (case hb => decide +kernel); (case hv => rfl); (case hf => decide +kernel))
    (case r3 => refine' Ox.raw_mk KX G ?a ?x ?i ?l ?c ?ll ?B ?hb ?hv ?hf; (case a => k_is); (case x => k_is); (case i => k_is); (case l => k_is); (case c => k_is); (case ll => k_is); (case B => kernel_rfl); (case hb => decide +kernel); (case hv => rfl); (case hf => decide +kernel))
    (case r4 => refine' Ox.raw_mk KX G ?a ?x ?i ?l ?c ?ll ?B ?hb ?hv ?hf; (case a => k_is); (case x => k_is); (case i => k_is); (case l => k_is); (case c => k_is); (case ll => k_is); (case B => kernel_rfl); (case hb => decide +kernel); (case hv => rfl); (case hf => decide +kernel))
    (case r5 => refine' Ox.raw_mk KX G ?a ?x ?i ?l ?c ?ll ?B ?hb ?hv ?hf; (case a => k_is); (case x => k_is); (case i => k_is); (case l => k_is); (case c => k_is); (case ll => k_is); (case B => kernel_rfl); (case hb => decide +kernel); (case hv => rfl); (case hf => decide +kernel))
    (case r6 => refine' Ox.raw_mk KX G ?a ?x ?i ?l ?c ?ll ?B ?hb ?hv ?hf; (case a => k_is); (case x => k_is); (case i => k_is); (case l => k_is); (case c => k_is); (case ll => k_is); (case B => kernel_rfl); (case hb => decide +kernel); (case hv => rfl); (case hf => decide +kernel))
    (case r7 => refine' Ox.raw_mk KX G ?a ?x ?i ?l ?c ?ll ?B ?hb ?hv ?hf; (case a => k_is); (case x => k_is); (case i => k_is); (case l => k_is); (case c => k_is); (case ll => k_is); (case B => kernel_rfl); (case hb => decide +kernel); (case hv => rfl); (case hf => decide +kernel))
    (case r8 => refine' Ox.raw_mk KX G ?a ?x ?i ?l ?c ?ll ?B ?hb ?hv ?hf; (case a => k_is); (case x => k_is); (case i => k_is); (case l => k_is); (case c => k_is); (case ll => k_is); (case B => kernel_rfl); (case hb => decide +kernel); (case hv => rfl); (case hf => decide +kernel))
    (case r9 => refine' Ox.raw_mk KX G ?a ?x ?i ?l ?c ?ll ?B ?hb ?hv ?hf; (case a => k_is); (case x => k_is); (case i => k_is); (case l => k_is); (case c => k_is); (case ll => k_is); (case B => kernel_rfl); (case hb => decide +kernel); (case hv => rfl); (case hf => decide +kernel))
    (case r10 => refine' Ox.raw_mk KX G ?a ?x ?i ?l ?c ?ll ?B ?hb ?hv ?hf; (case a => k_is); (case x => k_is); (case i => k_is); (case l => k_is); (case c => k_is); (case ll => k_is); (case B => kernel_rfl); (case hb => decide +kernel); (case hv => rfl); (case hf => decide +kernel))
    (case r11 => refine' Ox.raw_mk KX G ?a ?x ?i ?l ?c ?ll ?B ?hb ?hv ?hf; (case a => k_is); (case x => k_is); (case i => k_is); (case l => k_is); (case c => k_is); (case ll => k_is); (case B => kernel_rfl); (case hb => decide +kernel); (case hv => rfl); (case hf => decide +kernel))
    (case r12 => refine' Ox.raw_mk KX G ?a ?x ?i ?l ?c ?ll ?B ?hb ?hv ?hf; (case a => k_is); (case x => k_is); (case i => k_is); (case l => k_is); (case c => k_is); (case ll => k_is); (case B => kernel_rfl); (case hb => decide +kernel); (case hv => rfl); (case hf => decide +kernel))
    (case r13 => refine' Ox.raw_mk KX G ?a ?x ?i ?l ?c ?ll ?B ?hb ?hv ?hf; (case a => k_is); (case x => k_is); (case i => k_is); (case l => k_is); (case c => k_is); (case ll => k_is); (case B => kernel_rfl); (case hb => decide +kernel); (case hv => rfl); (case hf => decide +kernel))
    (case r14 => refine' Ox.raw_mk KX G ?a ?x ?i ?l ?c ?ll ?B ?hb ?hv ?hf; (case a => k_is); (case x => k_is); (case i => k_is); (case l => k_is); (case c => k_is); (case ll => k_is); (case B => kernel_rfl); (case hb => decide +kernel); (case hv => rfl); (case hf => decide +kernel))
    (case r15 => refine' Ox.raw_mk KX G ?a ?x ?i ?l ?c ?ll ?B ?hb ?hv ?hf; (case a => k_is); (case x => k_is); (case i => k_is); (case l => k_is); (case c => k_is); (case ll => k_is); (case B => kernel_rfl); (case hb => decide +kernel); (case hv => rfl); (case hf => decide +kernel))
    (case r16 => refine' Ox.raw_mk KX G ?a ?x ?i ?l ?c ?ll ?B ?hb ?hv ?hf; (case a => k_is); (case x => k_is); (case i => k_is); (case l => k_is); (case c => k_is); (case ll => k_is); (case B => kernel_rfl); (case hb => decide +kernel); (case hv => rfl); (case hf => decide +kernel))
    (case r17 => refine' Ox.raw_mk KX G ?a ?x ?i ?l ?c ?ll ?B ?hb ?hv ?hf; (case a => k_is); (case x => k_is); (case i => k_is); (case l => k_is); (case c => k_is); (case ll => k_is); (case B => kernel_rfl); (case hb => decide +kernel); (case hv => rfl); (case hf => decide +kernel))
    (case r18 => refine' Ox.raw_mk KX G ?a ?x ?i ?l ?c ?ll ?B ?hb ?hv ?hf; (case a => k_is); (case x => k_is); (case i => k_is); (case l => k_is); (case c => k_is); (case ll => k_is); (case B => kernel_rfl); (case hb => decide +kernel); (case hv => rfl); (case hf => decide +kernel))
    (case r19 => refine' Ox.raw_mk KX G ?a ?x ?i ?l ?c ?ll ?B ?hb ?hv ?hf; (case a => k_is); (case x => k_is); (case i => k_is); (case l => k_is); (case c => k_is); (case ll => k_is); (case B => kernel_rfl); (case hb => decide +kernel); (case hv => rfl); (case hf => decide +kernel))
    (case r20 => refine' Ox.raw_mk KX G ?a ?x ?i ?l ?c ?ll ?B ?hb ?hv ?hf; (case a => k_is); (case x => k_is); (case i => k_is); (case l => k_is); (case c => k_is); (case ll => k_is); (case B => kernel_rfl); (case hb => decide +kernel); (case hv => rfl); (case hf => decide +kernel))
    (case r21 => refine' Ox.raw_mk KX G ?a ?x ?i ?l ?c ?ll ?B ?hb ?hv ?hf; (case a => k_is); (case x => k_is); (case i => k_is); (case l => k_is); (case c => k_is); (case ll => k_is); (case B => kernel_rfl); (case hb => decide +kernel); (case hv => rfl); (case hf => decide +kernel))
    (case r22 => refine' Ox.raw_mk KX G ?a ?x ?i ?l ?c ?ll ?B ?hb ?hv ?hf; (case a => k_is); (case x => k_is); (case i => k_is); (case l => k_is); (case c => k_is); (case ll => k_is); (case B => kernel_rfl); (case hb => decide +kernel); (case hv => rfl); (case hf => decide +kernel))
    (case r23 => refine' Ox.raw_mk KX G ?a ?x ?i ?l ?c ?ll ?B ?hb ?hv ?hf; (case a => k_is); (case x => k_is); (case i => k_is); (case l => k_is); (case c => k_is); (case ll => k_is); (case B => kernel_rfl); (case hb => decide +kernel); (case hv => rfl); (case hf => decide +kernel))
    (case aH => k_is)
    (case u32 => refine' Ox.fun_at KX G ?a ?l ?c ?k ?b; (case a => k_is); (case l => k_is); (case c => k_is); (case k => k_is); (case b => exact fun _ _ _ _ _ _ us hl => match us, hl with | [_], _ => rfl))
    (case u33 => refine' Ox.fun_at KX G ?a ?l ?c ?k ?b; (case a => k_is); (case l => k_is); (case c => k_is); (case k => k_is); (case b => exact fun _ _ _ _ _ _ us hl => match us, hl with | [_], _ => rfl))
    (case u52 => refine' Ox.fun_at KX G ?a ?l ?c ?k ?b; (case a => k_is); (case l => k_is); (case c => k_is); (case k => k_is); (case b => exact fun _ _ _ _ _ _ us hl => match us, hl with | [_], _ => rfl))
    (case u53 => refine' Ox.fun_at KX G ?a ?l ?c ?k ?b; (case a => k_is); (case l => k_is); (case c => k_is); (case k => k_is); (case b => exact fun _ _ _ _ _ _ us hl => match us, hl with | [_], _ => rfl))
    (case u54 => refine' Ox.fun_at KX G ?a ?l ?c ?k ?b; (case a => k_is); (case l => k_is); (case c => k_is); (case k => k_is); (case b => exact fun _ _ _ _ _ _ us hl => match us, hl with | [_], _ => rfl))
    (case u55 => refine' Ox.fun_at KX G ?a ?l ?c ?k ?b; (case a => k_is); (case l => k_is); (case c => k_is); (case k => k_is); (case b => exact fun _ _ _ _ _ _ us hl => match us, hl with | [_, _], _ => rfl))
    (case u56 => refine' Ox.fun_at KX G ?a ?l ?c ?k ?b; (case a => k_is); (case l => k_is); (case c => k_is); (case k => k_is); (case b => exact fun _ _ _ _ _ _ us hl => match us, hl with | [], _ => rfl))
    (case u57 => refine' Ox.fun_at KX G ?a ?l ?c ?k ?b; (case a => k_is); (case l => k_is); (case c => k_is); (case k => k_is); (case b => exact fun _ _ _ _ _ _ us hl => match us, hl with | [], _ => rfl))
    (case u58 => refine' Ox.fun_at KX G ?a ?l ?c ?k ?b; (case a => k_is); (case l => k_is); (case c => k_is); (case k => k_is); (case b => exact fun _ _ _ _ _ _ us hl => match us, hl with | [_], _ => rfl))
    (case opq => k_is)
    (case hn => k_is)
    (case ht => k_is)
    (case z1 => k_is)
    (case z2 => k_is)
    (case z3 => k_is)
    (case z4 => k_is)
    (case z5 => k_is)
    (case z6 => k_is)
    (case bH => kernel_rfl)
    (case kB => kernel_rfl)
