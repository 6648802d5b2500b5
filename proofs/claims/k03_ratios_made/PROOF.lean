import PyProof.Rows.All
import Wide.All
import OpenK.AllK
import Wide.FinOn
import KE.KStateDown
import HandS.ForMost
import HandS.WordsExc
import HandS.Defaults
import HandS.MakeKwOnly
import HandS.IsInst
import HandS.StrMore
import HandS.Wide
import HandS.Walk
import HandS.Evl
import HandS.Head0
import HandS.Head1
import HandS.Head2
import HandS.HeadEnd
import HandS.HeadHook1
import HandS.HeadHook2
import HandS.Gcd
import HandS.FStr
import HandS.OwnEq
import HandS.Small
import HandS.Head3
import PySem.Challenge.RW_resampler_k03_ratios_made
import KE.KExcSuper
import HandS.ForExc
import HandS.HeadWalk
import HandS.ExcField
import HandS.TryMany
import HandS.Ends
import PyProof.ReprRoads
import PyProof.CallFns
import KE.KCallOwn
import KE.KFmtOwn
import PyProof.InstNe
import PyProof.ReprLen
set_option Elab.async false
set_option linter.all false
set_option maxRecDepth 100000
set_option maxHeartbeats 0
/-! An own error class (over own error classes over ValueError) whose __init__ says super().__init__(a text) and then self.FLD = FLD. -/
namespace PySem
namespace EXV
open PySem.W PySem.Calls PyProof.Rows PySem.HandSPX
/-- the text of such an __init__ -/
def xBody (fld txt : Str) (k : Nat) (p : Nat → Pos) : List Stmt :=
  [.Expr (.Call (.Attribute (.Call (.Name "super" (p 0)) [] [] (p 1)) "__init__" (p 2)) [.Constant (.str txt) k (p 3)] [] (p 4)) (p 5),
   .Assign [.Attribute (.Name "self" (p 6)) fld (p 7)] (.Name fld (p 8)) (p 9)]
def xArgs (fld : Str) (p1 p2 : Pos) : Arguments := { posonlyargs := [], args := [{ arg := "self", annotation := none, pos := p1 }, { arg := fld, annotation := none, pos := p2 }], vararg := none, kwonlyargs := [], kw_defaults := [], kwarg := none, defaults := [] }
def xScope (fld : Str) : Scope := { kind := .function, names := [(PySem.Str.ofString "self", .local), (fld, .local), (PySem.Str.ofString "__class__", .free), (PySem.Str.ofString "super", .globalImplicit)], isGenerator := false, isCoroutine := false }
/-- what the written part says of the class at C and its __init__ at fI -/
structure ExcTxt (P : Program) (K : Frag) (mg : Str → Option Value) (x q fld : Str) (C fI : Addr) : Prop where
  gC : mg x = some (.ref C)
  cls : ∃ nm q N bs bm sn sub ab col dd k0 k1 k2 k3 k5, K.lookup C = some (excClassObj nm q C N bs bm true sn sub ab col dd k0 k1 k2 k3 k5 "ValueError.__new__") ∧ refsVE bm = true
  sa : findIn K (.ref C) "__setattr__" = some (some (.builtin "object.__setattr__"))
  ga : findIn K (.ref C) "__getattribute__" = some (some (.builtin "BaseException.__getattribute__"))
  gg : findIn K (.ref C) "__getattr__" = some none
  noN : findIn K (.ref C) fld = some none
  iC : findIn K (.ref C) "__init__" = some (some (.ref fI))
  tC : typeIn K (.ref fI) = some (.type "function")
  kC : keepIn K (.ref C) = true
  exC : subIn K (.ref C) (.type "BaseException") = some true
  veC : subIn K (.ref C) (.type "ValueError") = some true
  tyC : typeIn K (.ref C) = some (.type "type")
  hdC : hasDictIn K C = true
  sup : ks_superIn K C C "__init__" = some (some (.builtin "ValueError.__init__"))
  ini : excInitIn K C [.type "ValueError", .type "Exception", .type "BaseException", .type "object"] "ValueError.__new__" = true
  self : mroIn K C (.ref C) = some true
  third : nsIn K cStatics "thirdparty.any" = some none
  noS : nsIn K mainGlobals "super" = some none
  fn : ∃ (oc : Value) (od : Option Addr) (doc pm : Value) (an : Option Addr) (cda : Addr) (ct : Value) (osl : Array (Option Value)) (cc : Addr) (txt : Str) (k : Nat) (p : Nat → Pos) (p1 p2 : Pos),
    K.lookup fI = some ⟨oc, od, .func (ksFn "__init__" q (xArgs fld p1 p2) (xBody fld txt k p) (xScope fld) .none .none doc pm an (.ref cda) ct cc), osl⟩ ∧ codeIn K (.ref cda) q = true ∧
    (∃ ccl cdd vs ccs file tf, K.lookup cda = some ⟨ccl, cdd, .fields vs, ccs⟩ ∧ vs[2]? = some (.str file tf) ∧ ((P.main.file : Str) == file) = true) ∧
    ((p 2).endLine == (p 4).line) = true ∧
    (∃ cl cld csl, K.lookup cc = some ⟨cl, cld, .cell (some (.ref C)), csl⟩) ∧
    (∀ a b : Value, bindArgs (ksFn "__init__" q (xArgs fld p1 p2) (xBody fld txt k p) (xScope fld) .none .none doc pm an (.ref cda) ct cc) ⟨[a, b], []⟩ = pure [(("self" : Str), a), (fld, b)])
  fldOk : (fld == ("self" : Str)) = false ∧ (("self" : Str) == fld) = false ∧ (fld == ("__class__" : Str)) = false ∧ (("__class__" : Str) == fld) = false ∧ (fld == ("super" : Str)) = false ∧ (("super" : Str) == fld) = false ∧ (fld == ("__debug__" : Str)) = false
  topS : (P.main.scope.names.lookup ("super" : Str)).isSome = false
/-- what __init__ leaves of a fresh exception at x -/
structure XEnd (h h' : Heap) (x C dx : Addr) (fld : Str) (v : Value) : Prop where
  keep : ∀ b o, b ≠ x → h.get? b = some o → h'.get? b = some o
  obj : ∃ t1, h'.get? x = some { cls := .ref C, dict := some dx, data := .fields #[.ref t1, .none, .none, .none, .bool false, .none] }
  dbig : h.objs.size ≤ dx
  dne : dx ≠ x
  ns : h'.Ns1 dx (fun y => if y = fld then some v else none)
/-- a made exception -/
structure XMade (h h' : Heap) (e C d : Addr) (fld : Str) (v : Value) : Prop where
  keep : ∀ b o, h.get? b = some o → h'.get? b = some o
  new : h.objs.size ≤ e
  obj : ∃ oe vs, h'.get? e = some oe ∧ oe.cls = .ref C ∧ oe.dict = some d ∧ oe.data = .fields vs ∧ vs[1]? = some .none
  dbig : h.objs.size ≤ d
  dne : d ≠ e
  ns : h'.Ns1 d (fun y => if y = fld then some v else none)
theorem one_le_line (v : Value) : [v].length ≤ sizeLine := by
  rw [sizeLine_eq]
  exact (by decide : 1 ≤ 16777216)
section
variable {prog : Program} {w : World} {A : Around} {R : Result → Shared → Prop} {s : Shared} {K : Frag} {mg : Str → Option Value} {C fI : Addr} {nx q fld : Str}
theorem x_init (T : ExcTxt prog K mg nx q fld C fI) {x t0 : Addr} {v : Value} {mb : Str → Option Value} (X : K.In s.heap) (G : s.heap.Ns mainGlobals mg) (Gb : s.heap.Ns builtinsNs mb) (hb : ∀ y : Str, y ≠ "__name__" → mb y = bootBuiltins y) (hlim : s.heap.NoLimit)
    (hx : s.heap.get? x = some (excO C t0)) (hnx : K.lookup x = none) (hroom : A.depth < recursionLimit)
    (hq : ∀ h' tk dx, XEnd s.heap h' x C dx fld v → R (.ok (.ret .none)) { s with heap := h', toks := tk }) :
    codeAny (model prog w) A (.call (.ref fI) ⟨[.ref x, v], []⟩) R s := by
  obtain ⟨oc, od, doc, pm, an, cda, ct, osl, cc, txt, k, p, p1, p2, ho, hcd, ⟨ccl, cdd, vs, ccs, file, tf, hcode, hvs, hfile⟩, hline, ⟨cl, cld, csl, hcell⟩, hbd⟩ := T.fn
  obtain ⟨nm, qq, N, bs, bm, sn, sub, ab, col, dd, k0, k1, k2, k3, k5, hC, hbm⟩ := T.cls
  have hcl : clsIn K C = some { name := nm, bases := bs, mro := .ref C :: bm, ns := N, qualname := qq, hasDict := true, slotNames := sn, subclasses := sub, abstract := ab, collection := col, hasDel := false } := by unfold clsIn; rw [hC] <;> rfl
  obtain ⟨f1, f2, f3, f4, f5, f6, f7⟩ := T.fldOk
  have l1 : (xScope fld).names.lookup ("self" : Str) = some .local := rfl
  have l2 : (xScope fld).names.lookup fld = some .local := by simp [xScope, List.lookup, f1]
  have l3 : (xScope fld).names.lookup ("__class__" : Str) = some .free := by
    have g0 : (PySem.Str.ofString "__class__" == PySem.Str.ofString "self") = false := by decide +kernel
    simp [xScope, List.lookup, f4, g0]
  have l4 : (xScope fld).names.lookup ("super" : Str) = some .globalImplicit := by
    have g0 : (PySem.Str.ofString "super" == PySem.Str.ofString "self") = false := by decide +kernel
    have g1 : (PySem.Str.ofString "super" == PySem.Str.ofString "__class__") = false := by decide +kernel
    simp [xScope, List.lookup, f6, g0, g1]
  have hloc : ∀ y ∈ [(("self" : Str), Value.ref x), (fld, v)], (xScope fld).names.lookup y.1 = some .local := by
    intro y hy
    rcases List.mem_cons.mp hy with rfl | hy
    · exact l1
    · rcases List.mem_cons.mp hy with rfl | hy
      · exact l2
      · cases hy
  refine ks_codeAny_call_defAt (fd := ksFn "__init__" q (xArgs fld p1 p2) (xBody fld txt k p) (xScope fld) .none .none doc pm an (.ref cda) ct cc) (body := xBody fld txt k p) (binds := [("self", .ref x), (fld, v)])
    hroom (X _ _ ho) rfl hlim (codeRec_of X hcd) rfl (BindsTo.of_eq (hbd _ _)) ?_ hloc (fun h₁ hns hk₁ => ?_)
  · intro y hy
    have hy' : y ∈ [(PySem.Str.ofString "self", NameKind.local), (fld, .local), (PySem.Str.ofString "__class__", .free), (PySem.Str.ofString "super", .globalImplicit)] := hy
    simp only [List.mem_cons, List.not_mem_nil, or_false] at hy'
    rcases hy' with rfl | rfl | rfl | rfl <;> exact (fun z => nomatch z)
  · have X₁ : K.In h₁ := X.keeps hk₁
    have hx₁ := hk₁ _ _ hx
    have xC : x ≠ C := fun z => by rw [z, hC] at hnx; cases hnx
    have mself : (fun z => List.lookup z [(PySem.Str.ofString "self", Value.ref x), (fld, v)].reverse) ("self" : Str) = some (.ref x) := by
      show List.lookup ("self" : Str) [(fld, v), (PySem.Str.ofString "self", Value.ref x)] = _
      simp [List.lookup, f2]
    have mfld : (fun z => List.lookup z [(PySem.Str.ofString "self", Value.ref x), (fld, v)].reverse) fld = some v := by
      show List.lookup fld [(fld, v), (PySem.Str.ofString "self", Value.ref x)] = _
      simp [List.lookup]
    have F : Fr s.heap s.heap.objs.size h₁ (fun z => List.lookup z [(PySem.Str.ofString "self", Value.ref x), (fld, v)].reverse) := ⟨hns, hk₁, Nat.le_refl _⟩
    show _root_.PySem.wpAt _ _ (.func (xBody fld txt k p) (ksEnv q (xScope fld) s.heap.objs.size fI (.ref cda) cc)) (execs _ (ksEnv q (xScope fld) s.heap.objs.size fI (.ref cda) cc)) _ _ _
    have he : eval (.Call (.Attribute (.Call (.Name "super" (p 0)) [] [] (p 1)) "__init__" (p 2)) [.Constant (.str txt) k (p 3)] [] (p 4)) (ksEnv q (xScope fld) s.heap.objs.size fI (.ref cda) cc) = (do
        let ov ← attributeBase (.Call (.Name "super" (p 0)) [] [] (p 1)) "__init__" (ksEnv q (xScope fld) s.heap.objs.size fI (.ref cda) cc) (eval (.Call (.Name "super" (p 0)) [] [] (p 1)) (ksEnv q (xScope fld) s.heap.objs.size fI (.ref cda) cc))
        standAt (p 2).atName
        let (f, first) ← holding [ov] (getMethod ov "__init__" (L2.plainOf (.Call (.Name "super" (p 0)) [] [] (p 1)) (ksEnv q (xScope fld) s.heap.objs.size fI (.ref cda) cc)))
        callWith (p 4) f first (backTo (p 4) (starEach [.Constant (.str txt) k (p 3)] (ksEnv q (xScope fld) s.heap.objs.size fI (.ref cda) cc))) []) := by
      show (attributeBase _ _ _ _ >>= fun ov => standAt _ >>= fun _ => methodCall _ _ _ _ _ ov _ _ _) = _
      congr 1
      funext ov
      congr 1
      funext _
      exact L2.mcall_line (by rfl) hline
    refine ks_wpAt_execs_cons (ks_wpAt_Expr_any (ks_wpAt_MethodCall ?_ he))
    obtain ⟨oD, hD1, hD2⟩ : ∃ oD, h₁.get? C = some oD ∧ oD.data = .cls _ := ⟨_, X₁ _ _ hC, rfl⟩
    refine ks_wpAt_super_base (env := ksEnv q (xScope fld) s.heap.objs.size fI (.ref cda) cc) l4 l3 (by decide) rfl (X₁ _ _ ho) rfl rfl rfl (X₁ _ _ hcode) rfl hvs hfile T.topS ?_
    refine ks_loadName_global rfl l4 (loadGlobal_builtin (env := ksEnv q (xScope fld) s.heap.objs.size fI (.ref cda) cc) (G.keeps hk₁) (mg_none_of X G T.noS) (Gb.keeps hk₁) ((hb _ (by decide +kernel)).trans (show bootBuiltins ("super" : Str) = some (.type "super") by first | boot_by_name | rfl | kernel_rfl)) ⟨rfl, ?_⟩)
    refine wpAny_loadName_free rfl l3 rfl ⟨_, X₁ _ _ hcell, rfl⟩ ?_
    refine wpAny_loadName_local rfl l1 F.ns mself ?_
    refine ks_wpAny_isType_cls hD1 hD2 ⟨rfl, ?_⟩
    have I₁ : InstAt h₁ x (excObj C t0 none .none) C none := ⟨hx₁, rfl, rfl, trivial⟩
    refine ks_wpAny_call_super hD1 hD2 I₁.at_ I₁.cls (fun c e => nomatch e) (looks_mroIn X₁ T.self) (fun h₂ e2 k2 => ?_)
    -- the bound wrapper, by the heap without x
    have nl1 : h₁.objs.size ≠ s.heap.objs.size := Nat.ne_of_gt F.ns.lt
    have xs : x < s.heap.objs.size := Heap.lt_size hx
    have x1 : x < h₁.objs.size := Heap.lt_size hx₁
    have hx₂ : h₂.get? x = some (excObj C t0 none .none) := k2 _ _ hx₁
    have X₀ : K.In (hideAll s.heap [x]) := fun b o e => hideAll_get _ (X b o e) (fun hb => by
      rw [List.mem_singleton.mp hb, hnx] at e
      cases e)
    have keep₀ : ∀ b o, (hideAll s.heap [x]).get? b = some o → h₁.get? b = some o := fun b o e => hk₁ b o (of_hideAll _ e)
    have F₂ : Fr (hideAll s.heap [x]) s.heap.objs.size h₂ (fun z => List.lookup z [(PySem.Str.ofString "self", Value.ref x), (fld, v)].reverse) :=
      ⟨hns.keeps k2, fun b o e => k2 b o (keep₀ b o e), Nat.le_of_eq (hideAll_size _ _)⟩
    have n0 : (hideAll s.heap [x]).get? h₁.objs.size = none := by
      cases z : (hideAll s.heap [x]).get? h₁.objs.size with
      | none => rfl
      | some o => exact absurd (Heap.lt_size (keep₀ _ _ z)) (Nat.lt_irrefl _)
    have N₂ : News (hideAll s.heap [x]) s.heap.objs.size h₂ [(h₁.objs.size, ks_superObj C x C), (x, excObj C t0 none .none)] := by
      intro r hr
      rcases List.mem_cons.mp hr with rfl | hr
      · exact ⟨e2, nl1, n0⟩
      · rcases List.mem_cons.mp hr with rfl | hr
        · exact ⟨hx₂, Nat.ne_of_lt xs, hideAll_none _ List.mem_cons_self⟩
        · cases hr
    have I₂ : InstAt h₂ x (excObj C t0 none .none) C none := ⟨hx₂, rfl, rfl, trivial⟩
    refine kxs_method kxs_ValueError F₂ X₀ N₂ List.mem_cons_self I₂ T.third T.sup T.veC (by decide) (fun u h₃ F₃ N₃ lt3 => ?_)
    refine kxs_callWith1 N₃ List.mem_cons_self (Calls.spliced_cons (show wpAny _ _ (eval (.Constant (.str txt) k (p 3)) _) _ _ _ from Calls.Constant_str (Calls.spliced_nil ⟨kxs_at N₃ List.mem_cons_self, ?_⟩)))
    have hux : u ≠ x := Nat.ne_of_gt (lt3 (x, excObj C t0 none .none) (List.mem_cons_of_mem _ List.mem_cons_self))
    have hsx : h₁.objs.size ≠ x := Nat.ne_of_gt x1
    refine kxs_call F₃ X₀ N₃ PySem.F.excBase_ValueError T.ini List.mem_cons_self (.tail hux (.tail hsx (.head (fun _ h => nomatch h)))) (one_le_line _) (fun t1 h₄ F₄ N₄ lt4 => ?_)
    have hx₄ : h₄.get? x = some (excO C t1) := (N₄ (x, excObj C t1 none .none) (by simp)).1
    have X₄ : K.In h₄ := X₀.keeps F₄.keep
    refine ks_wpAt_execs_cons (ks_wpAt_Assign_Attr (wpAt_of_wpAny (wpAny_Name (wpAny_loadName_local rfl l2 F₄.ns mfld (wpAny_Name (wpAny_loadName_local rfl l1 F₄.ns mself ?_) (by decide))) f7)))
    refine set_plain X₄ (ox := excO C t1) (od := none) ⟨hx₄, rfl, rfl, trivial⟩ T.sa ?_
    refine exc_osa X₄ hx₄ hcl (show refsVE (.ref C :: bm) = true from hbm) rfl T.noN (fun h₅ tk₅ dx k₅ dn dne hx₅ hn₅ => ?_)
    refine wpAt_of_wpAny (wpAny_execs_nil (hq h₅ tk₅ dx ⟨fun b o hb e => k₅ b o hb (F₄.keep b o (hideAll_get _ e (fun z => hb (List.mem_singleton.mp z)))), ⟨t1, hx₅⟩, Nat.le_trans (Nat.le_of_lt F₄.ns.lt) dn, dne, hn₅⟩))
theorem x_made (T : ExcTxt prog K mg nx q fld C fI) {v : Value} {mb : Str → Option Value} (X : K.In s.heap) (G : s.heap.Ns mainGlobals mg) (Gb : s.heap.Ns builtinsNs mb) (hb : ∀ y : Str, y ≠ "__name__" → mb y = bootBuiltins y) (hlim : s.heap.NoLimit) (hroom : A.depth + 1 < recursionLimit)
    (hq : ∀ h' tk e d, XMade s.heap h' e C d fld v → R (.ok (.ret (.ref e))) { s with heap := h', toks := tk }) :
    codeAny (model prog w) A (.call (.ref C) ⟨[v], []⟩) R s := by
  obtain ⟨nm, qq, N, bs, bm, sn, sub, ab, col, dd, k0, k1, k2, k3, k5, hC, hbm⟩ := T.cls
  obtain ⟨hp, g, dr, tk, os⟩ := s
  have k : ∀ b o, hp.get? b = some o → ((hp.push (kdv_tup [v])).push (excO C hp.objs.size)).get? b = some o := fun b o e => Heap.get?_push_of_some _ (Heap.get?_push_of_some _ e)
  have hget : ((hp.push (kdv_tup [v])).push (excO C hp.objs.size)).get? (hp.objs.size + 1) = some (excO C hp.objs.size) := by heap_get
  have hnx : K.lookup (hp.objs.size + 1) = none := by
    cases e : K.lookup (hp.objs.size + 1) with
    | none => rfl
    | some o => exact absurd (Nat.lt_of_succ_lt (Heap.lt_size (show hp.get? (hp.objs.size + 1) = some o from X _ _ e))) (Nat.lt_irrefl _)
  refine call_own PySem.F.excBase_ValueError (fun X => refsVE_contains X bm hbm) (X _ _ hC) (looks_findIn X T.iC) (fun self => bind_fn X self T.tC) (one_le_line v) ?_
  refine x_init (s := ⟨(hp.push (kdv_tup [v])).push (excO C hp.objs.size), g, dr, tk, os⟩) T (X.keeps k) (G.keeps k) (Gb.keeps k) hb (hlim.keeps k) hget hnx hroom fun h' tk' dx ⟨k', ⟨t1, hx⟩, dn, dne, hns⟩ => ?_
  have old : ∀ b o, hp.get? b = some o → h'.get? b = some o := fun b o e => k' b o (Nat.ne_of_lt (Nat.lt_succ_of_lt (Heap.lt_size e))) (k b o e)
  have z : hp.objs.size + 1 + 1 ≤ dx := by
    have q := dn
    rw [Heap.size_push, Heap.size_push] at q
    exact q
  exact ⟨rfl, hq h' tk' (hp.objs.size + 1) dx ⟨old, Nat.le_succ _, ⟨_, _, hx, rfl, rfl, rfl, rfl⟩, Nat.le_trans (Nat.le_trans (Nat.le_succ _) (Nat.le_succ _)) z, dne, hns⟩⟩
end
end EXV
end PySem

namespace L2
open PySem PySem.Spec PyProof.Rows
theorem relO_x {v : V} {v' : Value} (r : RelV v v') (fld f : Str) : RelO (List.lookup f [(fld, v)]) (if f = fld then some v' else none) := by
  by_cases hw : f = fld
  · subst hw
    rw [if_pos rfl, show List.lookup f [(f, v)] = some v by simp [List.lookup]]
    exact r
  · rw [if_neg hw, show List.lookup f [(fld, v)] = none by simp [List.lookup, show (f == fld) = false by simpa using hw]]
    trivial
section
variable {X : Cx} {C fI : Addr} {x q fld : Str}
/-- X(e), raised -/
def tMkX (C : Addr) (fld : Str) (ta : TA) : St → Hp → XK → Prop := fun σ H Q => ta σ H fun vs H1 => ∃ v, vs = [v] ∧ ∀ d, H1 d = none → Q (.ref C) (some d) (upd H1 d (.xd [(fld, v)]))
theorem pmk_x {a : Expr} {ta : TA} {p pos : Pos} {k : Nat} (T : PySem.EXV.ExcTxt X.prog X.K X.mg x q fld C fI) (hr : Room k X.A) (ha : PA X [a] ta) (hg : Gl X x := by rfl)
    (hdb : (x == ("__debug__" : Str)) = false := by decide)
    (he : starEach (a :: []) X.env = (false, eval a X.env) :: starEach [] X.env := by rfl) (hpl : (backTo pos (starEach [] X.env)).any (·.1) = false := by rfl) :
    PMk X (.Call (.Name x p) [a] [] pos) (tMkX C fld ta) := by
  intro pins s σ H Q I h
  refine wpAny_Call_Name_kw (ld_glob I hg T.gC ?_ hdb)
  refine PySem.W.callWith_K (h₀ := X.base) I.ok.mod.kin T.kC (thn (ha.run pos pins s σ H _ I h) fun us s1 hh => ?_) he hpl
  obtain ⟨vs, H1, I1, r1, v, ev, q1⟩ := hh
  subst ev
  refine ⟨I1.kIn, ?_⟩
  cases r1 with
  | cons rv rn =>
    rename_i v' us'
    cases rn
    show wpAny _ _ (call (.ref C) [v']) _ _ _
    have hlim := I1.nolimit
    obtain ⟨mb, hb1, hb2⟩ := I1.mod.blt
    have hG := I1.mod.glob.keeps I1.bk
    have hGb := hb1.keeps I1.bk
    obtain ⟨hp, g, dr, tk, os⟩ := s1
    refine wpAny_call (PySem.EXV.x_made T I1.kIn hG hGb hb2 hlim (by have := hr.dp; omega) fun h' tk' e d M => ?_)
    show MkP X pins σ Q (.ref e) ⟨h', g, dr, tk', os⟩
    obtain ⟨oe, fv, hoe, hc, hd, hdat, h1⟩ := M.obj
    have hns := M.ns
    obtain ⟨G', g1, g2⟩ := restrict h' fun b => decide (b ≠ e)
    have gk : ∀ b, b ≠ e → G'.get? b = h'.get? b := fun b hb => g1 b (decide_eq_true hb)
    have ge : G'.get? e = none := g2 e (by simp)
    have old : ∀ b o, hp.get? b = some o → G'.get? b = some o := fun b o z => (gk b (Nat.ne_of_lt (Nat.lt_of_lt_of_le (Heap.lt_size z) M.new))).trans (M.keep b o z)
    have ob : ObjOk X.prog X.w (upd H1 d (.xd [(fld, v)])) G' d (.xd [(fld, v)]) :=
      ⟨_, hns.at (fun o z => (gk d M.dne).trans z), fun f => relO_x rv fld f⟩
    have J : Inv X pins σ (upd H1 d (.xd [(fld, v)])) ⟨G', g, dr, tk', os⟩ := I1.laid (t' := tk') old M.dbig ob
    refine ⟨e, oe, fv, ⟨G', g, dr, tk', os⟩, _, .ref C, some d, rfl, J, fun b o z => ?_, ge, hoe, ⟨hc, hd⟩, hdat, h1, ?_, rfl, I1.bare, raises_own T.exC T.tyC, q1 d (I1.hok.fresh M.dbig)⟩
    · by_cases hb : b = e
      · have z' : G'.get? b = some o := z
        rw [hb, ge] at z'; cases z'
      · exact (gk b hb).symm.trans z
    · rw [upd_ne (Ne.symm M.dne)]
      exact I1.hok.fresh M.new
/-- raise X(e) -/
def tRaiseX (C : Addr) (fld : Str) (W : WX) (ta : TA) : TS := fun _ σ H => tMkX C fld ta σ H fun cls d H' => W cls d σ H'
theorem ps_raiseX {a : Expr} {ta : TA} {W : WX} {p pos pos2 : Pos} {k : Nat} (hc : X.calm = true) (T : PySem.EXV.ExcTxt X.prog X.K X.mg x q fld C fI) (hr : Room k X.A) (tk : Takes X W) (ha : PA X [a] ta) (hg : Gl X x := by rfl)
    (hdb : (x == ("__debug__" : Str)) = false := by decide)
    (he : starEach (a :: []) X.env = (false, eval a X.env) :: starEach [] X.env := by rfl) (hpl : (backTo pos (starEach [] X.env)).any (·.1) = false := by rfl) :
    PS X (.Raise (some (.Call (.Name x p) [a] [] pos)) none pos2) (tRaiseX C fld W ta) := ps_raise hc tk (pmk_x T hr ha hg hdb he hpl)
/-- err.FLD, err the exception that the suite holds (at a; its class cls, its dict d) -/
def tFldX (C : Addr) (fld : Str) (a : Addr) (cls : Value) (d : Option Addr) (te : TE) : TE := fun σ H Q => te σ H fun y H1 => y = .ref a ∧ cls = .ref C ∧ ∃ (dd : Addr) (v : V), d = some dd ∧ H1 dd = some (.xd [(fld, v)]) ∧ Q v H1
theorem pe_fldX {a : Addr} {oe : Obj} {cls : Value} {d : Option Addr} {pn : List (Addr × Obj)} {e : Expr} {te : TE} {pos : Pos} (T : PySem.EXV.ExcTxt X.prog X.K X.mg x q fld C fI) (hz : Zc cls d oe) (hf : ∃ vs, oe.data = .fields vs) (he : PE (X.suite a ((a, oe) :: pn)) e te)
    (hb : attributeBase e fld X.env (eval e X.env) = eval e X.env := by rfl) :
    PE (X.suite a ((a, oe) :: pn)) (.Attribute e fld pos) (tFldX C fld a cls d te) := by
  refine ⟨fun pins s σ H Q I h => ?_⟩
  refine attr_of hb (thn (he.run pins s σ H _ I h) fun u s1 hh => ?_)
  obtain ⟨y, H1, I1, rx, ex, ec, dd, v, ed, ea, q⟩ := hh
  subst ex
  obtain rfl : u = Value.ref a := rx
  subst ec
  subst ed
  obtain ⟨ha, _⟩ := I1.pin (a, oe) (List.mem_append_left _ List.mem_cons_self)
  obtain ⟨vs, hd⟩ := hf
  have hx : ObjOk X.prog X.w H1 s1.heap dd (.xd [(fld, v)]) := I1.hok dd _ ea
  obtain ⟨mA, hns, hr⟩ := hx
  obtain ⟨od, ho, hl⟩ := lookIn_ns hns
  have l : List.lookup fld [(fld, v)] = some v := by simp [List.lookup]
  obtain ⟨u, hu, ru⟩ := RelO.some_of (v := v) (o := mA fld) (by rw [← l]; exact hr fld)
  have J : PySem.W.InstAt s1.heap a oe C (some od) := ⟨ha, hz.1, by unfold PySem.W.notCls; rw [hd] <;> rfl, by rw [hz.2]; exact ho⟩
  exact HandSPX.exc_get I1.kIn J T.ga T.gg T.exC (PySem.W.findObj_own T.hdC T.noN rfl (by rw [hl, hu])) (handed_of ru) ⟨v, H1, I1.tok _, ru, q⟩
end
end L2

/-! Own layer: repr of nested data. repr asks that no repr is under way around it, so such defs promise only there (FnG). -/
namespace L2
open PySem PySem.Spec PyProof.Rows
/-! ### defs that are called where no repr is under way -/
structure FnG (P : Program) (w : World) (K : PySem.W.Frag) (mg : Str → Option Value) (base : Heap) (CX : CXT) (k : Nat) (f : Addr) (fd : FuncData) (ps : List Str) (sp : Sp) : Prop where
  len : ∀ vs H Q E, sp vs H Q E → vs.length = ps.length
  run : ∀ (A : Around) (outer : List Env) (s : Shared) (H : Hp) (args : Args) (us : List Value) (vs : List V) (Q : VK) (E : XK), Room k A → A.guards = some [] → Env0 P w K mg base A outer s H → BindsTo s fd args (ps.zip us) → Vals vs us → sp vs H Q E →
    codeAny (model P w) A (.call (.ref f) args) (CR CX outer P w H s Q E) s
section
variable {P : Program} {w : World} {K : PySem.W.Frag} {mg : Str → Option Value} {base : Heap} {CX : CXT} {k : Nat} {f : Addr} {fd : FuncData} {ps : List Str} {sp : Sp}
theorem FnOk.toG (F : FnOk P w K mg base CX k f fd ps sp) : FnG P w K mg base CX k f fd ps sp :=
  ⟨F.len, fun A outer s H args us vs Q E hr _ => F.run A outer s H args us vs Q E hr⟩
theorem FnG.mono {j : Nat} (F : FnG P w K mg base CX j f fd ps sp) (h : j ≤ k) : FnG P w K mg base CX k f fd ps sp :=
  ⟨F.len, fun A outer s H args us vs Q E hr => F.run A outer s H args us vs Q E (hr.mono h)⟩
/-- a def, by its body -/
theorem FunD.okG {x qual : Str} {params : Arguments} {body : List Stmt} {scope : Scope} {dvs : List V} {kws : List (Str × V)} {N : List Str} (F : FunD K x qual params body scope dvs kws f fd) (S : FnScope N ps scope) (len : ∀ vs H Q E, sp vs H Q E → vs.length = ps.length)
    (hbody : ∀ (cdv : Value) (A : Around) (outer : List Env) (s : Shared) (H : Hp) (vs : List V) (Q : VK) (E : XK), Room k (A.deeper (envOfC qual scope s.heap.objs.size f cdv)) → A.guards = some [] → sp vs H Q E →
      ∃ t, PSs (cxOf CX P w K mg base N qual scope f cdv A outer s H E) body t ∧ t { nx := fun _ H' => Q .non H', rt := Q } (start N vs) H) : FnG P w K mg base CX (k + 1) f fd ps sp := by
  obtain ⟨oc, od, dV, kV, doc, pm, an, cdv, ct, osl, rfl, lk, hcd, _, _⟩ := F.ex
  refine ⟨len, fun A outer s H args us vs Q E hr hg e0 hb r hsp => ?_⟩
  have hl := len _ _ _ _ hsp
  have KX : K.In s.heap := e0.mod.kin.keeps fun b o e => (e0.bs b o e).1
  have lim : s.heap.NoLimit := e0.mod.nolimit.keeps fun b o e => (e0.bs b o e).1
  refine codeAny_call_function hr.depth (KX _ _ lk) rfl S.co S.gen rfl (PySem.W.codeRec_of KX hcd) (hb _ _ _ _ ?_)
  refine wpAny_newFunctionEnv_cells S.kind (fun ⟨n, v⟩ hy => (S.par n (List.of_mem_zip hy).1).elim .inl fun q => .inr ⟨q, PySem.W.cellsFrom_some _ _ _ (.inl q)⟩) fun env he s1 x => ?_
  subst he
  refine ⟨lim.keeps x.toInCall.keep, codeAny_func ?_⟩
  obtain ⟨t, ht, hq⟩ := hbody cdv A outer s H vs Q E (hr.deeper _) hg hsp
  have I : Inv (cxOf CX P w K mg base N qual scope f cdv A outer s H E) [] (start N vs) H s1 := inv_start S hr.hd e0 hl r x
  refine wpAny_mono (ht.run [] s1 (start N vs) H _ I hq) (fun fl s' hs => ?_) fun e s' hs => hs
  cases fl with
  | ret u =>
    obtain ⟨v, σ', H', J, rv, q⟩ := hs
    exact ⟨v, H', J.os, J.bare, J.base, J.hok, rv, q⟩
  | next =>
    obtain ⟨σ', H', J, q⟩ := hs
    exact ⟨V.non, H', J.os, J.bare, J.base, J.hok, rfl, q⟩
  | brk => exact hs.elim fun _ h => h.elim fun _ h => h.2.elim
  | cont => exact hs.elim fun _ h => h.elim fun _ h => h.2.elim
end
section
variable {X : Cx} {CX : CXT} {k n : Nat} {f : Addr} {fd : FuncData} {ps ks : List Str} {sp : Sp} {dvs : List V} {ds : List Value} {E : XK} {x : Str} {p pos : Pos} {e : Expr} {es : List Expr} {kws : List Keyword} {t tk : TA} {g : List Value → List Value → List Value} {gV : List V → List V → List V}
theorem run_fnG {pins : List (Addr × Obj)} {σ : St} {H : Hp} {s : Shared} {Q : VK} {us : List Value} {vs : List V} (hA : X.A.guards = some []) (F : FnG X.prog X.w X.K X.mg X.base CX k f fd ps sp) (hr : Room k X.A) (hb : Binds X.K fd ps ds) (hd : Vals dvs ds) (hx : Passes CX X E)
    (I : Inv X pins σ H s) (r : Vals vs us) (h : sp (vs ++ dvs) H Q E) : wpAny (model X.prog X.w) X.A (call (.ref f) us) (EP X pins σ Q) X.xe s := by
  have r2 : Vals (vs ++ dvs) (us ++ ds) := r.append hd
  have hl : (us ++ ds).length = ps.length := by rw [← r2.length]; exact F.len _ _ _ _ h
  refine wpAny_call (codeAny_mono (F.run X.A X.stack s H ⟨us, []⟩ (us ++ ds) (vs ++ dvs) Q E hr hA I.env0 (hb s us I.kIn hl) r2 h) fun r s' hq => ?_)
  match r, hq with
  | .error e, hq => exact hx pins σ H s e s' I hq
  | .ok (.ret u), hq => exact I.after hq
  | .ok .next, hq => exact hq.elim
  | .ok .brk, hq => exact hq.elim
  | .ok .cont, hq => exact hq.elim
theorem pe_callG (hA : X.A.guards = some []) (F : FnG X.prog X.w X.K X.mg X.base CX k f fd ps sp) (hr : Room k X.A) (hg : Gl X x) (hm : X.mg x = some (.ref f)) (hk : PySem.W.keepIn X.K (.ref f) = true) (hb : Binds X.K fd ps ds) (hd : Vals dvs ds) (hx : Passes CX X E)
    (ha : PA X (e :: es) t) (hdb : (x == ("__debug__" : Str)) = false := by decide) (he : starEach (e :: es) X.env = (false, eval e X.env) :: starEach es X.env := by rfl) (hpl : (backTo pos (starEach es X.env)).any (·.1) = false := by rfl) :
    PE X (.Call (.Name x p) (e :: es) [] pos) (tCall sp dvs E t) := by
  refine ⟨fun pins s σ H Q I h => wpAny_Call_Name_kw (ld_glob I hg hm ?_ hdb)⟩
  exact PySem.W.callWith_K (h₀ := X.base) I.ok.mod.kin hk (thn (ha.run pos pins s σ H _ I h) fun us s1 ⟨vs, H1, I1, r, q⟩ => ⟨I1.kIn, run_fnG hA F hr hb hd hx I1 r q⟩) he hpl
theorem pe_callG0 (hA : X.A.guards = some []) (F : FnG X.prog X.w X.K X.mg X.base CX k f fd ps sp) (hr : Room k X.A) (hg : Gl X x) (hm : X.mg x = some (.ref f)) (hk : PySem.W.keepIn X.K (.ref f) = true) (hb : Binds X.K fd ps ds) (hd : Vals dvs ds) (hx : Passes CX X E)
    (hdb : (x == ("__debug__" : Str)) = false := by decide) : PE X (.Call (.Name x p) [] [] pos) (tCall sp dvs E tNil) := by
  refine ⟨fun pins s σ H Q I h => wpAny_Call_Name_kw (ld_glob I hg hm ?_ hdb)⟩
  exact PySem.W.callWith_K0 I.kIn hk (run_fnG (us := []) hA F hr hb hd hx I .nil h)
end
/-! ### data with dicts, as repr reads it -/
def keyD : Key → PyData
  | .inl i => .int i
  | .inr x => .str x
mutual
inductive Dx (K : PySem.W.Frag) (H : Hp) : V → PyData → Prop
  | non : Dx K H .non .none
  | bl (b : Bool) : Dx K H (.bl b) (.bool b)
  | int (i : Int) : Dx K H (.int i) (.int i)
  | str (x : Str) : Dx K H (.str x) (.str x)
  | lst {a : Addr} {xs : List V} {ds : List PyData} : SqL K H a xs → DxAll K H xs ds → Dx K H (.ref a) (.list ds)
  | tup {a : Addr} {xs : List V} {ds : List PyData} : SqT K H a xs → DxAll K H xs ds → Dx K H (.ref a) (.tuple ds)
  | dic {a : Addr} {ks : List (Key × V)} {kvs : List (PyData × PyData)} : Rd H a (.dK ks) → kvs.map (·.1) = ks.map (fun p => keyD p.1) → DxAll K H (ks.map (·.2)) (kvs.map (·.2)) → Dx K H (.ref a) (.dict kvs)
inductive DxAll (K : PySem.W.Frag) (H : Hp) : List V → List PyData → Prop
  | nil : DxAll K H [] []
  | cons {v : V} {vs : List V} {d : PyData} {ds : List PyData} : Dx K H v d → DxAll K H vs ds → DxAll K H (v :: vs) (d :: ds)
end
section
variable {X : Cx} {pins : List (Addr × Obj)} {σ : St} {H : Hp} {s : Shared}
theorem keys_read {h : Heap} : ∀ {es : List DictEntry} {vs : List (Key × Value)} {knd : PySem.KeyKind X.prog X.w Key}, knd.is = keyIs → Pairs knd es vs → ReadsAll h (es.map (·.key)) (vs.map fun q => keyD q.1) []
  | _, _, _, _, .nil => .nil
  | e :: es, q :: qs, knd, hk, .cons h1 h2 h3 => by
    have r := keys_read (h := h) hk h3
    rw [hk] at h1
    rcases keyIs_shape h1 with ⟨i, t, e1, e2⟩ | ⟨x, t, e1, e2⟩
    · rw [List.map_cons, List.map_cons, e1, e2]
      exact .cons (as := []) (.int i t) r
    · rw [List.map_cons, List.map_cons, e1, e2]
      exact .cons (as := []) (.str x t) r
theorem pairs_vals {es : List DictEntry} {vs : List (Key × Value)} {knd : PySem.KeyKind X.prog X.w Key} (h : Pairs knd es vs) : es.map (·.val) = vs.map (·.2) := by
  induction h with
  | nil => rfl
  | cons h1 h2 h3 ih => rw [List.map_cons, List.map_cons, h2, ih]
theorem kv_keys {ks : List (Key × V)} {vs : List (Key × Value)} (h : KV ks vs) : vs.map (fun q => keyD q.1) = ks.map (fun p => keyD p.1) := by
  unfold KV at h
  induction h with
  | nil => rfl
  | cons h1 h2 ih => rw [List.map_cons, List.map_cons, ih, h1.1]
theorem kv_vals {ks : List (Key × V)} {vs : List (Key × Value)} (h : KV ks vs) : Vals (ks.map (·.2)) (vs.map (·.2)) := by
  unfold KV at h
  induction h with
  | nil => exact .nil
  | cons h1 h2 ih => exact .cons h1.2 ih
end
end L2

namespace L2
open PySem PySem.Spec PyProof.Rows
section
variable {X : Cx} {pins : List (Addr × Obj)} {σ : St} {H : Hp} {s : Shared}
/-- the module's dict of modules is among the written part's objects -/
def HasSm (K : PySem.W.Frag) : Prop := ∃ o, K.lookup sysModules = some o ∧ o.cls = .type "dict"
mutual
theorem Dx.reads (I : Inv X pins σ H s) (sm : HasSm X.K) : ∀ (d : PyData) (v : V) (u : Value), Dx X.K H v d → RelV v u → ∃ as, Reads s.heap u d as ∧ sysModules ∉ as
  | .none, _, _, h, r => by cases h; cases r; exact ⟨_, Reads.none, by simp⟩
  | .bool b, _, _, h, r => by cases h; cases r; exact ⟨_, Reads.bool b, by simp⟩
  | .int i, _, _, h, r => by cases h; obtain ⟨t, rfl⟩ := r; exact ⟨_, Reads.int i t, by simp⟩
  | .str x, _, _, h, r => by cases h; obtain ⟨t, rfl⟩ := r; exact ⟨_, Reads.str x t, by simp⟩
  | .list ds, _, _, h, r => by
    cases h with
    | lst hs ha =>
      cases r
      obtain ⟨its, rv, ⟨o, n, ho, hc, _, hd⟩, _⟩ := I.list hs
      obtain ⟨as, hr, hn⟩ := Dx.readsAll I sm ds _ its ha rv
      refine ⟨_, Reads.list ho hc hd hr, fun hm => ?_⟩
      rcases List.mem_cons.mp hm with e | hm
      · obtain ⟨o', k1, k2⟩ := sm
        have q := I.kIn _ _ k1
        rw [e, ho] at q
        cases q
        rw [hc] at k2
        exact absurd k2 (by decide)
      · exact hn hm
  | .tuple ds, _, _, h, r => by
    cases h with
    | tup hs ha =>
      cases r
      obtain ⟨its, rv, ⟨o, ho, hc, n, hd⟩, _⟩ := I.tuple hs
      obtain ⟨as, hr, hn⟩ := Dx.readsAll I sm ds _ its ha rv
      exact ⟨_, Reads.tuple ho hc hd hr, hn⟩
  | .dict kvs, _, _, h, r => by
    cases h with
    | dic hs hk ha =>
      cases r
      obtain ⟨_, hsm, vs, rel, o, es, ep, ho, hx, hd, _, hp, _⟩ := dk_rd I.hok hs
      obtain ⟨bs, hr, hn⟩ := Dx.readsKv I sm kvs _ (vs.map (·.2)) ha (kv_vals rel)
      have r1 : ReadsAll s.heap (es.toList.map (·.key)) (kvs.map (·.1)) [] := by
        rw [hk, ← kv_keys rel]
        exact keys_read (X := X) rfl hp
      rw [← pairs_vals hp] at hr
      refine ⟨_, Reads.dict ho hx.1 hd r1 hr, fun hm => ?_⟩
      rcases List.mem_append.mp hm with hm | hm
      · rw [List.mem_singleton.mp hm] at hsm
        simp at hsm
      · exact hn hm
theorem Dx.readsAll (I : Inv X pins σ H s) (sm : HasSm X.K) : ∀ (ds : List PyData) (vs : List V) (us : List Value), DxAll X.K H vs ds → Vals vs us → ∃ as, ReadsAll s.heap us ds as ∧ sysModules ∉ as
  | [], _, _, h, r => by cases h; cases r; exact ⟨_, ReadsAll.nil, by simp⟩
  | d :: ds, _, _, h, r => by
    cases h with
    | cons h1 h2 =>
      cases r with
      | cons r1 r2 =>
        obtain ⟨as, q1, n1⟩ := Dx.reads I sm d _ _ h1 r1
        obtain ⟨bs, q2, n2⟩ := Dx.readsAll I sm ds _ _ h2 r2
        exact ⟨_, ReadsAll.cons q1 q2, fun hm => (List.mem_append.mp hm).elim n1 n2⟩
theorem Dx.readsKv (I : Inv X pins σ H s) (sm : HasSm X.K) : ∀ (kvs : List (PyData × PyData)) (vs : List V) (us : List Value), DxAll X.K H vs (kvs.map (·.2)) → Vals vs us → ∃ as, ReadsAll s.heap us (kvs.map (·.2)) as ∧ sysModules ∉ as
  | [], _, _, h, r => by cases h; cases r; exact ⟨_, ReadsAll.nil, by simp⟩
  | (k, d) :: ds, _, _, h, r => by
    rw [List.map_cons] at h ⊢
    cases h with
    | cons h1 h2 =>
      cases r with
      | cons r1 r2 =>
        obtain ⟨as, q1, n1⟩ := Dx.reads I sm d _ _ h1 r1
        obtain ⟨bs, q2, n2⟩ := Dx.readsKv I sm ds _ _ h2 r2
        exact ⟨_, ReadsAll.cons q1 q2, fun hm => (List.mem_append.mp hm).elim n1 n2⟩
end
/-- what repr may be asked of: ints of less than 1920 bits, nested at most 60 deep, a text that fits -/
def Fine (d : PyData) : Prop := d.showable = true ∧ d.depth ≤ 60 ∧ d.shown.length ≤ sizeLine
def rReprD (K : PySem.W.Frag) : List V → Hp → VK → Prop := fun xs H Q => ∃ x d, xs = [x] ∧ Dx K H x d ∧ Fine d ∧ Q (.str d.shown) H
theorem call_reprD (hA : X.A.guards = some []) (hu : X.A.units + 64 < cLine) (sm : HasSm X.K) : CallR X (.builtin "repr") (rReprD X.K) := by
  intro pins s σ H xs us Q I r h
  obtain ⟨x, d, rfl, hd, ⟨h1, h2, h3⟩, q⟩ := h
  obtain ⟨u, rfl, ru⟩ := vals1 r
  obtain ⟨as, hr, hn⟩ := Dx.reads I sm d x u hd ru
  have fin : ∀ (h' : Heap) (t : Tok) (tk : Nat), (∀ b o, s.heap.get? b = some o → h'.get? b = some o) → EP X pins σ Q (.str d.shown t) { s with heap := h', toks := tk } := fun h' t tk hk =>
    ⟨.str _, H, I.kept (t' := tk) hk, ⟨t, rfl⟩, q⟩
  cases hr with
  | none => exact PySem.P.repr_of_none (fin s.heap _ _ fun _ _ e => e)
  | bool b => exact PySem.P.repr_of_bool (fin s.heap _ _ fun _ _ e => e)
  | int i t => exact PySem.P.repr_of_int (by simpa [PyData.showable] using h1) (fin s.heap _ _ fun _ _ e => e)
  | str y t => exact PySem.P.repr_of_str (fin s.heap _ _ fun _ _ e => e) h3
  | list a1 a2 a3 a4 => exact repr_of_reads' (.list a1 a2 a3 a4) h1 (fun _ => hn) hA (by omega) (fun _ _ e => e) (fun h' u tk hk => fin h' u tk hk) h3
  | tuple a1 a2 a3 a4 => exact repr_of_reads' (.tuple a1 a2 a3 a4) h1 (fun _ => hn) hA (by omega) (fun _ _ e => e) (fun h' u tk hk => fin h' u tk hk) h3
  | dict a1 a2 a3 a4 a5 => exact repr_of_reads' (.dict a1 a2 a3 a4 a5) h1 (fun _ => hn) hA (by omega) (fun _ _ e => e) (fun h' u tk hk => fin h' u tk hk) h3
end
end L2

namespace L2
open PySem PySem.Spec PyProof.Rows
section
variable {P : Program} {w : World} {K : PySem.W.Frag} {mg mb : Str → Option Value} {s₁ : Shared}
/-- the state behind the top, seen with the objects of H tracked: none of them holds names, none is the written part's -/
theorem top_env0 (KX : K.In s₁.heap) (hns : s₁.heap.Ns mainGlobals mg) (hb : s₁.heap.Ns builtinsNs mb) (hbb : ∀ x : Str, x ≠ "__name__" → mb x = bootBuiltins x) (hlim : s₁.heap.NoLimit) (hg : s₁.gens = #[])
    {H : Hp} (hok : HOk P w H s₁.heap) (hA : ∀ b o, H b ≠ none → s₁.heap.get? b = some o → ∀ es ep, o.data ≠ .dict es ep) (hK : ∀ b, H b ≠ none → K.lookup b = none) :
    Env0 P w K mg (hidT s₁.heap H) callerA [] s₁ H ∧ K.In (hidT s₁.heap H) ∧ (hidT s₁.heap H).Ns mainGlobals mg := by
  have keepN : ∀ {b : Addr} {m : Str → Option Value}, s₁.heap.Ns b m → (hidT s₁.heap H).Ns b m := fun {b m} ⟨o, es, ep, e, d, r⟩ =>
    ⟨o, es, ep, hidT_get e (Classical.byContradiction fun z => hA b o z e es ep d), d, r⟩
  have keepK : K.In (hidT s₁.heap H) := fun b o e => hidT_get (KX b o e) (Classical.byContradiction fun z => by rw [hK b z] at e; cases e)
  refine ⟨⟨rfl, ⟨keepK, keepN hns, ⟨mb, keepN hb, hbb⟩, ?_⟩, fun b o e => of_hidT e, Nat.le_of_eq (hidT_size _ _), trivial, fun b hb => ?_, hok, .of_eq hg⟩, keepK, keepN hns⟩
  · obtain ⟨mc, h1, h2⟩ := hlim
    exact ⟨mc, keepN h1, h2⟩
  · exact absurd (show b ∈ ([] : List Addr) from hb) (List.not_mem_nil)
/-- the law's call: its def promises where no repr is under way -/
theorem law_callG {CX : CXT} {k : Nat} {fa a : Addr} {fd : FuncData} {x : Str} {sp : Sp} {vs : List Value} {ns : List Int}
    (KX : K.In s₁.heap) (hns : s₁.heap.Ns mainGlobals mg) (hb : s₁.heap.Ns builtinsNs mb) (hbb : ∀ x : Str, x ≠ "__name__" → mb x = bootBuiltins x) (hlim : s₁.heap.NoLimit) (hg : s₁.gens = #[])
    (ha : s₁.heap.get? a = some { cls := .type "list", data := .seq vs.toArray }) (hi : IntsAre vs ns) (hl : ns.length ≤ sizeLine) (hr : Room k callerA)
    (F : ∀ base : Heap, K.In base → base.Ns mainGlobals mg → FnG P w K mg base CX k fa fd [x] sp) (hbind : ∀ (s : Shared) (u : Value), BindsTo s fd ⟨[u], []⟩ [(x, u)])
    (hsp : ∀ H : Hp, Only H → SqL K H a (ns.map V.int) → sp [.ref a] H (fun v _ => v = .bl true) fun _ _ _ => False)
    (hCX : ∀ H e s', CX [] H s₁ (fun _ _ _ => False) e s' → False) :
    codeAny (model P w) callerA (.call (.ref fa) ⟨[.ref a], []⟩) (fun r s' => r = .ok (.ret (.bool true)) ∧ OldK s₁.heap s'.heap ∧ s'.os = s₁.os ∧ AllBare s'.gens) s₁ := by
  have rv := vals_ints hi
  -- once H is chosen
  have go : ∀ H : Hp, Only H → SqL K H a (ns.map V.int) → HOk P w H s₁.heap → (∀ b, H b ≠ none → b = a ∧ K.lookup b = none) →
      codeAny (model P w) callerA (.call (.ref fa) ⟨[.ref a], []⟩) (fun r s' => r = .ok (.ret (.bool true)) ∧ OldK s₁.heap s'.heap ∧ s'.os = s₁.os ∧ AllBare s'.gens) s₁ := by
    intro H hO hS hok hA
    obtain ⟨e0, b1, b2⟩ := top_env0 (P := P) (w := w) KX hns hb hbb hlim hg hok (fun b o z e es ep d => by
      rw [(hA b z).1, ha] at e
      cases e
      exact Data.noConfusion d) fun b z => (hA b z).2
    refine codeAny_mono ((F _ b1 b2).run callerA [] s₁ H ⟨[.ref a], []⟩ [.ref a] [.ref a] _ _ hr rfl e0 (hbind s₁ (.ref a)) (.cons rfl .nil) (hsp H hO hS)) fun r s' h => ?_
    match r, h with
    | .error e, h => exact (hCX H e s' h).elim
    | .ok .next, h => exact h.elim
    | .ok .brk, h => exact h.elim
    | .ok .cont, h => exact h.elim
    | .ok (.ret u), h =>
      obtain ⟨v, H', os, bare, un, hok', r', q⟩ := h
      have q2 : v = .bl true := q
      subst q2
      obtain rfl : u = Value.bool true := r'
      refine ⟨rfl, OldK.of_keep fun b o e => ?_, os, bare⟩
      rcases hO b with z | ⟨ob, xs, z⟩
      · exact un.keep b o e z (List.not_mem_nil) (List.not_mem_nil)
      · have e1 := (hok b _ z).1
        have e2 := (hok' b _ (un.frzs b ob _ z)).1
        rw [e] at e1
        cases e1
        exact e2
  cases hk : K.lookup a with
  | some o =>
    have e := KX a o hk
    rw [ha] at e
    cases e
    refine go (fun _ => none) (fun _ => .inl rfl) (.inr ⟨_, vs.toArray, _, hk, rfl, rfl, rfl, ?_, by simpa using rv⟩) (fun b u z => nomatch (show (none : Option HO) = some u from z)) fun b z => absurd rfl z
    rw [List.size_toArray, hi.length]
    exact hl
  | none =>
    have at_a : ∀ {b : Addr} {u : HO}, (if b = a then some (HO.frz { cls := .type "list", data := .seq vs.toArray } (.lst (ns.map V.int))) else none) = some u → b = a ∧ u = .frz { cls := .type "list", data := .seq vs.toArray } (.lst (ns.map V.int)) := fun {b u} z => by
      split at z
      · rename_i hb
        cases z
        exact ⟨hb, rfl⟩
      · cases z
    refine go (fun b => if b = a then some (.frz { cls := .type "list", data := .seq vs.toArray } (.lst (ns.map V.int))) else none) (fun b => ?_) (.inl (.inr ⟨{ cls := .type "list", data := .seq vs.toArray }, if_pos rfl⟩)) (fun b u z => ?_) fun b z => ?_
    · by_cases hb : b = a
      · exact .inr ⟨_, _, if_pos hb⟩
      · exact .inl (if_neg hb)
    · obtain ⟨rfl, rfl⟩ := at_a z
      exact ⟨ha, by rw [List.length_map]; exact hl, vs, _, rv, ha⟩
    · obtain ⟨u, hu⟩ := Option.ne_none_iff_exists'.mp z
      obtain ⟨rfl, _⟩ := at_a hu
      exact ⟨rfl, hk⟩
end
/-- a law over a head by facts, its def under no repr -/
theorem walk_ofG {l : PySem.W.OpenLaw} {n k : Nat} {q : Program} {loose : List Str} {XP : (Str → Option Value) → Heap → Prop} {YP : World → Heap → Prop} {d : DefRec} {CX : CXT} {x : Str}
    (hn : l.most = some n) (hn2 : n ≤ sizeLine) (hdf : d.params.defaults = []) (hr : Room k callerA)
    (F : ∀ (w : World) (mg : Str → Option Value) (fa : Addr) (h : Heap), YP w h → h.Ns mainGlobals mg → mg d.name = some (.ref fa) →
      ∃ (K : PySem.W.Frag) (fd : FuncData) (sp : Sp), K.In h ∧ (∀ (s : Shared) (u : Value), BindsTo s fd ⟨[u], []⟩ [(x, u)]) ∧
        (∀ (H : Hp) (a : Addr) (ns : List Int), ns.length ≤ n → Only H → SqL K H a (ns.map V.int) → sp [.ref a] H (fun v _ => v = .bl true) fun _ _ _ => False) ∧
        ∀ base : Heap, K.In base → base.Ns mainGlobals mg → FnG l.prog w K mg base CX k fa fd [x] sp)
    (hCX : ∀ (H : Hp) (s : Shared) (e : Value) (s' : Shared), CX [] H s (fun _ _ _ => False) e s' → False) :
    PySem.W.WalkO q loose XP YP l.row.toRowW d [] (fun f vs => PySem.call f vs) := by
  refine Att.attach_call hn hdf fun w s₀ s₁ mg mb fa o pm cd doc a vs ns G Y ho hd hcd hmg hobj hints hlen hg => ?_
  obtain ⟨K, fd, sp, KX, hb, hsp, hF⟩ := F w mg fa _ Y G.T.g hmg
  exact law_callG KX G.T.g G.T.b G.T.builtins G.T.nolimit hg hobj hints (Nat.le_trans hlen hn2) hr hF hb (fun H => hsp H a ns hlen) fun H e s' => hCX H s₁ e s'
end L2

namespace PySem
namespace EXV
open PySem.W PySem.Calls PyProof.Rows PySem.HandSPX He L2
/-! ### a Hook: facts, defs, any tests of the written part, own error classes -/
abbrev FnC : Type := Option (Str × Str × Arguments × FuncBody × Scope × Addr × List Str × Value × Value × Addr)
def fnC (K : Frag) (a : Addr) : FnC := match K.lookup a with
  | some ⟨_, _, .func fd, _⟩ => some (fd.name, fd.qualname, fd.params, fd.body, fd.scope, fd.globals, fd.closure.map (·.1), fd.defaults, fd.kwdefaults, fd.builtins)
  | _ => none
/-- the text of an own error class: its name, its __init__'s qualified name, the field, the message, the places -/
structure ExD where
  x : Str
  q : Str
  fld : Str
  txt : Str
  k : Nat
  p : Nat → Pos
  p1 : Pos
  p2 : Pos
def ExD.val (d : ExD) : FnC := some ("__init__", d.q, xArgs d.fld d.p1 d.p2, .stmts (xBody d.fld d.txt d.k d.p), xScope d.fld, mainGlobals, ["__class__"], .none, .none, builtinsNs)
def clsB (K : Frag) (C : Addr) : Bool := match K.lookup C with
  | some ⟨.type "type", _, .cls cd, sl⟩ => (match cd.mro, sl.toList with
    | .ref C' :: bm, [_, _, _, _, some (.builtin n), _] => C' == C && n == "ValueError.__new__" && !cd.hasDel && cd.hasDict && HandSPX.refsVE bm
    | _, _ => false)
  | _ => false
theorem clsB_ok {K : Frag} {C : Addr} (h : clsB K C = true) :
    ∃ nm q N bs bm sn sub ab col dd k0 k1 k2 k3 k5, K.lookup C = some (excClassObj nm q C N bs bm true sn sub ab col dd k0 k1 k2 k3 k5 "ValueError.__new__") ∧ HandSPX.refsVE bm = true := by
  unfold clsB at h
  split at h
  · rename_i dd cd sl ho
    split at h
    · rename_i C' bm k0 k1 k2 k3 n k5 hm hs
      simp only [Bool.and_eq_true, beq_iff_eq, Bool.not_eq_true'] at h
      obtain ⟨⟨⟨⟨rfl, rfl⟩, h1⟩, h2⟩, h3⟩ := h
      obtain ⟨nm, bs, mro, ns, qn, hd, sn, sub, ab, col, del⟩ := cd
      dsimp only at hm h1 h2
      subst hm h1 h2
      obtain ⟨l⟩ := sl
      have hl : l = [k0, k1, k2, k3, some (.builtin "ValueError.__new__"), k5] := hs
      subst hl
      exact ⟨nm, qn, ns, bs, bm, sn, sub, ab, col, dd, k0, k1, k2, k3, k5, ho, h3⟩
    · cases h
  · cases h
def fileB (K : Frag) (cd : Value) (file : Str) : Bool := match cd with
  | .ref c => (match K.lookup c with
    | some (⟨_, _, .fields vs, _⟩ : Obj) => (match (vs[2]? : Option Value) with
      | some (.str f _) => file == f
      | _ => false)
    | _ => false)
  | _ => false
theorem fileB_ok {K : Frag} {c : Addr} {file : Str} (h : fileB K (.ref c) file = true) :
    ∃ ccl cdd vs ccs f tf, K.lookup c = some ⟨ccl, cdd, .fields vs, ccs⟩ ∧ vs[2]? = some (.str f tf) ∧ (file == f) = true := by
  have h1 : (match K.lookup c with
    | some (⟨_, _, .fields vs, _⟩ : Obj) => (match (vs[2]? : Option Value) with
      | some (.str f _) => file == f
      | _ => false)
    | _ => false) = true := h
  split at h1
  · rename_i a b vs d e
    split at h1
    · rename_i f t e2
      exact ⟨_, _, _, _, _, _, e, e2, h1⟩
    · cases h1
  · cases h1
def cellB (K : Frag) (C : Addr) (l : List (Str × Addr)) : Bool := match l with
  | [(_, cc)] => (match K.lookup cc with
    | some ⟨_, _, .cell (some (.ref D)), _⟩ => D == C
    | _ => false)
  | _ => false
theorem cellB_ok {K : Frag} {C cc : Addr} {y : Str} (h : cellB K C [(y, cc)] = true) : ∃ cl cld csl, K.lookup cc = some ⟨cl, cld, .cell (some (.ref C)), csl⟩ := by
  have h1 : (match K.lookup cc with
    | some ⟨_, _, .cell (some (.ref D)), _⟩ => D == C
    | _ => false) = true := h
  split at h1
  · rename_i a b D d e
    rw [beq_iff_eq] at h1
    rw [← h1]
    exact ⟨_, _, _, e⟩
  · cases h1
def initB (K : Frag) (C fI : Addr) (q file : Str) : Bool := match K.lookup fI with
  | some ⟨_, _, .func fd, _⟩ => codeIn K fd.code q && fileB K fd.code file && cellB K C fd.closure
  | _ => false
def fldB (fld : Str) : Bool := (fld == ("self" : Str)) == false && ((("self" : Str) == fld) == false && ((fld == ("__class__" : Str)) == false && ((("__class__" : Str) == fld) == false && ((fld == ("super" : Str)) == false && ((("super" : Str) == fld) == false && (fld == ("__debug__" : Str)) == false)))))
def ExD.ok (file : Str) (K : Frag) (d : ExD) : Bool :=
  let C := ga K d.x
  let fI := ma K C "__init__"
  eqO (nsIn K mainGlobals d.x) (some (some (.ref C))) && (clsB K C && (eqO (findIn K (.ref C) "__setattr__") (some (some (.builtin "object.__setattr__"))) && (eqO (findIn K (.ref C) "__getattribute__") (some (some (.builtin "BaseException.__getattribute__"))) &&
  (eqO (findIn K (.ref C) "__getattr__") (some none) && (eqO (findIn K (.ref C) d.fld) (some none) && (eqO (findIn K (.ref C) "__init__") (some (some (.ref fI))) && (decide (typeIn K (.ref fI) = some (.type "function")) && (keepIn K (.ref C) &&
  (decide (subIn K (.ref C) (.type "BaseException") = some true) && (decide (subIn K (.ref C) (.type "ValueError") = some true) && (decide (typeIn K (.ref C) = some (.type "type")) && (hasDictIn K C && (eqO (ks_superIn K C C "__init__") (some (some (.builtin "ValueError.__init__"))) &&
  (excInitIn K C [.type "ValueError", .type "Exception", .type "BaseException", .type "object"] "ValueError.__new__" && (decide (mroIn K C (.ref C) = some true) && (eqO (nsIn K cStatics "thirdparty.any") (some none) && (eqO (nsIn K mainGlobals "super") (some none) &&
  (initB K C fI d.q file && (((d.p 2).endLine == (d.p 4).line) && fldB d.fld)))))))))))))))))))
theorem ExD.toTxt {P : Program} {K : Frag} {h : Heap} {mg : Str → Option Value} {d : ExD} {file : Str} (X : K.In h) (G : h.Ns mainGlobals mg) (e : fnC K (ma K (ga K d.x) "__init__") = d.val) (c : d.ok file K = true) (hf : P.main.file = file)
    (topS : (P.main.scope.names.lookup ("super" : Str)).isSome = false)
    (hb : ∀ (doc pm : Value) (an : Option Addr) (cdv ct : Value) (cc : Addr) (a b : Value), bindArgs (ksFn "__init__" d.q (xArgs d.fld d.p1 d.p2) (xBody d.fld d.txt d.k d.p) (xScope d.fld) .none .none doc pm an cdv ct cc) ⟨[a, b], []⟩ = pure [(("self" : Str), a), (d.fld, b)]) :
    ExcTxt P K mg d.x d.q d.fld (ga K d.x) (ma K (ga K d.x) "__init__") := by
  unfold ExD.ok at c
  simp only [Bool.and_eq_true] at c
  obtain ⟨c1, c2, c3, c4, c5, c6, c7, c8, c9, c10, c11, c12, c13, c14, c15, c16, c17, c18, c19, c20, c21⟩ := c
  refine { gC := mg_of X G (eqO_ok c1), cls := clsB_ok c2, sa := eqO_ok c3, ga := eqO_ok c4, gg := eqO_ok c5, noN := eqO_ok c6, iC := eqO_ok c7, tC := of_decide_eq_true c8, kC := c9, exC := of_decide_eq_true c10, veC := of_decide_eq_true c11,
           tyC := of_decide_eq_true c12, hdC := c13, sup := eqO_ok c14, ini := c15, self := of_decide_eq_true c16, third := eqO_ok c17, noS := eqO_ok c18, fn := ?_, fldOk := ?_, topS := topS }
  · unfold initB at c19
    unfold fnC at e
    split at c19
    · rename_i oc od fd osl ho
      rw [ho] at e
      obtain ⟨n1, n2, n3, n4, n5, n6, n7, n8, n9, n10, n11, n12, n13, n14, n15⟩ := fd
      have e2 : (some (n1, n2, n3, n4, n5, n6, n7.map (·.1), n8, n9, n15) : FnC) = d.val := e
      unfold ExD.val at e2
      simp only [Option.some.injEq, Prod.mk.injEq] at e2
      obtain ⟨h1, h2, h3, h4, h5, h6, h7, h8, h9, h10⟩ := e2
      subst h1 h2 h3 h4 h5 h6 h8 h9 h10
      match n7, h7 with
      | [(y, cc)], h7 =>
        obtain rfl : y = "__class__" := (List.cons.inj h7).1
        simp only [Bool.and_eq_true] at c19
        obtain ⟨⟨k1, k2⟩, k3⟩ := c19
        have k1' : codeIn K n13 d.q = true := k1
        obtain ⟨cda, rfl⟩ : ∃ c, n13 = .ref c := by
          cases n13 with
          | ref c => exact ⟨c, rfl⟩
          | _ => cases k1'
        refine ⟨oc, od, n10, n11, n12, cda, n14, osl, cc, d.txt, d.k, d.p, d.p1, d.p2, ho, k1', ?_, c20, cellB_ok k3, fun a b => hb _ _ _ _ _ _ _ _⟩
        rw [hf]
        exact fileB_ok k2
    · cases c19
  · unfold fldB at c21
    simp only [Bool.and_eq_true, beq_iff_eq] at c21
    exact c21
/-! the Hook -/
abbrev AlX : Type := Bool × List FnW × List FnC
def obsX (file : Str) (bs : List (Frag → Bool)) (fa : List Fa) (fn : List DefD) (ex : List ExD) (K : Frag) : AlX :=
  ((fa.all fun f => f.ok K) && ((fn.all fun d => d.ok K) && ((bs.all fun b => b K) && ex.all fun d => d.ok file K)), fn.map fun d => fnW K d.at_, ex.map fun d => fnC K (ma K (ga K d.x) "__init__"))
def valX (fn : List DefD) (ex : List ExD) : AlX := (true, fn.map DefD.val, ex.map ExD.val)
def SaysX (file : Str) (bs : List (Frag → Bool)) (fa : List Fa) (fn : List DefD) (ex : List ExD) (K : Frag) : Prop := obsX file bs fa fn ex K = valX fn ex
def obsXG (n : Nat) (file : Str) (bs : List (Frag → Bool)) (fa : List Fa) (fn : List DefD) (ex : List ExD) (g : Addr → Option Obj) : AlX := obsX file bs fa fn ex (frG g (asD g n ++ [cStatics, sysModules]))
def hookX (n : Nat) (file : Str) (bs : List (Frag → Bool)) (fa : List Fa) (fn : List DefD) (ex : List ExD) : Hook where
  α := AlX
  obs := fun s => obsXG n file bs fa fn ex s.heap.get?
  val := fun _ => valX fn ex
  says := fun _ h => ∃ K : Frag, K.In h ∧ SaysX file bs fa fn ex K
  of := fun _ _ e => ⟨_, frG_in, e⟩
  keeps := fun _ _ _ ⟨K, hK, c⟩ k => ⟨K, Frag.In.keeps hK k, c⟩
theorem obsXG_eq {n : Nat} {file : Str} {bs : List (Frag → Bool)} {fa : List Fa} {fn : List DefD} {ex : List ExD} {g : Addr → Option Obj} {s : Shared} (h : ∀ a, g a = s.heap.get? a) : obsXG n file bs fa fn ex g = (hookX n file bs fa fn ex).obs s := by
  have e : g = s.heap.get? := funext h
  rw [e] <;> rfl
section
variable {file : Str} {bs : List (Frag → Bool)} {fa : List Fa} {fn : List DefD} {ex : List ExD} {K : Frag}
theorem SaysX.all (c : SaysX file bs fa fn ex K) : ((fa.all fun f => f.ok K) && ((fn.all fun d => d.ok K) && ((bs.all fun b => b K) && ex.all fun d => d.ok file K))) = true := congrArg (fun z : AlX => z.1) c
theorem SaysX.fact (c : SaysX file bs fa fn ex K) (i : Nat) {f : Fa} (h : fa[i]? = some f := by rfl) : f.ok K = true := List.all_eq_true.mp (ba c.all).1 f (List.mem_of_getElem? h)
theorem SaysX.test (c : SaysX file bs fa fn ex K) (i : Nat) {b : Frag → Bool} (h : bs[i]? = some b := by rfl) : b K = true := List.all_eq_true.mp (ba (ba (ba c.all).2).2).1 b (List.mem_of_getElem? h)
theorem SaysX.def_ (c : SaysX file bs fa fn ex K) (i : Nat) {d : DefD} (h : fn[i]? = some d := by rfl) : ∃ fd, FunD K d.name d.qual d.params d.body d.scope (d.dvs K) (d.kws K) (fAd K d.at_) fd := by
  have c2 := (ba (ba c.all).2).1
  have e : fn.map (fun d => fnW K d.at_) = fn.map DefD.val := congrArg (fun z : AlX => z.2.1) c
  have e2 : (fn.map fun d => fnW K d.at_)[i]? = (fn.map DefD.val)[i]? := by rw [e]
  rw [List.getElem?_map, List.getElem?_map, h] at e2
  exact DefD.funD (Option.some.inj e2) (List.all_eq_true.mp c2 d (List.mem_of_getElem? h))
theorem SaysX.exc (c : SaysX file bs fa fn ex K) {P : Program} {h : Heap} {mg : Str → Option Value} (X : K.In h) (G : h.Ns mainGlobals mg) (hf : P.main.file = file) (topS : (P.main.scope.names.lookup ("super" : Str)).isSome = false) (i : Nat) {d : ExD} (hd : ex[i]? = some d := by rfl)
    (hb : ∀ (doc pm : Value) (an : Option Addr) (cdv ct : Value) (cc : Addr) (a b : Value), bindArgs (ksFn "__init__" d.q (xArgs d.fld d.p1 d.p2) (xBody d.fld d.txt d.k d.p) (xScope d.fld) .none .none doc pm an cdv ct cc) ⟨[a, b], []⟩ = pure [(("self" : Str), a), (d.fld, b)]) :
    ExcTxt P K mg d.x d.q d.fld (ga K d.x) (ma K (ga K d.x) "__init__") := by
  have c2 := (ba (ba (ba c.all).2).2).2
  have e : ex.map (fun d => fnC K (ma K (ga K d.x) "__init__")) = ex.map ExD.val := congrArg (fun z : AlX => z.2.2) c
  have e2 : (ex.map fun d => fnC K (ma K (ga K d.x) "__init__"))[i]? = (ex.map ExD.val)[i]? := by rw [e]
  rw [List.getElem?_map, List.getElem?_map, hd] at e2
  exact ExD.toTxt X G (Option.some.inj e2) (List.all_eq_true.mp c2 d (List.mem_of_getElem? hd)) hf topS hb
end
def smB (K : Frag) : Bool := match K.lookup sysModules with
  | some ⟨.type c, _, _, _⟩ => c == "dict"
  | _ => false
theorem smB_ok {K : Frag} (h : smB K = true) : L2.HasSm K := by
  unfold smB at h
  split at h
  · rename_i c a b d e
    rw [beq_iff_eq] at h
    subst h
    exact ⟨_, e, rfl⟩
  · cases h
end EXV
end PySem

namespace L2
open PySem PySem.Spec PyProof.Rows
/-! ### try with several clauses, each by one name, with or without 'as'; clauses that are never reached may be of any form -/
inductive Cl where
  | one (c : Value) (ts : Addr → Value → Option Addr → TS)
  | as_ (c : Value) (i : Nat) (ts : Addr → Value → Option Addr → TS)
/-- the ends of a suite whose name goes at its end -/
abbrev goneE (i : Nat) (D : Ends) : Ends := { nx := fun σ' H' => D.nx (σ'.set i none) H', rt := D.rt, bk := fun σ' H' => D.bk (σ'.set i none) H', ct := fun σ' H' => D.ct (σ'.set i none) H' }
def wG (K : PySem.W.Frag) (D : Ends) : List Cl → WX
  | [] => fun _ _ _ _ => False
  | .one c ts :: r => fun cls d σ H => ∃ b, PySem.W.exmOne K cls c = some b ∧ (b = true → ∀ a, H a = none → ts a cls d D σ H) ∧ (b = false → wG K D r cls d σ H)
  | .as_ c i ts :: r => fun cls d σ H => ∃ b, PySem.W.exmOne K cls c = some b ∧ (b = true → ∀ a, H a = none → ts a cls d (goneE i D) (σ.set i (some (.ref a))) H) ∧ (b = false → wG K D r cls d σ H)
/-- a suite of a clause -/
abbrev SuOk (X : Cx) (suite : List Stmt) (ts : Addr → Value → Option Addr → TS) : Prop :=
  ∀ (a : Addr) (oe : Obj) (cls : Value) (d : Option Addr) (pn : List (Addr × Obj)), Zc cls d oe → (∃ vs, oe.data = .fields vs) → PSs (X.suite a ((a, oe) :: pn)) suite (ts a cls d)
inductive HdsG (X : Cx) : List ExceptHandler → List Cl → Prop
  | stop {hds : List ExceptHandler} : HdsG X hds []
  | one {x : Str} {c : Value} {ts : Addr → Value → Option Addr → TS} {b₀ : Stmt} {suite : List Stmt} {np pos' : Pos} {hds : List ExceptHandler} {l : List Cl} (hc : Names X x c) (hsu : SuOk X (b₀ :: suite) ts) (r : HdsG X hds l) :
      HdsG X (.ExceptHandler (some (.Name x np)) none (b₀ :: suite) pos' :: hds) (.one c ts :: l)
  | as_ {x n : Str} {c : Value} {i : Nat} {ts : Addr → Value → Option Addr → TS} {b₀ : Stmt} {suite : List Stmt} {np pos' : Pos} {hds : List ExceptHandler} {l : List Cl} (hN : X.N.Nodup) (hi : X.N[i]? = some n) (hln : X.env.kindOf n = some .local) (hc : Names X x c)
      (hsu : SuOk X (b₀ :: suite) ts) (r : HdsG X hds l) : HdsG X (.ExceptHandler (some (.Name x np)) (some n) (b₀ :: suite) pos' :: hds) (.as_ c i ts :: l)
section
variable {X : Cx} {body : List Stmt} {h₀ : ExceptHandler} {hds : List ExceptHandler} {l : List Cl} {pos : Pos} {tb : WX → TS}
theorem ps_tryG (hs : X.stack = X.env :: X.outer) (hf : X.env.frame = some X.env.locals)
    (hb : ∀ (W : WX) (pn : List (Addr × Obj)) (xe : Value → Shared → Prop), Takes (X.tr pn xe) W → PassesOwn (model X.prog X.w) X.A X.env xe → PSs (X.tr pn xe) body (tb W))
    (hh : HdsG X (h₀ :: hds) l) : PS X (.Try body (h₀ :: hds) [] [] pos) (fun D σ H => tb (wG X.K D l) D σ H) := by
  refine ⟨fun pins s σ H D I h => ?_⟩
  have ok := I.ok
  have hfr : X.A.frames = some (X.env :: X.outer) := by rw [ok.frames, hs]
  -- an end of the body, of a suite
  have done : ∀ {f : Flow} {s1 : Shared} {pn : List (Addr × Obj)} {xe : Value → Shared → Prop}, SP (X.tr (X.pn ++ pins) xe) pn D f s1 → SP X pins D f s1 := fun {f s1 pn xe} hsp => by
    cases f with
    | next => obtain ⟨σ', H', J', q⟩ := hsp; exact ⟨σ', H', J'.ofTry ok, q⟩
    | brk => obtain ⟨σ', H', J', q⟩ := hsp; exact ⟨σ', H', J'.ofTry ok, q⟩
    | cont => obtain ⟨σ', H', J', q⟩ := hsp; exact ⟨σ', H', J'.ofTry ok, q⟩
    | ret u => obtain ⟨v, σ', H', J', r, q⟩ := hsp; exact ⟨v, σ', H', J'.ofTry ok, r, q⟩
  refine wpAny_Try_except ?_
  refine wpAny_mono ((hb (wG X.K D l) (X.pn ++ pins) (fun e s₁ => wpAny (model X.prog X.w) X.A (noteFrame e X.env) (fun _ s₂ => wpAny (model X.prog X.w) X.A (setFlight e none) (fun _ s₃ =>
    wpAny (model X.prog X.w) X.A (handleBy e X.env (h₀ :: hds)) (SP X pins D) X.xe s₃) X.xe s₂) X.xe s₁) (fun u s' xx => ?_) PassesOwn.looking).run [] s σ H D (I.toTry _) h) (fun f s1 hsp => ?_) (fun e s1 he => he)
  · obtain ⟨a, B, sI, pins', σ', H', cls, d, rfl, J', nb, up, sky, na, os, ag, w⟩ := xx
    have J : Inv X pins σ' H' sI := J'.ofTry ok
    have sky' : Sky B (X.env :: X.outer) a (Zc cls d) X.env.locals s'.heap := by rw [← hs]; exact sky
    show wpAny (model X.prog X.w) X.A (noteFrame (.ref a) X.env) _ _ _
    refine Sky.land Zc.steady hfr hf sky' fun h3 fl3 up3 => ?_
    have J3 : Inv X pins σ' H' { s' with heap := h3 } := J.landed nb fl3.1 (up.trans up3) os ag
    obtain ⟨oe3, vs3, he3, hz3, hd3⟩ := fl3.there
    have nfr : a ∉ frs (X.env :: X.outer) := fun hm => by
      obtain ⟨_, o', e', hnf⟩ := fl3.2.2.1.mem hm
      rw [he3] at e'
      cases e'
      exact hnf _ hd3
    have nL : a ≠ X.env.locals := fun z => nfr (List.mem_filterMap.mpr ⟨X.env, List.mem_cons_self, by rw [hf, z]⟩)
    have nF : a ∉ X.fs := fun hm => by
      obtain ⟨e, he, q⟩ := List.mem_filterMap.mp hm
      exact nfr (List.mem_filterMap.mpr ⟨e, List.mem_cons_of_mem _ he, q⟩)
    have S3 := J3.suite he3 hd3 na nL nF
    have LT : PySem.W.Looks (model X.prog X.w) h3 (typeOf (.ref a)) cls := fun A Q E s k q => wpAny_typeOf_ref (k _ _ he3) (by rw [hz3.1]; exact q)
    have test : ∀ {x : Str} {np : Pos} {c : Value} {Q E : Value → Shared → Prop}, Names X x c → Q c { s' with heap := h3 } → wpAny (model X.prog X.w) (X.A.mark (some (.ref a))) (eval (.Name x np) X.env) Q E { s' with heap := h3 } := fun hc q => by
      obtain ⟨hg, hdbg, hm | ⟨hm, hv, hnn⟩⟩ := hc
      · exact ld_glob (X := X.suite a ((a, oe3) :: (X.pn ++ pins))) S3 hg hm q hdbg
      · exact ld_blt (X := X.suite a ((a, oe3) :: (X.pn ++ pins))) S3 hg hm hv q hnn hdbg
    have go : ∀ {hds' : List ExceptHandler} {l' : List Cl}, HdsG X hds' l' → wG X.K D l' cls d σ' H' → wpAny (model X.prog X.w) X.A (handleBy (.ref a) X.env hds') (SP X pins D) X.xe { s' with heap := h3 } := by
      intro hds' l' hk
      induction hk with
      | stop => exact fun w => False.elim w
      | one hc hsu r ih =>
        intro w
        obtain ⟨b, hb1, hyes, hno⟩ := w
        refine wpAny_handleBy_cons (codeAny_handlers_test ?_) (by intro q; cases q)
        refine test hc ((PySem.W.exm_one (M := model X.prog X.w) J3.kIn LT hb1).here ?_)
        cases b with
        | false => exact ih (hno rfl)
        | true =>
          refine codeAny_handlers_suite (HandSPX.lands_againZ fl3 fun h4 fl4 up4 => ?_)
          have J4 : Inv X pins σ' H' { s' with heap := h4 } := J.landed nb fl4.1 ((up.trans up3).trans up4) os ag
          obtain ⟨oe4, vs4, he4, hz4, hd4⟩ := fl4.there
          refine wpAny_mono ((hsu a oe4 cls d (X.pn ++ pins) hz4 ⟨_, hd4⟩).run [] _ _ H' _ (J4.suite he4 hd4 na nL nF) (hyes rfl a na)) (fun f s6 hsp => ?_) (fun _ _ z => False.elim z)
          cases f with
          | next => obtain ⟨σ6, H6, S6, q6⟩ := hsp; exact ⟨_, _, S6.unsuite ok, q6⟩
          | brk => obtain ⟨σ6, H6, S6, q6⟩ := hsp; exact ⟨_, _, S6.unsuite ok, q6⟩
          | cont => obtain ⟨σ6, H6, S6, q6⟩ := hsp; exact ⟨_, _, S6.unsuite ok, q6⟩
          | ret u => obtain ⟨v6, σ6, H6, S6, r6, q6⟩ := hsp; exact ⟨_, _, _, S6.unsuite ok, r6, q6⟩
      | as_ hN hi hln hc hsu r ih =>
        intro w
        obtain ⟨b, hb1, hyes, hno⟩ := w
        refine wpAny_handleBy_cons (codeAny_handlers_test ?_) (by intro q; cases q)
        refine test hc ((PySem.W.exm_one (M := model X.prog X.w) J3.kIn LT hb1).here ?_)
        cases b with
        | false => exact ih (hno rfl)
        | true =>
          refine codeAny_handlers_suite_as (HandSPX.lands_againZ fl3 fun h4 fl4 up4 => ?_)
          have J4 : Inv X pins σ' H' { s' with heap := h4 } := J.landed nb fl4.1 ((up.trans up3).trans up4) os ag
          obtain ⟨oe4, vs4, he4, hz4, hd4⟩ := fl4.there
          refine store_ok (X := X.suite a ((a, oe4) :: (X.pn ++ pins))) (v := .ref a) (J4.suite he4 hd4 na nL nF) hN hi (.inl hln) rfl (fun s5 S5 => ?_) (.inr hln)
          refine wpAny_mono ((hsu a oe4 cls d (X.pn ++ pins) hz4 ⟨_, hd4⟩).run [] s5 _ H' _ S5 (hyes rfl a na)) (fun f s6 hsp => ?_) (fun _ _ z => False.elim z)
          cases f with
          | next => obtain ⟨σ6, H6, S6, q6⟩ := hsp; exact gone_ok (S6.unsuite ok) hN hi hln fun s7 J7 => ⟨_, _, J7, q6⟩
          | brk => obtain ⟨σ6, H6, S6, q6⟩ := hsp; exact gone_ok (S6.unsuite ok) hN hi hln fun s7 J7 => ⟨_, _, J7, q6⟩
          | cont => obtain ⟨σ6, H6, S6, q6⟩ := hsp; exact gone_ok (S6.unsuite ok) hN hi hln fun s7 J7 => ⟨_, _, J7, q6⟩
          | ret u => obtain ⟨v6, σ6, H6, S6, r6, q6⟩ := hsp; exact gone_ok (S6.unsuite ok) hN hi hln fun s7 J7 => ⟨_, _, _, J7, r6, q6⟩
    exact go hh w
  · have r := done hsp
    cases f with
    | next => exact wpAny_execs_nil r
    | brk => exact r
    | cont => exact r
    | ret u => exact r
end
end L2

namespace PySem
namespace EXV
open PySem.W PySem.Calls PyProof.Rows PySem.Spec
section
variable {prog : Program} {w : World} {M : Model} {A : Around} {E : Value → Shared → Prop} {s : Shared} {K : Frag} {x C f : Addr} {ox : Obj} {od : Option Obj}
theorem ifBound_B {name : Str} {id : String} {args : List Value} {Q : Option Value → Shared → Prop} (X : K.In s.heap) (I : InstAt s.heap x ox C od) (hs : findIn K (.ref C) name = some (some (.builtin id)))
    (hb : ∀ self, bindSpecial (.builtin id) self = pure (.builtin id, [self])) (h : wpAny M A (call (.builtin id) (.ref x :: args)) (fun v => Q (some v)) E s) : wpAny M A (callSpecialIfBound? (.ref x) name args) Q E s := by
  simp only [callSpecialIfBound?, bindSpecialIfBound?]
  refine wpAny_holding (wpAny_bind (wpAny_bind (wpAny_bind (I.type.here ((looks_findIn X hs).here ?_)))))
  refine wpAny_bind (wpAny_askSetting (wpAny_ite ?_))
  have fin : wpAny M A (call (.builtin id) ([.ref x] ++ args) >>= fun v => pure (some v)) Q E s := wpAny_bind (wpAny_mono h (fun v s' h' => wpAny_pure h') fun _ _ h' => h')
  split
  · exact wpAny_bind ((Looks.of_pure (hb _)).here (wpAny_pure (by exact fin)))
  · exact wpAny_tryCatch (wpAny_bind ((Looks.of_pure (hb _)).here (wpAny_pure (by exact fin))))
open Builtin in
/-- x != b, x's class has its own __eq__, object's __ne__ -/
theorem ne_K {b tb : Value} {Q : Value → Shared → Prop} (hu : A.units + 1 < cLine) (X : K.In s.heap) (I : InstAt s.heap x ox C od) (hb : Looks (model prog w) s.heap (typeOf b) tb) (hn : notFirst K C tb = true)
    (hne : findIn K (.ref C) "__ne__" = some (some (.builtin "object.__ne__"))) (hm : mroIn K C (.type "object") = some true) (hs : findIn K (.ref C) "__eq__" = some (some (.ref f))) (hf : isFn K (.ref f) = true)
    (h : wpAny (model prog w) A.in1 (call (.ref f) [.ref x, b]) (fun v s' => ∃ r, v = .bool r ∧ Q (.bool (!r)) s') E s) : wpAny (model prog w) A (richCompare .NotEq (.ref x) b) Q E s := by
  have entry : wpAny (model prog w) A.in1 (Builtin.«object.__ne__» ⟨[.ref x, b], []⟩) (fun fin s' => ∃ v, fin = .done (.ret v) ∧ ∃ r, v = .bool (!r) ∧ Q (.bool (!r)) s') E s := by
    unfold Builtin.«object.__ne__»
    repeat (first
      | with_reducible refine wpAny_cRoomFor (by show A.units + 1 < cLine; exact hu) ?_
      | (refine wpAny_bind (m := callSpecialIfBound? (.ref x) (Str.ofString "__eq__") [b])
          (ifBound_K X I hs hf (wpAny_mono h (fun r s' hr => by
            obtain ⟨r, rfl, hq⟩ := hr
            repeat (first | exact ⟨_, rfl, _, rfl, hq⟩ | exact wpAny_pure ⟨_, rfl, _, rfl, hq⟩ | exact wpAny_truthy_bool ⟨_, rfl, _, rfl, hq⟩ | (refine wpAny_bind (m := truthy (.bool _)) (wpAny_truthy_bool ?_)) | wp_step)) fun _ _ e => e)))
      | wp_step)
  have one : wpAny (model prog w) A (tryCompare (.ref x) "__ne__" b) (fun r s' => ∃ v, r = some v ∧ Q v s') E s := by
    unfold tryCompare
    refine wpAny_bind (ifBound_B X I hne PySem.F.slot_object_ne.bind (wpAny_call (codeAny_call_builtin PySem.F.slot_object_ne.plain PySem.F.entry_object_ne
      (check_slot (i := "object.__ne__") (owner := "object") (n := "__ne__") (by decide +kernel) (by decide +kernel) (I.type.andThen (looks_mroIn X hm)) (PySem.F.args_object_ne_2 _ _) (wpAny_mono entry (fun fin s' z => ?_) fun _ _ z => z)))))
    obtain ⟨v, rfl, r, rfl, q⟩ := z
    first | exact wpAny_pure ⟨_, rfl, q⟩ | (show wpAny _ _ _ _ _ _; exact wpAny_pure ⟨_, rfl, q⟩)
  unfold richCompare
  simp only [oneThing_ref]
  refine wpAny_holding (wpAny_bind (wpAny_cRoomFor (Nat.lt_of_succ_lt hu) ?_))
  rw [cmpInfo_NotEq]
  dsimp only
  refine wpAny_bind (I.type.here (wpAny_bind (hb.here ?_)))
  split
  · rename_i q
    have e : subIn K tb (.ref C) = some false := by
      rcases Bool.or_eq_true_iff.mp hn with e | e
      · rw [beq_iff_eq.mp e] at q; simp at q
      · exact beq_iff_eq.mp e
    refine wpAny_bind ((looks_subIn X e).here ?_)
    simp only [Bool.false_eq_true, if_false]
    refine wpAny_bind (wpAny_mono one (fun r s' z => ?_) fun _ _ e => e)
    obtain ⟨v, rfl, hq⟩ := z
    exact wpAny_pure hq
  · refine wpAny_bind (wpAny_pure ?_)
    simp only [Bool.false_eq_true, if_false]
    refine wpAny_bind (wpAny_mono one (fun r s' z => ?_) fun _ _ e => e)
    obtain ⟨v, rfl, hq⟩ := z
    exact wpAny_pure hq
end
end EXV
end PySem
namespace L2
open PySem PySem.Spec PyProof.Rows
section
variable {X : Cx} {CX : CXT} {k : Nat} {C f : Addr} {fd : FuncData} {ps : List Str} {sp : Sp} {E : XK}
/-- the callee runs at another depth of the same frames -/
theorem run_fnAt {A' : Around} {pins : List (Addr × Obj)} {σ : St} {H : Hp} {s : Shared} {Q : VK} {us : List Value} {vs : List V} (hfr : A'.frames = X.A.frames) (F : FnOk X.prog X.w X.K X.mg X.base CX k f fd ps sp) (hr : Room k A') (hb : Binds X.K fd ps []) (hx : Passes CX X E)
    (I : Inv X pins σ H s) (r : Vals vs us) (h : sp vs H Q E) : wpAny (model X.prog X.w) A' (call (.ref f) us) (EP X pins σ Q) X.xe s := by
  have e := I.env0
  have e0 : Env0 X.prog X.w X.K X.mg X.base A' X.stack s H := ⟨by rw [hfr]; exact e.frames, e.mod, e.bs, e.bsz, e.funs, e.frf, e.hok, e.bare⟩
  have b := hb s us I.kIn (by rw [List.append_nil, ← r.length]; exact F.len _ _ _ _ h)
  rw [List.append_nil] at b
  refine wpAny_call (codeAny_mono (F.run A' X.stack s H ⟨us, []⟩ us vs Q E hr e0 b r h) fun r s' hq => ?_)
  match r, hq with
  | .error e, hq => exact hx pins σ H s e s' I hq
  | .ok (.ret u), hq => exact I.after hq
  | .ok .next, hq => exact hq.elim
  | .ok .brk, hq => exact hq.elim
  | .ok .cont, hq => exact hq.elim
/-! ### own ==, != and str, with both answers, the other operand of any type -/
def rEqX (K : PySem.W.Frag) (C : Addr) (sp : Sp) (E : XK) : R2 := fun x y H Q => ∃ a dx fs t, x = .ref a ∧ H a = some (.ins C dx fs) ∧ TyX K H y t ∧ PySem.W.notFirst K C t = true ∧ sp [x, y] H (fun v H' => ∃ b, v = .bl b ∧ Q (.bl b) H') E
def rNeX (K : PySem.W.Frag) (C : Addr) (sp : Sp) (E : XK) : R2 := fun x y H Q => ∃ a dx fs t, x = .ref a ∧ H a = some (.ins C dx fs) ∧ TyX K H y t ∧ PySem.W.notFirst K C t = true ∧ sp [x, y] H (fun v H' => ∃ b, v = .bl b ∧ Q (.bl (!b)) H') E
def rStrX (C : Addr) (sp : Sp) (E : XK) : List V → Hp → VK → Prop := fun xs H Q => ∃ a dx fs, xs = [.ref a] ∧ H a = some (.ins C dx fs) ∧ sp [.ref a] H (fun v H' => ∃ b, v = .str b ∧ Q (.str b) H') E
theorem op_eqX (F : FnOk X.prog X.w X.K X.mg X.base CX k f fd ps sp) (hr : Room k X.A) (hb : Binds X.K fd ps []) (hx : Passes CX X E) (hs : PySem.W.findIn X.K (.ref C) "__eq__" = some (some (.ref f))) (hf : PySem.W.isFn X.K (.ref f) = true) :
    OpR X (compareOp .Eq) (rEqX X.K C sp E) := by
  intro pins s σ H x y v u Q I rx ry h
  obtain ⟨a, dx, fs, t, rfl, ha, ty, hn, hsp⟩ := h
  cases rx
  obtain ⟨mA, J, _⟩ := ins_get I.hok ha
  obtain ⟨od, J, _⟩ := J.look
  obtain ⟨m, hF⟩ := I.fr
  obtain ⟨P, Z, p, _⟩ := kit_of I ry ty
  refine PySem.W.cmp_K (op := .Eq) (tb := t) hr.units0 hF I.ok.mod.kin J (Z.ty _ _ I.kIn p) hn hs hf ?_
  refine wpAny_mono (run_fnAt (vs := [.ref a, y]) rfl F hr hb hx I (.cons rfl (.cons ry .nil)) hsp) (fun w s' z => ?_) fun _ _ z => z
  obtain ⟨v', H', I', rv, b, rfl, q⟩ := z
  obtain rfl : w = .bool b := rv
  exact ⟨.bl b, H', I', rfl, q⟩
theorem op_neX (F : FnOk X.prog X.w X.K X.mg X.base CX k f fd ps sp) (hr : Room (k + 1) X.A) (hb : Binds X.K fd ps []) (hx : Passes CX X E) (hne : PySem.W.findIn X.K (.ref C) "__ne__" = some (some (.builtin "object.__ne__"))) (hm : PySem.W.mroIn X.K C (.type "object") = some true)
    (hs : PySem.W.findIn X.K (.ref C) "__eq__" = some (some (.ref f))) (hf : PySem.W.isFn X.K (.ref f) = true) : OpR X (compareOp .NotEq) (rNeX X.K C sp E) := by
  intro pins s σ H x y v u Q I rx ry h
  obtain ⟨a, dx, fs, t, rfl, ha, ty, hn, hsp⟩ := h
  cases rx
  obtain ⟨mA, J, _⟩ := ins_get I.hok ha
  obtain ⟨od, J, _⟩ := J.look
  obtain ⟨P, Z, p, _⟩ := kit_of I ry ty
  refine PySem.EXV.ne_K (by have := hr.un; omega) I.kIn J (Z.ty _ _ I.kIn p) hn hne hm hs hf ?_
  refine wpAny_mono (run_fnAt (vs := [.ref a, y]) rfl F hr.in1 hb hx I (.cons rfl (.cons ry .nil)) hsp) (fun w s' z => ?_) fun _ _ z => z
  obtain ⟨v', H', I', rv, b, rfl, q⟩ := z
  obtain rfl : w = .bool b := rv
  exact ⟨b, rfl, .bl (!b), H', I', rfl, q⟩
theorem call_strX (F : FnOk X.prog X.w X.K X.mg X.base CX k f fd ps sp) (hr : Room (k + 2) X.A) (hb : Binds X.K fd ps []) (hx : Passes CX X E) (hs : PySem.W.findIn X.K (.ref C) "__str__" = some (some (.ref f))) (hf : PySem.W.isFn X.K (.ref f) = true) :
    CallR X (.type "str") (rStrX C sp E) := by
  intro pins s σ H xs us Q I r h
  obtain ⟨a, dx, fs, rfl, ha, hsp⟩ := h
  obtain ⟨u, rfl, ru⟩ := vals1 r
  cases ru
  obtain ⟨mA, J, _⟩ := ins_get I.hok ha
  obtain ⟨od, J, _⟩ := J.look
  refine PySem.W.kso_call hr.in1.in1.units0 I.kIn J hs hf ?_
  refine wpAny_mono (run_fnAt (vs := [.ref a]) rfl F hr.in1.in1 hb hx I (.cons rfl .nil) hsp) (fun w s' z => ?_) fun _ _ z => z
  obtain ⟨v', H', I', rv, b, rfl, q⟩ := z
  obtain ⟨t, rfl⟩ := rv
  exact ⟨.str b, H', I', ⟨t, rfl⟩, q⟩
end
end L2

namespace PySem
namespace EXV
open L2
/-- an own error class's text, read off its __init__ -/
def exdOf (x q fld txt : Str) (st : Stmt) : ExD :=
  match defBody st, (defArgs st).args with
  | [.Expr (.Call (.Attribute (.Call (.Name _ a0) _ _ a1) _ a2) [.Constant _ k a3] _ a4) a5, .Assign [.Attribute (.Name _ a6) _ a7] (.Name _ a8) a9], [u, v] =>
    ⟨x, q, fld, txt, k, fun i => [a0, a1, a2, a3, a4, a5, a6, a7, a8, a9].getD i a0, u.pos, v.pos⟩
  | _, _ => ⟨x, q, fld, txt, 0, fun _ => ⟨0, 0, 0, 0⟩, ⟨0, 0, 0, 0⟩, ⟨0, 0, 0, 0⟩⟩
end EXV
end PySem
namespace L2
open PySem PySem.Spec PyProof.Rows
/-! ### making an instance, the wish of what is raised at the caller's slots -/
def tMakeS (C : Addr) (sp : Sp) (dvs : List V) (E : St → XK) (t : TA) : TE := fun σ H Q => t σ H fun vs H1 => ∀ x dx, H1 x = none → H1 dx = none → dx ≠ x →
  sp (.ref x :: (vs ++ dvs)) (upd (upd H1 dx (.own x)) x (.ins C dx [])) (fun v H2 => v = .non ∧ Q (.ref x) H2) (E σ)
section
variable {X : Cx} {CX : CXT} {k : Nat} {f C : Addr} {fd : FuncData} {ps : List Str} {sp : Sp} {dvs : List V} {ds : List Value} {E : St → XK} {x : Str} {p pos : Pos} {e : Expr} {es : List Expr} {t : TA}
theorem run_makeS {pins : List (Addr × Obj)} {σ : St} {H : Hp} {s : Shared} {Q : VK} {us : List Value} {vs : List V} (M : Mk X.K C f) (F : FnOk X.prog X.w X.K X.mg X.base CX k f fd ps sp) (hr : Room (k + 1) X.A) (hb : Binds X.K fd ps ds) (hd : Vals dvs ds)
    (hx : PassesAt CX X σ (E σ)) (I : Inv X pins σ H s) (r : Vals vs us)
    (h : ∀ x dx, H x = none → H dx = none → dx ≠ x → sp (.ref x :: (vs ++ dvs)) (upd (upd H dx (.own x)) x (.ins C dx [])) (fun v H2 => v = .non ∧ Q (.ref x) H2) (E σ)) :
    wpAny (model X.prog X.w) X.A (call (.ref C) us) (EP X pins σ Q) X.xe s := by
  have hq := h (s.heap.objs.size + 1) s.heap.objs.size (I.hok.fresh (Nat.le_succ _)) (I.hok.fresh (Nat.le_refl _)) (Nat.ne_of_lt (Nat.lt_succ_self _))
  have I2 := Inv.made (C := C) I
  have r2 : Vals (V.ref (s.heap.objs.size + 1) :: (vs ++ dvs)) (Value.ref (s.heap.objs.size + 1) :: (us ++ ds)) := .cons rfl (r.append hd)
  have hl : (Value.ref (s.heap.objs.size + 1) :: us ++ ds).length = ps.length := (r2.length.symm.trans (F.len _ _ _ _ hq))
  refine wpAny_call (make_map (f := f) I.kIn M.makes M.init (beq_iff_eq.mp M.fn) (codeAny_mono (F.run _ X.stack _ _ ⟨Value.ref (s.heap.objs.size + 1) :: us, []⟩ (Value.ref (s.heap.objs.size + 1) :: (us ++ ds)) _ _ (E σ) (hr.make C us [])
    (I2.env0.make C us []) (hb _ (Value.ref (s.heap.objs.size + 1) :: us) I2.kIn hl) r2 hq) fun r s' hq' => ?_))
  match r, hq' with
  | .error e, hq' => exact hx pins _ _ e s' I2 hq'
  | .ok (.ret u), hq' =>
    obtain ⟨v, H', I3, rv, rfl, q3⟩ := I2.after hq'
    exact ⟨rv, ⟨V.ref (s.heap.objs.size + 1), H', I3, rfl, q3⟩⟩
  | .ok .next, hq' => exact hq'.elim
  | .ok .brk, hq' => exact hq'.elim
  | .ok .cont, hq' => exact hq'.elim
theorem pe_makeS (M : Mk X.K C f) (F : FnOk X.prog X.w X.K X.mg X.base CX k f fd ps sp) (hr : Room (k + 1) X.A) (hg : Gl X x) (hm : X.mg x = some (.ref C)) (hb : Binds X.K fd ps ds) (hd : Vals dvs ds) (hx : ∀ σ, PassesAt CX X σ (E σ))
    (ha : PA X (e :: es) t) (hdb : (x == ("__debug__" : Str)) = false := by decide) (he : starEach (e :: es) X.env = (false, eval e X.env) :: starEach es X.env := by rfl) (hpl : (backTo pos (starEach es X.env)).any (·.1) = false := by rfl) :
    PE X (.Call (.Name x p) (e :: es) [] pos) (tMakeS C sp dvs E t) := by
  refine ⟨fun pins s σ H Q I h => wpAny_Call_Name_kw (ld_glob I hg hm ?_ hdb)⟩
  exact PySem.W.callWith_K (h₀ := X.base) I.ok.mod.kin M.kp (thn (ha.run pos pins s σ H _ I h) fun us s1 ⟨vs, H1, I1, r, q⟩ => ⟨I1.kIn, run_makeS M F hr hb hd (hx σ) I1 r q⟩) he hpl
end
/-- nothing is raised there -/
abbrev E0S : St → XK := fun _ => E0
theorem passS {X : Cx} : ∀ σ, PassesAt (L2.CX X.prog X.w) X σ (E0S σ) := fun _ pins H s e s' I h => passL pins _ H s e s' I h
theorem passS0 {X : Cx} : ∀ σ, PassesAt CX0 X σ (E0S σ) := fun _ _ _ _ _ _ _ h => h.elim
/-! ### an own class among the types -/
def tyNames : List String := ["NoneType", "int", "str", "bool", "list", "tuple", "dict"]
structure OwnC (K : PySem.W.Frag) (C : Addr) : Prop where
  cl : Cls K C
  ia : PySem.W.findIn K (.ref C) "__class__" = some (some (.builtin "object.__class__"))
  ig : PySem.W.specialIn K (.builtin "object.__class__") "__get__" = some (some (.builtin "getset_descriptor.__get__"))
  it : PySem.W.takesIn K (.builtin "object.__class__") = some true
  ob : PySem.W.mroIn K C (.type "object") = some true
  ne : PySem.W.findIn K (.ref C) "__ne__" = some (some (.builtin "object.__ne__"))
  to : ∀ n ∈ ["int", "str", "bool", "list", "tuple", "dict"], PySem.W.kitOne K (.ref C) (.type n) = some false
  fr : ∀ n ∈ tyNames, PySem.W.kitOne K (.type n) (.ref C) = some false
  nf : ∀ n ∈ tyNames, PySem.W.notFirst K C (.type n) = true
  me : PySem.W.kitOne K (.ref C) (.ref C) = some true
  nm : PySem.W.notFirst K C (.ref C) = true
def ownB (K : PySem.W.Frag) (x : Str) : Bool :=
  let C := He.ga K x
  (He.Fa.cls x).ok K && (He.eqO (PySem.W.findIn K (.ref C) "__class__") (some (some (.builtin "object.__class__"))) && (He.eqO (PySem.W.specialIn K (.builtin "object.__class__") "__get__") (some (some (.builtin "getset_descriptor.__get__"))) &&
  (decide (PySem.W.takesIn K (.builtin "object.__class__") = some true) && (decide (PySem.W.mroIn K C (.type "object") = some true) && (He.eqO (PySem.W.findIn K (.ref C) "__ne__") (some (some (.builtin "object.__ne__"))) &&
  ((["int", "str", "bool", "list", "tuple", "dict"].all fun n => decide (PySem.W.kitOne K (.ref C) (.type n) = some false)) && ((tyNames.all fun n => decide (PySem.W.kitOne K (.type n) (.ref C) = some false)) && ((tyNames.all fun n => PySem.W.notFirst K C (.type n)) &&
  (decide (PySem.W.kitOne K (.ref C) (.ref C) = some true) && PySem.W.notFirst K C (.ref C))))))))))
theorem ownB_ok {K : PySem.W.Frag} {x : Str} (h : ownB K x = true) : OwnC K (He.ga K x) := by
  unfold ownB at h
  simp only [Bool.and_eq_true] at h
  obtain ⟨h1, h2, h3, h4, h5, h6, h7, h8, h9, h10, h11⟩ := h
  exact ⟨He.cls_ok h1, He.eqO_ok h2, He.eqO_ok h3, of_decide_eq_true h4, of_decide_eq_true h5, He.eqO_ok h6, fun n hn => of_decide_eq_true (List.all_eq_true.mp h7 n hn), fun n hn => of_decide_eq_true (List.all_eq_true.mp h8 n hn), fun n hn => List.all_eq_true.mp h9 n hn, of_decide_eq_true h10, h11⟩
theorem OwnC.ty {K : PySem.W.Frag} {C : Addr} (O : OwnC K C) {H : Hp} {a dx : Addr} {fs : List (Str × V)} (e : H a = some (.ins C dx fs)) : TyX K H (.ref a) (.ref C) := .base (.ins e O.cl O.ia O.ig O.it O.ob)
theorem Meth.found {X : PySem.W.Frag} {C f : Addr} {m : Str} (h : Meth X C m f) : PySem.W.findIn X (.ref C) m = some (some (.ref f)) := h.1
end L2

namespace L2
open PySem PySem.Spec PyProof.Rows
/-! ### data whose repr fits -/
def CpOk (x : Str) : Prop := ∀ c ∈ x.cps.toList, c < 16 ^ 8
theorem cpOk_of (s : String) : CpOk (Str.ofString s) := by
  intro c hc
  rw [Str.ofString_eq_toList] at hc
  obtain ⟨ch, _, rfl⟩ := List.mem_map.mp (show c ∈ s.toList.map Char.toNat by simpa using hc)
  have h : ch.toNat < 4294967296 := ch.val.toNat_lt
  exact h
theorem cpOk_app {x y : Str} (hx : CpOk x) (hy : CpOk y) : CpOk (x ++ y) := by
  intro c hc
  have e : (x ++ y).cps.toList = x.cps.toList ++ y.cps.toList := by show (x.cps ++ y.cps).toList = _; simp
  rw [e] at hc
  exact (List.mem_append.mp hc).elim (hx c) (hy c)
theorem cpOk_empty : CpOk Str.empty := fun c hc => by cases hc
/-- repr fits in B signs, nested at most k deep -/
structure OkD (B k : Nat) (d : PyData) : Prop where
  sh : d.showable = true
  dp : d.depth ≤ k
  ln : d.shown.length ≤ B
theorem OkD.mono {B B' k k' : Nat} {d : PyData} (h : OkD B k d) (hB : B ≤ B') (hk : k ≤ k') : OkD B' k' d := ⟨h.sh, Nat.le_trans h.dp hk, Nat.le_trans h.ln hB⟩
theorem OkD.fine {B k : Nat} {d : PyData} (h : OkD B k d) (hB : B ≤ 16777216) (hk : k ≤ 60) : Fine d := ⟨h.sh, Nat.le_trans h.dp hk, by rw [sizeLine_eq]; exact Nat.le_trans h.ln hB⟩
theorem okd_none : OkD 4 0 .none := ⟨rfl, Nat.le_refl _, Nat.le_refl _⟩
theorem okd_bool (b : Bool) : OkD 5 0 (.bool b) := ⟨rfl, Nat.le_refl _, by cases b <;> decide⟩
theorem okd_int {i : Int} (h : i.natAbs < 10 ^ 500) : OkD 501 0 (.int i) := by
  refine ⟨?_, Nat.le_refl _, ?_⟩
  · have e : i.natAbs.log2 < 1900 := PySem.Flt.log2_lt_of (k := 1900) (by decide) (Nat.lt_of_lt_of_le h (by decide +kernel))
    simp only [PyData.showable, decide_eq_true_eq]
    omega
  · show (Str.ofString (toString i)).length ≤ 501
    rw [PySem.ofString_length]
    exact int_text_length_le10 (k := 500) (by decide) h
theorem okd_str {x : Str} {n : Nat} (h : CpOk x) (l : x.length ≤ n) : OkD (10 * n + 2) 0 (.str x) := by
  refine ⟨rfl, Nat.le_refl _, ?_⟩
  have := StrLaws.reprText_len x h
  simp only [PyData.shown]
  omega
theorem showableAll_of : ∀ {ds : List PyData}, (∀ d ∈ ds, d.showable = true) → PyData.showableAll ds = true
  | [], _ => rfl
  | d :: ds, h => by
    simp only [PyData.showableAll, Bool.and_eq_true]
    exact ⟨h d List.mem_cons_self, showableAll_of fun x hx => h x (List.mem_cons_of_mem _ hx)⟩
theorem depthAll_of {k : Nat} : ∀ {ds : List PyData}, (∀ d ∈ ds, d.depth ≤ k) → PyData.depthAll ds ≤ k
  | [], _ => Nat.zero_le _
  | d :: ds, h => by
    simp only [PyData.depthAll]
    exact Nat.max_le.mpr ⟨h d List.mem_cons_self, depthAll_of fun x hx => h x (List.mem_cons_of_mem _ hx)⟩
theorem shownAll_sum {B : Nat} : ∀ {ds : List PyData}, (∀ d ∈ ds, d.shown.length ≤ B) → ((PyData.shownAll ds).map (·.length)).sum ≤ ds.length * B
  | [], _ => Nat.zero_le _
  | d :: ds, h => by
    have h1 := h d List.mem_cons_self
    have h2 := shownAll_sum (ds := ds) fun x hx => h x (List.mem_cons_of_mem _ hx)
    simp only [PyData.shownAll, List.map_cons, List.sum_cons, List.length_cons, Nat.add_mul, Nat.one_mul]
    omega
theorem okd_list {B k m : Nat} {ds : List PyData} (h : ∀ d ∈ ds, OkD B k d) (hm : ds.length ≤ m) : OkD (m * (B + 2) + 3) (k + 1) (.list ds) := by
  refine ⟨?_, ?_, ?_⟩
  · simp only [PyData.showable]; exact showableAll_of fun d hd => (h d hd).sh
  · simp only [PyData.depth]; exact Nat.succ_le_succ (depthAll_of fun d hd => (h d hd).dp)
  · have h1 := shownAll_sum fun d hd => (h d hd).ln
    have h2 := listText_len_le (PyData.shownAll ds)
    have h3 := PyData.shownAll_length ds
    have h4 : ds.length * (B + 2) ≤ m * (B + 2) := Nat.mul_le_mul_right _ hm
    rw [Nat.mul_add] at h4
    simp only [PyData.shown]
    omega
theorem okd_tuple {B k m : Nat} {ds : List PyData} (h : ∀ d ∈ ds, OkD B k d) (hm : ds.length ≤ m) : OkD (m * (B + 2) + 3) (k + 1) (.tuple ds) := by
  refine ⟨?_, ?_, ?_⟩
  · simp only [PyData.showable]; exact showableAll_of fun d hd => (h d hd).sh
  · simp only [PyData.depth]; exact Nat.succ_le_succ (depthAll_of fun d hd => (h d hd).dp)
  · have h1 := shownAll_sum fun d hd => (h d hd).ln
    have h2 := tupleText_len_le (PyData.shownAll ds)
    have h3 := PyData.shownAll_length ds
    have h4 : ds.length * (B + 2) ≤ m * (B + 2) := Nat.mul_le_mul_right _ hm
    rw [Nat.mul_add] at h4
    simp only [PyData.shown]
    omega
theorem all1 {P : PyData → Prop} {a : PyData} (ha : P a) : ∀ d ∈ [a], P d := fun d hd => by
  rw [List.mem_singleton.mp hd]; exact ha
theorem allC {P : PyData → Prop} {a : PyData} {l : List PyData} (ha : P a) (hl : ∀ d ∈ l, P d) : ∀ d ∈ a :: l, P d := fun d hd => (List.mem_cons.mp hd).elim (fun e => e ▸ ha) (hl d)
theorem all0 {P : PyData → Prop} : ∀ d ∈ ([] : List PyData), P d := fun d hd => by cases hd
/-! ### data that stays -/
mutual
theorem Dx.same {K : PySem.W.Frag} {H H' : Hp} (s : ∀ a o, H a = some o → H' a = some o) : ∀ {d : PyData} {v : V}, Dx K H v d → Dx K H' v d
  | .none, _, h => by cases h; exact .non
  | .bool b, _, h => by cases h; exact .bl b
  | .int i, _, h => by cases h; exact .int i
  | .str x, _, h => by cases h; exact .str x
  | .list ds, _, h => by
    cases h with
    | lst hs ha => exact .lst (hs.ext s) (DxAll.same s ha)
  | .tuple ds, _, h => by
    cases h with
    | tup hs ha => exact .tup (hs.ext s) (DxAll.same s ha)
  | .dict kvs, _, h => by
    cases h with
    | dic hs hk ha => exact .dic (hs.elim (fun h => .inl (s _ _ h)) fun ⟨o, h⟩ => .inr ⟨o, s _ _ h⟩) hk (DxKv.same s ha)
theorem DxAll.same {K : PySem.W.Frag} {H H' : Hp} (s : ∀ a o, H a = some o → H' a = some o) : ∀ {ds : List PyData} {vs : List V}, DxAll K H vs ds → DxAll K H' vs ds
  | [], _, h => by cases h; exact .nil
  | d :: ds, _, h => by
    cases h with
    | cons h1 h2 => exact .cons (Dx.same s h1) (DxAll.same s h2)
theorem DxKv.same {K : PySem.W.Frag} {H H' : Hp} (s : ∀ a o, H a = some o → H' a = some o) : ∀ {kvs : List (PyData × PyData)} {vs : List V}, DxAll K H vs (kvs.map (·.2)) → DxAll K H' vs (kvs.map (·.2))
  | [], _, h => by cases h; exact .nil
  | (k, d) :: ds, _, h => by
    rw [List.map_cons] at h ⊢
    cases h with
    | cons h1 h2 => exact .cons (Dx.same s h1) (DxKv.same s h2)
end
end L2

namespace K03
open PySem PySem.Spec PyProof.Rows L2 TL
/-! ### heaps: all but the bag's list stays -/
def Fr (b : Addr) (H H' : Hp) : Prop := ∀ a o, a ≠ b → H a = some o → H' a = some o
theorem Fr.refl (b : Addr) (H : Hp) : Fr b H H := fun _ _ _ h => h
theorem Fr.trans {b : Addr} {H H1 H2 : Hp} (x : Fr b H H1) (y : Fr b H1 H2) : Fr b H H2 := fun a o n h => y a o n (x a o n h)
theorem Fr.of_same {b : Addr} {H H1 : Hp} (x : Same H H1) : Fr b H H1 := fun a o _ h => x a o h
theorem Fr.new {b p : Addr} {H : Hp} {o : HO} (h : H p = none) : Fr b H (upd H p o) := fun a u _ e => by
  rw [upd_ne (ne_of_none e h)]; exact e
theorem Fr.upd_b {b : Addr} {H H1 : Hp} {o : HO} (x : Fr b H H1) : Fr b H (upd H1 b o) := fun a u n e => by
  rw [upd_ne n]; exact x a u n e
theorem Fr.free {b p : Addr} {H H' : Hp} (x : Fr b H H') (hb : p ≠ b) (h : H' p = none) : H p = none := by
  cases q : H p with
  | none => rfl
  | some o => rw [x p o hb q] at h; cases h
theorem Fr.upd_p {b p : Addr} {H H1 : Hp} {o : HO} (x : Fr b H H1) (h : H p = none) : Fr b H (upd H1 p o) := fun a u n e => by
  rw [upd_ne (ne_of_none e h)]; exact x a u n e
theorem Same.new {p : Addr} {H : Hp} {o : HO} (h : H p = none) : Same H (upd H p o) := fun a u e => by
  rw [upd_ne (ne_of_none e h)]; exact e
theorem Same.upd_p {p : Addr} {H H1 : Hp} {o : HO} (x : Same H H1) (h : H p = none) : Same H (upd H1 p o) := fun a u e => by
  rw [upd_ne (ne_of_none e h)]; exact x a u e
theorem Fr.seq {K : PySem.W.Frag} {b : Addr} {H H' : Hp} {a : Addr} {xs : List V} (e : Fr b H H') (n : a ≠ b) (h : SqL K H a xs) : SqL K H' a xs := by
  rcases h with (h | ⟨o, h⟩) | h
  · exact .inl (.inl (e _ _ n h))
  · exact .inl (.inr ⟨o, e _ _ n h⟩)
  · exact .inr h
/-- a bag of digits: what is left of the cell, the seed, the count of draws -/
def Bag (H : Hp) (b : Addr) (n : Nat) : Prop := ∃ x y z : Int, H b = some (.lst [.int x, .int y, .int z]) ∧ 0 ≤ x ∧ 0 ≤ y ∧ y < 2147483629 ∧ 0 ≤ z ∧ z ≤ n
theorem Bag.mono {H : Hp} {b : Addr} {n m : Nat} (h : Bag H b n) (l : n ≤ m) : Bag H b m := by
  obtain ⟨x, y, z, e, h1, h2, h3, h4, h5⟩ := h
  exact ⟨x, y, z, e, h1, h2, h3, h4, by omega⟩
theorem Bag.same {H H' : Hp} {b : Addr} {n : Nat} (h : Bag H b n) (s : Same H H') : Bag H' b n := by
  obtain ⟨x, y, z, e, r⟩ := h
  exact ⟨x, y, z, s _ _ e, r⟩
theorem Bag.ne {H : Hp} {b p : Addr} {n : Nat} (h : Bag H b n) (q : H p = none) : b ≠ p := by
  obtain ⟨x, y, z, e, r⟩ := h
  exact ne_of_none e q
theorem Bag.upd {H : Hp} {b p : Addr} {n : Nat} {o : HO} (h : Bag H b n) (q : b ≠ p) : Bag (upd H p o) b n := by
  obtain ⟨x, y, z, e, r⟩ := h
  exact ⟨x, y, z, by rw [upd_ne q]; exact e, r⟩
theorem Bag.some {H : Hp} {b : Addr} {n : Nat} (h : Bag H b n) : ∃ o, H b = some o := by
  obtain ⟨x, y, z, e, r⟩ := h
  exact ⟨_, e⟩
/-! ### the promises that all such laws share -/
def sp_cell (K : PySem.W.Frag) : Sp := fun vs H Q _ => ∃ (l : Addr) (ns : List Int) (j : Int), vs = [.ref l, .int j] ∧ SqL K H l (ns.map V.int) ∧ 0 ≤ j ∧ ∀ v : Int, Q (.int v) H
def sp_bag (K : PySem.W.Frag) : Sp := fun vs H Q _ => ∃ c : Int, vs = [.int c] ∧ ∀ p H', Same H H' → H p = none → Bag H' p 0 → Q (.ref p) H'
def sp_take (K : PySem.W.Frag) : Sp := fun vs H Q _ => ∃ (b : Addr) (n : Nat) (c : Int), vs = [.ref b, .int c] ∧ Bag H b n ∧ n ≤ 1000000 ∧ 0 < c ∧ c < 2 ^ 200 ∧
  ∀ (d : Int) H', Fr b H H' → Bag H' b (n + 1) → 0 ≤ d → d < c → Q (.int d) H'
def sp_law (K : PySem.W.Frag) : Sp := fun vs H Q _ => ∃ (a : Addr) (ns : List Int), vs = [.ref a] ∧ SqL K H a (ns.map V.int) ∧ ns.length ≤ 63 ∧ ∀ H', Q (.bl true) H'
/-! ### small facts -/
theorem atI_in {α : Type} {xs : List α} {i : Int} (h0 : 0 ≤ i) (h1 : i < (xs.length : Int)) : ∃ v, xs[i.toNat]? = some v ∧ atI xs i = some v := by
  have hj : i.toNat < xs.length := by omega
  refine ⟨xs[i.toNat], List.getElem?_eq_getElem hj, ?_⟩
  have e : ((i.toNat : Nat) : Int) = i := Int.toNat_of_nonneg h0
  have := atI_nat (xs := xs) (j := i.toNat) (List.getElem?_eq_getElem hj)
  rw [e] at this
  exact this
theorem atI_ints {ns : List Int} {i : Int} (h0 : 0 ≤ i) (h1 : i < (ns.length : Int)) : ∃ v : Int, atI (ns.map V.int) i = some (.int v) := by
  obtain ⟨v, e, h⟩ := atI_in (xs := ns.map V.int) h0 (by rw [List.length_map]; exact h1)
  rw [List.getElem?_map] at e
  cases q : ns[i.toNat]? with
  | none => rw [q] at e; cases e
  | some u => rw [q] at e; cases e; exact ⟨u, h⟩
theorem lt_of_dec {a b : Int} (h : decide (a < b) = true) : a < b := of_decide_eq_true h
theorem nlt_of_dec {a b : Int} (h : ¬ decide (a < b) = true) : ¬ a < b := fun x => h (decide_eq_true x)
theorem emod_in (a : Int) {m : Int} (h : 0 < m) : 0 ≤ a % m ∧ a % m < m := ⟨Int.emod_nonneg a (by omega), Int.emod_lt_of_pos a h⟩
/-! ### texts -/
theorem joinL_len (S : List Nat) : ∀ ps : List (List Nat), (joinL S ps).length ≤ (ps.map List.length).sum + ps.length * S.length
  | [] => by simp [joinL]
  | [p] => by simp [joinL]
  | p :: q :: r => by
    have h := joinL_len S (q :: r)
    show (p ++ (S ++ joinL S (q :: r))).length ≤ _
    simp only [List.length_append, List.map_cons, List.sum_cons, List.length_cons, Nat.add_mul, Nat.one_mul] at h ⊢
    omega
theorem join_len (a : Str) (ys : List Str) : (Txt.join a ys).length ≤ (ys.map (·.length)).sum + ys.length * a.length := by
  rw [join_eq, len_tl, tl_join, len_tl a]
  have h := joinL_len (tl a) (ys.map tl)
  rw [List.map_map, List.length_map] at h
  have e : ys.map (List.length ∘ tl) = ys.map (·.length) := List.map_congr_left fun x _ => (len_tl x).symm
  rw [e] at h
  exact h
theorem sum_len {ys : List Str} {L : Nat} (h : ∀ s ∈ ys, s.length ≤ L) : (ys.map (·.length)).sum ≤ ys.length * L := by
  induction ys with
  | nil => simp
  | cons a r ih =>
    have h1 := h a List.mem_cons_self
    have h2 := ih fun s hs => h s (List.mem_cons_of_mem _ hs)
    simp only [List.map_cons, List.sum_cons, List.length_cons, Nat.add_mul, Nat.one_mul]
    omega
theorem join_size {a : Str} {ys : List Str} {L n A : Nat} (h : ∀ s ∈ ys, s.length ≤ L) (hn : ys.length ≤ n) (ha : a.length ≤ A) : (ys.map (·.length)).sum + ys.length * a.length ≤ n * L + n * A :=
  Nat.add_le_add (Nat.le_trans (sum_len h) (Nat.mul_le_mul_right _ hn)) (Nat.mul_le_mul hn ha)
theorem app_len (a b : Str) : (a ++ b).length = a.length + b.length := by
  rw [len_tl, tl_append, List.length_append, ← len_tl, ← len_tl]
def rRepS : R2 := fun x y H Q => ∃ z i, x = .str z ∧ y = .int i ∧ z.length ≤ 100 ∧ 0 ≤ i ∧ i ≤ 1000 ∧ ∀ s : Str, s.length ≤ z.length * i.toNat → Q (.str s) H
theorem op_repS {X : Cx} : OpR X (binaryOp .Mult) rRepS := by
  intro pins s σ H x y v u Q I rx ry h
  obtain ⟨z, i, rfl, rfl, hz, h0, h1, q⟩ := h
  obtain ⟨t, rfl⟩ := rx
  obtain ⟨t', rfl⟩ := ry
  have hm : z.length * i.toNat ≤ 100 * 1000 := Nat.mul_le_mul hz (by omega)
  refine SB.mul ⟨?_, fun _ _ => ?_, fun _ _ => ?_⟩ (fun t'' k => ⟨.str (Txt.mul z i), H, I.tok _, ⟨_, rfl⟩, q _ ?_⟩)
  · rw [Bool.or_eq_false_iff]
    exact ⟨decide_eq_false (by omega), decide_eq_false (by omega)⟩
  · have h2 : (1000 : Int) ≤ (2 ^ 63 - 1) / i ∨ i = 0 := by
      by_cases e : i = 0
      · exact .inr e
      · left
        rw [Int.le_ediv_iff_mul_le (by omega)]
        omega
    rcases h2 with h2 | h2
    · omega
    · subst h2
      omega
  · have hz2 : sizeLine = 16777216 := sizeLine_eq
    unfold Builtin.Str.tooLong
    exact decide_eq_false (by omega)
  · have hl := PyProof.Rows.len_mul z i
    have e : (if decide (i < 0) = true then 0 else i) = i := by rw [if_neg (by simp; omega)]
    rw [e] at hl
    have e2 : (i.toNat : Int) = i := Int.toNat_of_nonneg h0
    rw [show (z.length : Int) * i = ((z.length * i.toNat : Nat) : Int) by rw [Int.natCast_mul, e2]] at hl
    omega
/-- a list of draws that are texts, made at D -/
def PvS (b D : Addr) (H1 : Hp) (n0 c L : Nat) (i : Nat) (H' : Hp) : Prop := H1 D = none ∧ D ≠ b ∧ ∃ ys : List Str, ys.length = i ∧ (∀ s ∈ ys, s.length ≤ L) ∧ H' D = some (.lst (ys.map V.str)) ∧ Fr b H1 H' ∧ Bag H' b (n0 + c * i)
theorem pvS_0 {b D : Addr} {H1 : Hp} {n0 c L : Nat} (hB : Bag H1 b n0) (hD : H1 D = none) : PvS b D H1 n0 c L 0 (upd H1 D (.lst [])) :=
  ⟨hD, (hB.ne hD).symm, [], rfl, fun _ h => (nomatch h), upd_same, Fr.new hD, (hB.upd (hB.ne hD)).mono (by omega)⟩
theorem pvS_put {b D : Addr} {H1 H' H4 : Hp} {n0 c L i : Nat} {s : Str} (p : PvS b D H1 n0 c L i H') (f4 : Fr b H' H4) (b4 : Bag H4 b (n0 + c * (i + 1))) (hs4 : s.length ≤ L) (hi : i < 100000) :
    ∃ acc, H4 D = some (.lst acc) ∧ acc.length < sizeLine ∧ PvS b D H1 n0 c L (i + 1) (upd H4 D (.lst (acc ++ [V.str s]))) := by
  obtain ⟨hD, n1, ys, hl, hs, hD', hF, hB'⟩ := p
  refine ⟨ys.map V.str, f4 D _ n1 hD', ?_, hD, n1, ys ++ [s], by rw [List.length_append, hl]; rfl, ?_, ?_, (hF.trans f4).upd_p hD, b4.upd n1.symm⟩
  · rw [List.length_map, hl]
    have : sizeLine = 16777216 := sizeLine_eq
    omega
  · intro x hx
    rcases List.mem_append.mp hx with h | h
    · exact hs x h
    · rw [List.mem_singleton.mp h]; exact hs4
  · rw [upd_same, List.map_append]; rfl
/-- a def that draws a text -/
def sp_str (c L : Nat) : Sp := fun vs H Q _ => ∃ (b : Addr) (n : Nat), vs = [.ref b] ∧ Bag H b n ∧ n + c ≤ 1000000 ∧ ∀ (s : Str) H', Fr b H H' → Bag H' b (n + c) → s.length ≤ L → Q (.str s) H'
theorem slen {n : Nat} (h : n ≤ 100000) : n ≤ sizeLine := Nat.le_trans h (by decide)
theorem str_at {xs : List V} {i : Int} {L : Nat} (h0 : 0 ≤ i) (h1 : i < (xs.length : Int)) (h : ∀ v ∈ xs, ∃ s : Str, v = .str s ∧ s.length ≤ L) : ∃ s : Str, atI xs i = some (.str s) ∧ s.length ≤ L := by
  obtain ⟨v, e, a⟩ := atI_in h0 h1
  obtain ⟨s, rfl, hs⟩ := h v (List.mem_of_getElem? e)
  exact ⟨s, a, hs⟩
theorem lenk {α : Type} {xs : List α} (n : Nat) (h : xs.length = n) (hn : n ≤ 100000) : xs.length ≤ sizeLine := slen (by omega)

end K03
namespace K03
open PySem PySem.Spec PyProof.Rows L2 TL
def top (i : Nat) : Stmt := PySem.Challenge.pw_resampler_k03_ratios_made.main.body.getD i (.Pass ⟨0, 0, 0, 0⟩)
abbrev s_is_any_integer : Stmt := top 9
abbrev N_is_any_integer : List Str := ["value"]
theorem sc_is_any_integer : FnScope N_is_any_integer ["value"] (defScope s_is_any_integer) := ⟨rfl, rfl, rfl, by decide +kernel, rfl, by decide +kernel, by decide +kernel⟩
abbrev s_Ratio_init : Stmt := inClass (top 11) 0
abbrev N_Ratio_init : List Str := ["self", "numerator", "denominator", "divisor"]
theorem sc_Ratio_init : FnScope N_Ratio_init ["self", "numerator", "denominator"] (defScope s_Ratio_init) := ⟨rfl, rfl, rfl, by decide +kernel, rfl, by decide +kernel, by decide +kernel⟩
abbrev s_Ratio_num : Stmt := inClass (top 11) 1
abbrev N_Ratio_num : List Str := ["self"]
theorem sc_Ratio_num : FnScope N_Ratio_num ["self"] (defScope s_Ratio_num) := ⟨rfl, rfl, rfl, by decide +kernel, rfl, by decide +kernel, by decide +kernel⟩
abbrev s_Ratio_den : Stmt := inClass (top 11) 2
abbrev N_Ratio_den : List Str := ["self"]
theorem sc_Ratio_den : FnScope N_Ratio_den ["self"] (defScope s_Ratio_den) := ⟨rfl, rfl, rfl, by decide +kernel, rfl, by decide +kernel, by decide +kernel⟩
abbrev s_Ratio_sign : Stmt := inClass (top 11) 3
abbrev N_Ratio_sign : List Str := ["self"]
theorem sc_Ratio_sign : FnScope N_Ratio_sign ["self"] (defScope s_Ratio_sign) := ⟨rfl, rfl, rfl, by decide +kernel, rfl, by decide +kernel, by decide +kernel⟩
abbrev s_Ratio_eq : Stmt := inClass (top 11) 4
abbrev N_Ratio_eq : List Str := ["self", "other"]
theorem sc_Ratio_eq : FnScope N_Ratio_eq ["self", "other"] (defScope s_Ratio_eq) := ⟨rfl, rfl, rfl, by decide +kernel, rfl, by decide +kernel, by decide +kernel⟩
abbrev s_Ratio_str : Stmt := inClass (top 11) 5
abbrev N_Ratio_str : List Str := ["self"]
theorem sc_Ratio_str : FnScope N_Ratio_str ["self"] (defScope s_Ratio_str) := ⟨rfl, rfl, rfl, by decide +kernel, rfl, by decide +kernel, by decide +kernel⟩
abbrev s_Ratio_add : Stmt := inClass (top 11) 7
abbrev N_Ratio_add : List Str := ["self", "other"]
theorem sc_Ratio_add : FnScope N_Ratio_add ["self", "other"] (defScope s_Ratio_add) := ⟨rfl, rfl, rfl, by decide +kernel, rfl, by decide +kernel, by decide +kernel⟩
abbrev s_Ratio_multiply : Stmt := inClass (top 11) 9
abbrev N_Ratio_multiply : List Str := ["self", "other"]
theorem sc_Ratio_multiply : FnScope N_Ratio_multiply ["self", "other"] (defScope s_Ratio_multiply) := ⟨rfl, rfl, rfl, by decide +kernel, rfl, by decide +kernel, by decide +kernel⟩
abbrev s__check_ratio : Stmt := top 12
abbrev N__check_ratio : List Str := ["value"]
theorem sc__check_ratio : FnScope N__check_ratio ["value"] (defScope s__check_ratio) := ⟨rfl, rfl, rfl, by decide +kernel, rfl, by decide +kernel, by decide +kernel⟩
abbrev s_l_cell : Stmt := top 14
abbrev N_l_cell : List Str := ["_law_script", "_law_k"]
theorem sc_l_cell : FnScope N_l_cell ["_law_script", "_law_k"] (defScope s_l_cell) := ⟨rfl, rfl, rfl, by decide +kernel, rfl, by decide +kernel, by decide +kernel⟩
abbrev s_l_box : Stmt := top 15
abbrev N_l_box : List Str := ["_law_cell_here"]
theorem sc_l_box : FnScope N_l_box ["_law_cell_here"] (defScope s_l_box) := ⟨rfl, rfl, rfl, by decide +kernel, rfl, by decide +kernel, by decide +kernel⟩
abbrev s_l_take : Stmt := top 16
abbrev N_l_take : List Str := ["_law_box_here", "_law_many", "_law_digit", "_law_mixed"]
theorem sc_l_take : FnScope N_l_take ["_law_box_here", "_law_many"] (defScope s_l_take) := ⟨rfl, rfl, rfl, by decide +kernel, rfl, by decide +kernel, by decide +kernel⟩
abbrev s_l_divisor : Stmt := top 17
abbrev N_l_divisor : List Str := ["_law_one", "_law_other", "_law_rest"]
theorem sc_l_divisor : FnScope N_l_divisor ["_law_one", "_law_other"] (defScope s_l_divisor) := ⟨rfl, rfl, rfl, by decide +kernel, rfl, by decide +kernel, by decide +kernel⟩
abbrev s_l_number : Stmt := top 18
abbrev N_l_number : List Str := ["_law_box_here", "_law_way", "_law_number_here", "_law_turn"]
theorem sc_l_number : FnScope N_l_number ["_law_box_here"] (defScope s_l_number) := ⟨rfl, rfl, rfl, by decide +kernel, rfl, by decide +kernel, by decide +kernel⟩
abbrev s_l_pair : Stmt := top 19
abbrev N_l_pair : List Str := ["_law_box_here", "_law_factor"]
theorem sc_l_pair : FnScope N_l_pair ["_law_box_here"] (defScope s_l_pair) := ⟨rfl, rfl, rfl, by decide +kernel, rfl, by decide +kernel, by decide +kernel⟩
abbrev s_l_caught : Stmt := top 20
abbrev N_l_caught : List Str := ["_law_one", "_law_other", "e"]
theorem sc_l_caught : FnScope N_l_caught ["_law_one", "_law_other"] (defScope s_l_caught) := ⟨rfl, rfl, rfl, by decide +kernel, rfl, by decide +kernel, by decide +kernel⟩
abbrev s_l_right : Stmt := top 21
abbrev N_l_right : List Str := ["_law_one", "_law_other", "_law_found", "_law_texts", "_law_shared", "_law_above", "_law_below", "_law_text", "_law_turn", "_law_actual", "_law_whole", "_law_turned", "_law_same", "_law_near", "_law_value"]
theorem sc_l_right : FnScope N_l_right ["_law_one", "_law_other"] (defScope s_l_right) := ⟨rfl, rfl, rfl, by decide +kernel, rfl, by decide +kernel, by decide +kernel⟩
abbrev s_l_refused_right : Stmt := top 22
abbrev N_l_refused_right : List Str := ["_law_box_here", "_law_one", "_law_odd", "_law_thing", "_law_later", "_law_numerator", "_law_denominator", "_law_kind", "_law_value", "_law_found", "_law_half", "_law_other"]
theorem sc_l_refused_right : FnScope N_l_refused_right ["_law_box_here", "_law_one"] (defScope s_l_refused_right) := ⟨rfl, rfl, rfl, by decide +kernel, rfl, by decide +kernel, by decide +kernel⟩
abbrev s_law : Stmt := top 23
abbrev N_law : List Str := ["_law_script", "_law_k", "_law_box_here", "_law_turn", "_law_one", "_law_other"]
theorem sc_law : FnScope N_law ["_law_script"] (defScope s_law) := ⟨rfl, rfl, rfl, by decide +kernel, rfl, by decide +kernel, by decide +kernel⟩
structure Txt (P : Program) (K : PySem.W.Frag) (mg : Str → Option Value) where
  C_Ratio : Addr
  g_Ratio : mg "Ratio" = some (.ref C_Ratio)
  f_is_any_integer : Addr
  fd_is_any_integer : FuncData
  F_is_any_integer : FunD K "is_any_integer" "is_any_integer" (defArgs s_is_any_integer) (defBody s_is_any_integer) (defScope s_is_any_integer) [] [] f_is_any_integer fd_is_any_integer
  g_is_any_integer : mg "is_any_integer" = some (.ref f_is_any_integer)
  f_Ratio_init : Addr
  fd_Ratio_init : FuncData
  F_Ratio_init : FunD K "__init__" "Ratio.__init__" (defArgs s_Ratio_init) (defBody s_Ratio_init) (defScope s_Ratio_init) [.int 1] [] f_Ratio_init fd_Ratio_init
  f_Ratio_num : Addr
  fd_Ratio_num : FuncData
  F_Ratio_num : FunD K "num" "Ratio.num" (defArgs s_Ratio_num) (defBody s_Ratio_num) (defScope s_Ratio_num) [] [] f_Ratio_num fd_Ratio_num
  m_Ratio_num : Meth K C_Ratio "num" f_Ratio_num
  f_Ratio_den : Addr
  fd_Ratio_den : FuncData
  F_Ratio_den : FunD K "den" "Ratio.den" (defArgs s_Ratio_den) (defBody s_Ratio_den) (defScope s_Ratio_den) [] [] f_Ratio_den fd_Ratio_den
  m_Ratio_den : Meth K C_Ratio "den" f_Ratio_den
  f_Ratio_sign : Addr
  fd_Ratio_sign : FuncData
  F_Ratio_sign : FunD K "sign" "Ratio.sign" (defArgs s_Ratio_sign) (defBody s_Ratio_sign) (defScope s_Ratio_sign) [] [] f_Ratio_sign fd_Ratio_sign
  m_Ratio_sign : Meth K C_Ratio "sign" f_Ratio_sign
  f_Ratio_eq : Addr
  fd_Ratio_eq : FuncData
  F_Ratio_eq : FunD K "__eq__" "Ratio.__eq__" (defArgs s_Ratio_eq) (defBody s_Ratio_eq) (defScope s_Ratio_eq) [] [] f_Ratio_eq fd_Ratio_eq
  m_Ratio_eq : Meth K C_Ratio "__eq__" f_Ratio_eq
  f_Ratio_str : Addr
  fd_Ratio_str : FuncData
  F_Ratio_str : FunD K "__str__" "Ratio.__str__" (defArgs s_Ratio_str) (defBody s_Ratio_str) (defScope s_Ratio_str) [] [] f_Ratio_str fd_Ratio_str
  m_Ratio_str : Meth K C_Ratio "__str__" f_Ratio_str
  f_Ratio_add : Addr
  fd_Ratio_add : FuncData
  F_Ratio_add : FunD K "add" "Ratio.add" (defArgs s_Ratio_add) (defBody s_Ratio_add) (defScope s_Ratio_add) [] [] f_Ratio_add fd_Ratio_add
  m_Ratio_add : Meth K C_Ratio "add" f_Ratio_add
  f_Ratio_multiply : Addr
  fd_Ratio_multiply : FuncData
  F_Ratio_multiply : FunD K "multiply" "Ratio.multiply" (defArgs s_Ratio_multiply) (defBody s_Ratio_multiply) (defScope s_Ratio_multiply) [] [] f_Ratio_multiply fd_Ratio_multiply
  m_Ratio_multiply : Meth K C_Ratio "multiply" f_Ratio_multiply
  f__check_ratio : Addr
  fd__check_ratio : FuncData
  F__check_ratio : FunD K "_check_ratio" "_check_ratio" (defArgs s__check_ratio) (defBody s__check_ratio) (defScope s__check_ratio) [] [] f__check_ratio fd__check_ratio
  g__check_ratio : mg "_check_ratio" = some (.ref f__check_ratio)
  f_l_cell : Addr
  fd_l_cell : FuncData
  F_l_cell : FunD K "_law_cell" "_law_cell" (defArgs s_l_cell) (defBody s_l_cell) (defScope s_l_cell) [] [] f_l_cell fd_l_cell
  g_l_cell : mg "_law_cell" = some (.ref f_l_cell)
  f_l_box : Addr
  fd_l_box : FuncData
  F_l_box : FunD K "_law_box" "_law_box" (defArgs s_l_box) (defBody s_l_box) (defScope s_l_box) [] [] f_l_box fd_l_box
  g_l_box : mg "_law_box" = some (.ref f_l_box)
  f_l_take : Addr
  fd_l_take : FuncData
  F_l_take : FunD K "_law_take" "_law_take" (defArgs s_l_take) (defBody s_l_take) (defScope s_l_take) [] [] f_l_take fd_l_take
  g_l_take : mg "_law_take" = some (.ref f_l_take)
  f_l_divisor : Addr
  fd_l_divisor : FuncData
  F_l_divisor : FunD K "_law_divisor" "_law_divisor" (defArgs s_l_divisor) (defBody s_l_divisor) (defScope s_l_divisor) [] [] f_l_divisor fd_l_divisor
  g_l_divisor : mg "_law_divisor" = some (.ref f_l_divisor)
  f_l_number : Addr
  fd_l_number : FuncData
  F_l_number : FunD K "_law_number" "_law_number" (defArgs s_l_number) (defBody s_l_number) (defScope s_l_number) [] [] f_l_number fd_l_number
  g_l_number : mg "_law_number" = some (.ref f_l_number)
  f_l_pair : Addr
  fd_l_pair : FuncData
  F_l_pair : FunD K "_law_pair" "_law_pair" (defArgs s_l_pair) (defBody s_l_pair) (defScope s_l_pair) [] [] f_l_pair fd_l_pair
  g_l_pair : mg "_law_pair" = some (.ref f_l_pair)
  f_l_caught : Addr
  fd_l_caught : FuncData
  F_l_caught : FunD K "_law_caught" "_law_caught" (defArgs s_l_caught) (defBody s_l_caught) (defScope s_l_caught) [] [] f_l_caught fd_l_caught
  g_l_caught : mg "_law_caught" = some (.ref f_l_caught)
  f_l_right : Addr
  fd_l_right : FuncData
  F_l_right : FunD K "_law_right" "_law_right" (defArgs s_l_right) (defBody s_l_right) (defScope s_l_right) [] [] f_l_right fd_l_right
  g_l_right : mg "_law_right" = some (.ref f_l_right)
  f_l_refused_right : Addr
  fd_l_refused_right : FuncData
  F_l_refused_right : FunD K "_law_refused_right" "_law_refused_right" (defArgs s_l_refused_right) (defBody s_l_refused_right) (defScope s_l_refused_right) [] [] f_l_refused_right fd_l_refused_right
  g_l_refused_right : mg "_law_refused_right" = some (.ref f_l_refused_right)
  f_law : Addr
  fd_law : FuncData
  F_law : FunD K "law" "law" (defArgs s_law) (defBody s_law) (defScope s_law) [] [] f_law fd_law
  g_law : mg "law" = some (.ref f_law)
  C_InvalidInteger : Addr
  I_InvalidInteger : Addr
  x_InvalidInteger : PySem.EXV.ExcTxt P K mg "InvalidInteger" "InvalidInteger.__init__" "value" C_InvalidInteger I_InvalidInteger
  C_InvalidRatio : Addr
  I_InvalidRatio : Addr
  x_InvalidRatio : PySem.EXV.ExcTxt P K mg "InvalidRatio" "InvalidRatio.__init__" "value" C_InvalidRatio I_InvalidRatio
  cl_Ratio : Cls K C_Ratio
  mk_Ratio : Mk K C_Ratio f_Ratio_init
  na_Ratio__num : NoAttr K C_Ratio "_num"
  na_Ratio__den : NoAttr K C_Ratio "_den"
  ow_Ratio : OwnC K C_Ratio
  exm_InvalidInteger_InvalidInteger : PySem.W.exmOne K (.ref C_InvalidInteger) (.ref C_InvalidInteger) = some true
  exm_InvalidRatio_InvalidInteger : PySem.W.exmOne K (.ref C_InvalidRatio) (.ref C_InvalidInteger) = some false
  exm_InvalidRatio_InvalidRatio : PySem.W.exmOne K (.ref C_InvalidRatio) (.ref C_InvalidRatio) = some true
  g_gcd : mg "gcd" = some (.builtin "math.gcd")
  sm : HasSm K
  n_abs : mg "abs" = none
  n_bool : mg "bool" = none
  n_dict : mg "dict" = none
  n_int : mg "int" = none
  n_isinstance : mg "isinstance" = none
  n_len : mg "len" = none
  n_list : mg "list" = none
  n_max : mg "max" = none
  n_min : mg "min" = none
  n_range : mg "range" = none
  n_repr : mg "repr" = none
  n_str : mg "str" = none
theorem b_is_any_integer {P : Program} {K : PySem.W.Frag} {mg : Str → Option Value} (T : Txt P K mg) : Binds K T.fd_is_any_integer ["value"] [] := T.F_is_any_integer.bindsN fun _ _ _ _ _ _ us hl => match us, hl with | [_], _ => rfl
theorem b_Ratio_init_1 {P : Program} {K : PySem.W.Frag} {mg : Str → Option Value} (T : Txt P K mg) : ∃ ds, Vals (([.int 1] : List V).drop 0) ds ∧ Binds K T.fd_Ratio_init ["self", "numerator", "denominator"] ds := T.F_Ratio_init.binds1 (ps := ["self", "numerator", "denominator"]) 2 0 (by simp) (by rfl) fun _ _ _ _ _ _ _ us its h1 h2 => match us, its, h1, h2 with | [_, _], [_], _, _ => ⟨_, rfl, rfl⟩
theorem b_Ratio_init {P : Program} {K : PySem.W.Frag} {mg : Str → Option Value} (T : Txt P K mg) : Binds K T.fd_Ratio_init ["self", "numerator", "denominator"] [] := by
  obtain ⟨ds, v, b⟩ := T.F_Ratio_init.binds1 (ps := ["self", "numerator", "denominator"]) 3 1 (by simp) (by rfl) fun _ _ _ _ _ _ _ us its h1 h2 => match us, its, h1, h2 with | [_, _, _], [_], _, _ => ⟨_, rfl, rfl⟩
  cases v
  exact b
theorem b_Ratio_num {P : Program} {K : PySem.W.Frag} {mg : Str → Option Value} (T : Txt P K mg) : Binds K T.fd_Ratio_num ["self"] [] := T.F_Ratio_num.bindsN fun _ _ _ _ _ _ us hl => match us, hl with | [_], _ => rfl
theorem b_Ratio_den {P : Program} {K : PySem.W.Frag} {mg : Str → Option Value} (T : Txt P K mg) : Binds K T.fd_Ratio_den ["self"] [] := T.F_Ratio_den.bindsN fun _ _ _ _ _ _ us hl => match us, hl with | [_], _ => rfl
theorem b_Ratio_sign {P : Program} {K : PySem.W.Frag} {mg : Str → Option Value} (T : Txt P K mg) : Binds K T.fd_Ratio_sign ["self"] [] := T.F_Ratio_sign.bindsN fun _ _ _ _ _ _ us hl => match us, hl with | [_], _ => rfl
theorem b_Ratio_eq {P : Program} {K : PySem.W.Frag} {mg : Str → Option Value} (T : Txt P K mg) : Binds K T.fd_Ratio_eq ["self", "other"] [] := T.F_Ratio_eq.bindsN fun _ _ _ _ _ _ us hl => match us, hl with | [_, _], _ => rfl
theorem b_Ratio_str {P : Program} {K : PySem.W.Frag} {mg : Str → Option Value} (T : Txt P K mg) : Binds K T.fd_Ratio_str ["self"] [] := T.F_Ratio_str.bindsN fun _ _ _ _ _ _ us hl => match us, hl with | [_], _ => rfl
theorem b_Ratio_add {P : Program} {K : PySem.W.Frag} {mg : Str → Option Value} (T : Txt P K mg) : Binds K T.fd_Ratio_add ["self", "other"] [] := T.F_Ratio_add.bindsN fun _ _ _ _ _ _ us hl => match us, hl with | [_, _], _ => rfl
theorem b_Ratio_multiply {P : Program} {K : PySem.W.Frag} {mg : Str → Option Value} (T : Txt P K mg) : Binds K T.fd_Ratio_multiply ["self", "other"] [] := T.F_Ratio_multiply.bindsN fun _ _ _ _ _ _ us hl => match us, hl with | [_, _], _ => rfl
theorem b__check_ratio {P : Program} {K : PySem.W.Frag} {mg : Str → Option Value} (T : Txt P K mg) : Binds K T.fd__check_ratio ["value"] [] := T.F__check_ratio.bindsN fun _ _ _ _ _ _ us hl => match us, hl with | [_], _ => rfl
theorem b_l_cell {P : Program} {K : PySem.W.Frag} {mg : Str → Option Value} (T : Txt P K mg) : Binds K T.fd_l_cell ["_law_script", "_law_k"] [] := T.F_l_cell.bindsN fun _ _ _ _ _ _ us hl => match us, hl with | [_, _], _ => rfl
theorem b_l_box {P : Program} {K : PySem.W.Frag} {mg : Str → Option Value} (T : Txt P K mg) : Binds K T.fd_l_box ["_law_cell_here"] [] := T.F_l_box.bindsN fun _ _ _ _ _ _ us hl => match us, hl with | [_], _ => rfl
theorem b_l_take {P : Program} {K : PySem.W.Frag} {mg : Str → Option Value} (T : Txt P K mg) : Binds K T.fd_l_take ["_law_box_here", "_law_many"] [] := T.F_l_take.bindsN fun _ _ _ _ _ _ us hl => match us, hl with | [_, _], _ => rfl
theorem b_l_divisor {P : Program} {K : PySem.W.Frag} {mg : Str → Option Value} (T : Txt P K mg) : Binds K T.fd_l_divisor ["_law_one", "_law_other"] [] := T.F_l_divisor.bindsN fun _ _ _ _ _ _ us hl => match us, hl with | [_, _], _ => rfl
theorem b_l_number {P : Program} {K : PySem.W.Frag} {mg : Str → Option Value} (T : Txt P K mg) : Binds K T.fd_l_number ["_law_box_here"] [] := T.F_l_number.bindsN fun _ _ _ _ _ _ us hl => match us, hl with | [_], _ => rfl
theorem b_l_pair {P : Program} {K : PySem.W.Frag} {mg : Str → Option Value} (T : Txt P K mg) : Binds K T.fd_l_pair ["_law_box_here"] [] := T.F_l_pair.bindsN fun _ _ _ _ _ _ us hl => match us, hl with | [_], _ => rfl
theorem b_l_caught {P : Program} {K : PySem.W.Frag} {mg : Str → Option Value} (T : Txt P K mg) : Binds K T.fd_l_caught ["_law_one", "_law_other"] [] := T.F_l_caught.bindsN fun _ _ _ _ _ _ us hl => match us, hl with | [_, _], _ => rfl
theorem b_l_right {P : Program} {K : PySem.W.Frag} {mg : Str → Option Value} (T : Txt P K mg) : Binds K T.fd_l_right ["_law_one", "_law_other"] [] := T.F_l_right.bindsN fun _ _ _ _ _ _ us hl => match us, hl with | [_, _], _ => rfl
theorem b_l_refused_right {P : Program} {K : PySem.W.Frag} {mg : Str → Option Value} (T : Txt P K mg) : Binds K T.fd_l_refused_right ["_law_box_here", "_law_one"] [] := T.F_l_refused_right.bindsN fun _ _ _ _ _ _ us hl => match us, hl with | [_, _], _ => rfl
theorem b_law {P : Program} {K : PySem.W.Frag} {mg : Str → Option Value} (T : Txt P K mg) : Binds K T.fd_law ["_law_script"] [] := T.F_law.bindsN fun _ _ _ _ _ _ us hl => match us, hl with | [_], _ => rfl

end K03
namespace K03
open PySem PySem.Spec PyProof.Rows L2 TL
theorem ok_l_cell {P : Program} {w : World} {K : PySem.W.Frag} {mg : Str → Option Value} {base : Heap} (T : Txt P K mg) : FnOk P w K mg base CX0 1 T.f_l_cell T.fd_l_cell ["_law_script", "_law_k"] (sp_cell K) := by
  refine T.F_l_cell.ok sc_l_cell (fun vs H Q E h => ?_) (fun cdv A outer s H vs Q E hr h => ?_)
  · obtain ⟨_, _, _, rfl, _⟩ := h; rfl
  · obtain ⟨l, ns, j, rfl, hS, hj, q⟩ := h
    refine ⟨_, PSs.nox (pss_cons (ps_if (pt_cmpR op_lt (pv 1) (pe_callB call_len_seq (by rfl) T.n_len (by decide +kernel) (pa_cons (pv 0) pa_nil)) (nomark _)) (pss_one (ps_ret (pe_ix (show IxR _ (rIxL K) from ix_list) (pv 0) (pv 1) (fun _ _ => rfl)))) pss_nil)
      (pss_one (ps_ret (pe_op op_add (pe_op op_mul pe_int (pv 1)) pe_int)))), ?_⟩
    refine ⟨_, rfl, _, rfl, l, _, rfl, .inl hS, _, _, rfl, rfl, _, rfl, ite2 (fun e => ?_) (fun e => ?_)⟩
    · have e1 := lt_of_dec e
      rw [List.length_map] at e1
      obtain ⟨v, hv⟩ := atI_ints hj e1
      exact ⟨_, rfl, _, rfl, l, _, _, _, rfl, rfl, hS, hv, q v⟩
    · exact ⟨_, rfl, _, _, rfl, rfl, .inl ⟨by decide, by decide⟩, _, _, rfl, rfl, q _⟩
theorem ok_l_box {P : Program} {w : World} {K : PySem.W.Frag} {mg : Str → Option Value} {base : Heap} (T : Txt P K mg) : FnOk P w K mg base CX0 1 T.f_l_box T.fd_l_box ["_law_cell_here"] (sp_bag K) := by
  refine T.F_l_box.ok sc_l_box (fun vs H Q E h => ?_) (fun cdv A outer s H vs Q E hr h => ?_)
  · obtain ⟨_, rfl, _⟩ := h; rfl
  · obtain ⟨c, rfl, q⟩ := h
    refine ⟨_, PSs.nox (pss_one (ps_ret (pe_lst (pa_cons (pe_callB (call_max2 rfl) (by rfl) T.n_max (by decide +kernel) (pa_cons pe_int (pa_cons (pe_op op_sub (pv 0) (pe_op op_pow pe_int pe_int)) pa_nil))) (pa_cons (pe_op op_mod (pv 0) pe_int) (pa_cons pe_int pa_nil)))))), ?_⟩
    refine ⟨_, rfl, _, _, rfl, rfl, ⟨by decide, by decide, by decide⟩, _, _, rfl, rfl, _, _, rfl, _, rfl, _, _, rfl, rfl, (show (0 : Int) < _ by decide), ?_⟩
    refine ⟨(by show 3 ≤ sizeLine; decide), fun p np => q p _ (Same.new np) np ⟨_, _, _, upd_same, ?_, (emod_in c (by decide)).1, (emod_in c (by decide)).2, Int.le_refl 0, Int.le_refl 0⟩⟩
    split <;> omega
theorem ok_l_take {P : Program} {w : World} {K : PySem.W.Frag} {mg : Str → Option Value} {base : Heap} (T : Txt P K mg) : FnOk P w K mg base CX0 1 T.f_l_take T.fd_l_take ["_law_box_here", "_law_many"] (sp_take K) := by
  refine T.F_l_take.ok sc_l_take (fun vs H Q E h => ?_) (fun cdv A outer s H vs Q E hr h => ?_)
  · obtain ⟨_, _, _, rfl, _⟩ := h; rfl
  · obtain ⟨b, n, c, rfl, ⟨x, y, z, hb, hx, hy, hy2, hz, hz2⟩, hn, hc, hc2, q⟩ := h
    have wc : CDivW x c := wide_div hc (b := 200) (by omega) (by decide) (by decide)
    refine ⟨_, PSs.nox (pss_cons (ps_if (pt_cmpR op_gt (pe_ix (show IxR _ (rIxL K) from ix_list) (pv 0) pe_int (fun _ _ => rfl)) pe_int (nomark _)) (pss_cons (ps_set (i := 2) sc_l_take.nd rfl (Or.inl rfl) (pe_op op_mod (pe_ix (show IxR _ (rIxL K) from ix_list) (pv 0) pe_int (fun _ _ => rfl)) (pv 1)))
      (pss_cons (ps_asg (pe_op op_fdivW (pe_ix (show IxR _ (rIxL K) from ix_list) (pv 0) pe_int (fun _ _ => rfl)) (pv 1)) (pg_sub (pv 0) pe_int set_list))
      (pss_one (ps_ret (pv 2))))) pss_nil)
      (pss_cons (ps_asg (pe_op op_add (pe_ix (show IxR _ (rIxL K) from ix_list) (pv 0) pe_int (fun _ _ => rfl)) pe_int) (pg_sub (pv 0) pe_int set_list))
      (pss_cons (ps_set (i := 3) sc_l_take.nd rfl (Or.inl rfl) (pe_op op_mod (pe_op op_pow (pe_op op_add (pe_op op_add (pe_ix (show IxR _ (rIxL K) from ix_list) (pv 0) pe_int (fun _ _ => rfl)) (pe_op op_mul pe_int (pe_ix (show IxR _ (rIxL K) from ix_list) (pv 0) pe_int (fun _ _ => rfl)))) pe_int) pe_int) pe_int))
      (pss_cons (ps_set (i := 3) sc_l_take.nd rfl (Or.inl rfl) (pe_op op_mod (pe_op op_pow (pe_op op_add (pv 3) (pe_op op_mul pe_int (pe_ix (show IxR _ (rIxL K) from ix_list) (pv 0) pe_int (fun _ _ => rfl)))) pe_int) pe_int))
      (pss_one (ps_ret (pe_op op_mod (pe_op op_fdivW (pv 3) pe_int) (pv 1)))))))), ?_⟩
    refine ⟨_, rfl, b, _, _, _, rfl, rfl, SqL.of hb, rfl, _, _, rfl, rfl, _, rfl, ite2 (fun e => ?_) (fun e => ?_)⟩
    · -- a digit of the cell
      refine ⟨_, rfl, b, _, _, _, rfl, rfl, SqL.of hb, rfl, _, rfl, _, _, rfl, rfl, hc, ?_⟩
      refine ⟨_, rfl, b, _, _, _, rfl, rfl, SqL.of hb, rfl, _, rfl, _, _, rfl, rfl, wc, ?_⟩
      refine ⟨_, rfl, b, _, _, 0, rfl, rfl, hb, rfl, ?_⟩
      refine ⟨_, rfl, q _ _ (Fr.upd_b (Fr.refl b H)) ⟨_, _, _, upd_same, Int.ediv_nonneg hx (by omega), hy, hy2, hz, by omega⟩ (emod_in x hc).1 (emod_in x hc).2⟩
    · -- a mixed one
      refine ⟨_, rfl, b, _, _, _, rfl, rfl, SqL.of hb, rfl, _, _, rfl, rfl, ?_⟩
      refine ⟨_, rfl, b, _, _, 2, rfl, rfl, hb, rfl, ?_⟩
      have hb2 : upd H b (.lst ([V.int x, V.int y, V.int z].set 2 (V.int (z + 1)))) b = some (.lst [.int x, .int y, .int (z + 1)]) := upd_same
      refine ⟨_, rfl, b, _, _, _, rfl, rfl, SqL.of hb2, rfl, _, rfl, b, _, _, _, rfl, rfl, SqL.of hb2, rfl, _, _, rfl, rfl, .inl ⟨by decide, by decide⟩, _, _, rfl, rfl, _, _, rfl, rfl, _, _, rfl, rfl, ⟨by decide, by decide, by omega⟩, _, _, rfl, rfl, (show (0 : Int) < _ by decide), ?_⟩
      have m1 := emod_in ((y + 9001 * (z + 1) + 173) ^ (5 : Int).toNat) (m := 2147483647) (by decide)
      generalize (y + 9001 * (z + 1) + 173) ^ (5 : Int).toNat % 2147483647 = t at m1
      refine ⟨_, rfl, _, rfl, b, _, _, _, rfl, rfl, SqL.of hb2, rfl, _, _, rfl, rfl, .inl ⟨by decide, by decide⟩, _, _, rfl, rfl, _, _, rfl, rfl, ⟨by decide, by decide, by omega⟩, _, _, rfl, rfl, (show (0 : Int) < _ by decide), ?_⟩
      have m2 := emod_in ((t + 104729 * (z + 1)) ^ (3 : Int).toNat) (m := 2147483587) (by decide)
      generalize (t + 104729 * (z + 1)) ^ (3 : Int).toNat % 2147483587 = u at m2
      refine ⟨_, rfl, _, _, rfl, rfl, wide_div (by decide) (b := 10) (by decide) (by decide) (by decide), _, rfl, _, _, rfl, rfl, hc, ?_⟩
      exact q _ _ (Fr.upd_b (Fr.refl b H)) ⟨_, _, _, upd_same, hx, hy, hy2, by omega, by omega⟩ (emod_in _ hc).1 (emod_in _ hc).2

end K03
namespace K03
open PySem PySem.Spec PyProof.Rows L2 TL
/-! ### fractions in lowest terms -/
def Low (a b n d : Int) : Prop := 0 < d ∧ Nat.gcd n.natAbs d.natAbs = 1 ∧ a * d = n * b
theorem low_unique {a b n d n' d' : Int} (hb : b ≠ 0) (x : Low a b n d) (y : Low a b n' d') : n = n' ∧ d = d' := by
  obtain ⟨p, g, e⟩ := x
  obtain ⟨p', g', e'⟩ := y
  have k : n * d' = n' * d := by
    refine Int.eq_of_mul_eq_mul_right hb ?_
    calc n * d' * b = n * b * d' := by rw [Int.mul_assoc, Int.mul_comm d' b, ← Int.mul_assoc]
      _ = a * d * d' := by rw [e]
      _ = a * d' * d := by rw [Int.mul_assoc, Int.mul_comm d d', ← Int.mul_assoc]
      _ = n' * b * d := by rw [e']
      _ = n' * d * b := by rw [Int.mul_assoc, Int.mul_comm b d, ← Int.mul_assoc]
  have k' : n.natAbs * d'.natAbs = n'.natAbs * d.natAbs := by rw [← Int.natAbs_mul, k, Int.natAbs_mul]
  have h1 : d.natAbs ∣ d'.natAbs := (Nat.Coprime.symm g).dvd_of_dvd_mul_left (k' ▸ Nat.dvd_mul_left _ _)
  have h2 : d'.natAbs ∣ d.natAbs := (Nat.Coprime.symm g').dvd_of_dvd_mul_left (k'.symm ▸ Nat.dvd_mul_left _ _)
  have h3 := Nat.dvd_antisymm h1 h2
  have hd : d = d' := by omega
  subst hd
  exact ⟨Int.eq_of_mul_eq_mul_right (by omega) k, rfl⟩
/-- division by the common divisor with the denominator's sign -/
theorem low_div {a b s : Int} (hb : b ≠ 0) (hs : s.natAbs = Nat.gcd a.natAbs b.natAbs) (sg : b < 0 ↔ s < 0) : Low a b (a.fdiv s) (b.fdiv s) := by
  have g0 : 0 < Nat.gcd a.natAbs b.natAbs := Nat.gcd_pos_of_pos_right _ (by omega)
  have s0 : s ≠ 0 := by omega
  obtain ⟨a', ha⟩ : s ∣ a := Int.natAbs_dvd_natAbs.mp (hs ▸ Nat.gcd_dvd_left _ _)
  obtain ⟨b', hb'⟩ : s ∣ b := Int.natAbs_dvd_natAbs.mp (hs ▸ Nat.gcd_dvd_right _ _)
  have e1 : a.fdiv s = a' := by rw [ha]; exact Int.mul_fdiv_cancel_left _ s0
  have e2 : b.fdiv s = b' := by rw [hb']; exact Int.mul_fdiv_cancel_left _ s0
  rw [e1, e2]
  have hg : Nat.gcd a'.natAbs b'.natAbs = 1 := by
    have q : s.natAbs = s.natAbs * Nat.gcd a'.natAbs b'.natAbs := by
      have z := Int.gcd_mul_left s a' b'
      rw [← ha, ← hb'] at z
      exact hs.trans z
    have : s.natAbs * 1 = s.natAbs * Nat.gcd a'.natAbs b'.natAbs := by rw [Nat.mul_one]; exact q
    exact (Nat.eq_of_mul_eq_mul_left (by omega) this).symm
  refine ⟨?_, hg, ?_⟩
  · rcases Int.lt_trichotomy b' 0 with h | h | h
    · exfalso
      by_cases hn : s < 0
      · have h1 := Int.mul_nonneg_of_nonpos_of_nonpos (Int.le_of_lt hn) (Int.le_of_lt h)
        have h2 := sg.mpr hn
        omega
      · have h1 : s * b' ≤ 0 := Int.mul_nonpos_of_nonneg_of_nonpos (by omega) (Int.le_of_lt h)
        have h2 : ¬ b < 0 := fun z => hn (sg.mp z)
        omega
    · rw [h] at hb'; simp at hb'; omega
    · exact h
  · rw [ha, hb', Int.mul_assoc, Int.mul_left_comm]
theorem low_neg {a b n d : Int} (h : Low a b n d) : Low (-a) (-b) n d := ⟨h.1, h.2.1, by rw [Int.neg_mul, Int.mul_neg, h.2.2]⟩
theorem low_self {n d : Int} (h : 0 < d) (g : Nat.gcd n.natAbs d.natAbs = 1) : Low n d n d := ⟨h, g, rfl⟩
theorem low_one (a : Int) : Low a 1 a 1 := ⟨by decide, by simp, by simp⟩
theorem low_bound {a b n d : Int} {k : Nat} (hb : b ≠ 0) (h : Low a b n d) (ha : a.natAbs < k) (hk : b.natAbs < k) : n.natAbs < k ∧ d.natAbs < k := by
  obtain ⟨p, g, e⟩ := h
  have e' : a.natAbs * d.natAbs = n.natAbs * b.natAbs := by rw [← Int.natAbs_mul, e, Int.natAbs_mul]
  have h1 : d.natAbs ∣ b.natAbs := (Nat.Coprime.symm g).dvd_of_dvd_mul_left (e' ▸ Nat.dvd_mul_left _ _)
  have h2 : n.natAbs ∣ a.natAbs := Nat.Coprime.dvd_of_dvd_mul_right g (e'.symm ▸ Nat.dvd_mul_right _ _)
  refine ⟨?_, Nat.lt_of_le_of_lt (Nat.le_of_dvd (by omega) h1) hk⟩
  by_cases a0 : a.natAbs = 0
  · have : n.natAbs * b.natAbs = 0 := by rw [← e', a0, Nat.zero_mul]
    rcases Nat.mul_eq_zero.mp this with z | z
    · omega
    · omega
  · exact Nat.lt_of_le_of_lt (Nat.le_of_dvd (by omega) h2) ha
theorem ex_low (a : Int) {b : Int} (hb : b ≠ 0) : ∃ n d, Low a b n d := by
  by_cases h : b < 0
  · exact ⟨_, _, low_div (s := -(Nat.gcd a.natAbs b.natAbs : Nat)) hb (by omega) (by have := Nat.gcd_pos_of_pos_right a.natAbs (show 0 < b.natAbs by omega); omega)⟩
  · exact ⟨_, _, low_div (s := (Nat.gcd a.natAbs b.natAbs : Nat)) hb (by omega) (by omega)⟩

end K03
namespace K03
open PySem PySem.Spec PyProof.Rows L2 TL
/-! ### the class of fractions -/
theorem den_num : ¬ (("_den" : Str) = "_num") := by decide +kernel
theorem num_den : ¬ (("_num" : Str) = "_den") := by decide +kernel
def rf (n d : Int) : List (Str × V) := putF "_den" (.int d) (putF "_num" (.int n) [])
theorem rf_num (n d : Int) : (rf n d).lookup ("_num" : Str) = some (.int n) := by
  unfold rf
  rw [lookup_putF, if_neg num_den, lookup_putF, if_pos rfl]
theorem rf_den (n d : Int) : (rf n d).lookup ("_den" : Str) = some (.int d) := by
  unfold rf
  rw [lookup_putF, if_pos rfl]
theorem rf_no {n d : Int} {m : Str} (h1 : ¬ m = "_den") (h2 : ¬ m = "_num") : (rf n d).lookup m = none := by
  unfold rf
  rw [lookup_putF, if_neg h1, lookup_putF, if_neg h2]
  rfl
/-- the fraction n/d at a -/
def IsR (C : Addr) (H : Hp) (a : Addr) (n d : Int) : Prop := ∃ dx, H a = some (.ins C dx (rf n d))
theorem IsR.same {C : Addr} {H H' : Hp} {a : Addr} {n d : Int} (h : IsR C H a n d) (s : Same H H') : IsR C H' a n d := by
  obtain ⟨dx, e⟩ := h
  exact ⟨dx, s _ _ e⟩
/-- // by a divisor of any sign below 2 ^ 9000 -/
def CDivX (_ j : Int) : Prop := j ≠ 0 ∧ j.natAbs.log2 < 9000
theorem op_fdivX {X : Cx} : OpR X (binaryOp .FloorDiv) (rI CDivX fun i j => .int (i.fdiv j)) := opI fun i j _ _ _ _ _ hc q => floordiv_int hc.1 q (.inl (PyProof.noPylong_of_log2 hc.2))
theorem wide_fdiv {i j : Int} {b : Nat} (h : j ≠ 0) (hb : j.natAbs < 2 ^ b) (h0 : 0 < b) (h9 : b ≤ 9000) : CDivX i j := ⟨h, Nat.lt_of_lt_of_le (PySem.Flt.log2_lt_of h0 hb) h9⟩
theorem kit_int_int {K : PySem.W.Frag} : PySem.W.kitOne K (.type "int") (.type "int") = some true := kit_ty (show kitB "int" "int" = some true by decide +kernel)
theorem kit_int_bool {K : PySem.W.Frag} : PySem.W.kitOne K (.type "int") (.type "bool") = some false := kit_ty (show kitB "int" "bool" = some false by decide +kernel)
/-- not an integer: isinstance says no, or it is a bool -/
def NotI (K : PySem.W.Frag) (H : Hp) (u : V) : Prop := ∃ t, TyX K H u t ∧ (PySem.W.kitOne K t (.type "int") = some false ∨ (PySem.W.kitOne K t (.type "int") = some true ∧ PySem.W.kitOne K t (.type "bool") = some true))
def sp_anyint (K : PySem.W.Frag) : Sp := fun vs H Q _ => ∃ v, vs = [v] ∧ ((∃ i, v = .int i ∧ Q (.bl true) H) ∨ (NotI K H v ∧ Q (.bl false) H))
theorem ok_is_any_integer {P : Program} {w : World} {K : PySem.W.Frag} {mg : Str → Option Value} {base : Heap} (T : Txt P K mg) : FnOk P w K mg base CX0 1 T.f_is_any_integer T.fd_is_any_integer ["value"] (sp_anyint K) := by
  refine T.F_is_any_integer.ok sc_is_any_integer (fun vs H Q E h => ?_) (fun cdv A outer s H vs Q E hr h => ?_)
  · obtain ⟨_, rfl, _⟩ := h; rfl
  · obtain ⟨v, rfl, q⟩ := h
    refine ⟨_, PSs.nox (pss_one (ps_ret (pe_and (pe_callB (show CallR _ _ (rIsi K) from call_isi) (by rfl) T.n_isinstance (by decide +kernel) (pa_cons (pv 0) (pa_cons (pe_bltn (v := .ty "int") (by rfl) T.n_int (by decide +kernel) rfl) pa_nil))) (pe_one (pe_not (pe_callB (show CallR _ _ (rIsi K) from call_isi) (by rfl) T.n_isinstance (by decide +kernel) (pa_cons (pv 0) (pa_cons (pe_bltn (v := .ty "bool") (by rfl) T.n_bool (by decide +kernel) rfl) pa_nil)))))))), ?_⟩
    rcases q with ⟨i, rfl, q⟩ | ⟨⟨t, ty, q1⟩, q⟩
    · exact ⟨_, rfl, _, _, _, _, _, rfl, .ty _, .base (.int i), kit_int_int, _, rfl, _, rfl, _, _, _, _, _, rfl, .ty _, .base (.int i), kit_int_bool, _, rfl, q⟩
    · rcases q1 with k | ⟨k, k2⟩
      · exact ⟨_, rfl, _, _, t, _, _, rfl, .ty _, ty, k, _, rfl, q⟩
      · exact ⟨_, rfl, _, _, t, _, _, rfl, .ty _, ty, k, _, rfl, _, rfl, _, _, t, _, _, rfl, .ty _, ty, k2, _, rfl, q⟩
/-- what making a fraction promises -/
def sp_rinit (K : PySem.W.Frag) (C CI CR : Addr) : Sp := fun vs H Q E => ∃ (x dx : Addr) (u v : V), vs = [.ref x, u, v] ∧ H x = some (.ins C dx []) ∧
  ((∃ i j : Int, u = .int i ∧ v = .int j ∧ j ≠ 0 ∧ j.natAbs < 2 ^ 8000 ∧ ∀ n d, Low i j n d → Q .non (upd H x (.ins C dx (rf n d)))) ∨
   (∃ i : Int, u = .int i ∧ v = .int 0 ∧ ∀ p e, H p = none → upd H p (.tup [.int i, .int 0]) e = none → E (.ref CR) (some e) (upd (upd H p (.tup [.int i, .int 0])) e (.xd [("value", .ref p)]))) ∨
   (NotI K H u ∧ ∀ e, H e = none → E (.ref CI) (some e) (upd H e (.xd [("value", u)]))) ∨
   (∃ i : Int, u = .int i ∧ NotI K H v ∧ ∀ e, H e = none → E (.ref CI) (some e) (upd H e (.xd [("value", v)]))))
theorem ok_Ratio_init {P : Program} {w : World} {K : PySem.W.Frag} {mg : Str → Option Value} {base : Heap} (T : Txt P K mg) : FnOk P w K mg base (L2.CX P w) 2 T.f_Ratio_init T.fd_Ratio_init ["self", "numerator", "denominator"] (sp_rinit K T.C_Ratio T.C_InvalidInteger T.C_InvalidRatio) := by
  refine T.F_Ratio_init.ok sc_Ratio_init (fun vs H Q E h => ?_) (fun cdv A outer s H vs Q E hr h => ?_)
  · obtain ⟨_, _, _, _, rfl, _⟩ := h; rfl
  · obtain ⟨x, dx, u, v, rfl, hx, h⟩ := h
    refine ⟨_, (pss_cons (ps_if (pt_not (pt_val (pe_call (ok_is_any_integer T) (hr.mono (by decide)) (by rfl) T.g_is_any_integer T.F_is_any_integer.kp (b_is_any_integer T) .nil pass0 (pa_cons (pv 1) pa_nil)))) (pss_one (ps_raiseX rfl T.x_InvalidInteger hr (takes_of rfl rfl rfl rfl) (pa_cons (pv 1) pa_nil))) pss_nil)
      (pss_cons (ps_if (pt_not (pt_val (pe_call (ok_is_any_integer T) (hr.mono (by decide)) (by rfl) T.g_is_any_integer T.F_is_any_integer.kp (b_is_any_integer T) .nil pass0 (pa_cons (pv 2) pa_nil)))) (pss_one (ps_raiseX rfl T.x_InvalidInteger hr (takes_of rfl rfl rfl rfl) (pa_cons (pv 2) pa_nil))) pss_nil)
      (pss_cons (ps_if (pt_cmpR op_eq (pv 2) pe_int (nomark _)) (pss_one (ps_raiseX rfl T.x_InvalidRatio hr (takes_of rfl rfl rfl rfl) (pa_cons (pe_tup (pa_cons (pv 1) (pa_cons (pv 2) pa_nil))) pa_nil))) pss_nil)
      (pss_cons (ps_set (i := 3) sc_Ratio_init.nd rfl (Or.inl rfl) (pe_callBfun cr_gcd (by rfl) T.g_gcd (pa_cons (pv 1) (pa_cons (pv 2) pa_nil))))
      (pss_cons (ps_if (pt_cmpR op_lt (pv 2) pe_int (nomark _)) (pss_one (ps_set (i := 3) sc_Ratio_init.nd rfl (Or.inl rfl) (pe_un un_neg (pv 3)))) pss_nil)
      (pss_cons (ps_fld (pv 0) (pe_op op_fdivX (pv 1) (pv 3)) rfl)
      (pss_one (ps_fld (pv 0) (pe_op op_fdivX (pv 2) (pv 3)) rfl)))))))), ?_⟩
    rcases h with ⟨i, j, rfl, rfl, j0, hj, q⟩ | ⟨i, rfl, rfl, q⟩ | ⟨ni, q⟩ | ⟨i, rfl, ni, q⟩
    · refine ⟨_, rfl, _, rfl, .inl ⟨i, rfl, _, rfl, ?_⟩⟩
      refine ⟨_, rfl, _, rfl, .inl ⟨j, rfl, _, rfl, ?_⟩⟩
      have g0 : 0 < Nat.gcd i.natAbs j.natAbs := Nat.gcd_pos_of_pos_right _ (by omega)
      have gl : Nat.gcd i.natAbs j.natAbs ≤ j.natAbs := Nat.le_of_dvd (by omega) (Nat.gcd_dvd_right _ _)
      have g9 : ((Nat.gcd i.natAbs j.natAbs : Nat) : Int).natAbs < 2 ^ 8000 := by rw [Int.natAbs_natCast]; omega
      have twice : ∀ (n d : Int), upd (upd H x (.ins T.C_Ratio dx (putF "_num" (.int n) []))) x (.ins T.C_Ratio dx (rf n d)) = upd H x (.ins T.C_Ratio dx (rf n d)) := fun n d => by
        funext b
        by_cases hb : b = x
        · rw [hb, upd_same, upd_same]
        · rw [upd_ne hb, upd_ne hb, upd_ne hb]
      refine ⟨_, rfl, rfl, _, rfl, ite2 (fun e => absurd (V.int.inj (of_decide_eq_true e)) j0) (fun _ => ?_)⟩
      refine ⟨_, rfl, _, rfl, i, j, rfl, _, rfl, _, _, rfl, rfl, _, rfl, ite2 (fun e => ?_) (fun e => ?_)⟩
      · have lt := lt_of_dec e
        refine ⟨_, rfl, _, rfl, ?_⟩
        have w : ∀ z : Int, CDivX z (-((Nat.gcd i.natAbs j.natAbs : Nat) : Int)) := fun z => wide_fdiv (by omega) (b := 8000) (by rw [Int.natAbs_neg]; exact g9) (by decide) (by decide)
        refine ⟨_, rfl, _, rfl, _, _, rfl, rfl, w _, _, rfl, x, _, dx, _, rfl, hx, T.cl_Ratio, T.na_Ratio__num, (by decide), ?_⟩
        refine ⟨_, rfl, _, rfl, _, _, rfl, rfl, w _, _, rfl, x, _, dx, _, rfl, upd_same, T.cl_Ratio, T.na_Ratio__den, (by show 1 < 1000; decide), ?_⟩
        have r := q _ _ (low_div (s := -((Nat.gcd i.natAbs j.natAbs : Nat) : Int)) j0 (by omega) (by omega))
        rw [← twice] at r
        exact r
      · have lt := nlt_of_dec e
        have w : ∀ z : Int, CDivX z ((Nat.gcd i.natAbs j.natAbs : Nat) : Int) := fun z => wide_fdiv (by omega) (b := 8000) g9 (by decide) (by decide)
        refine ⟨_, rfl, _, rfl, _, _, rfl, rfl, w _, _, rfl, x, _, dx, _, rfl, hx, T.cl_Ratio, T.na_Ratio__num, (by decide), ?_⟩
        refine ⟨_, rfl, _, rfl, _, _, rfl, rfl, w _, _, rfl, x, _, dx, _, rfl, upd_same, T.cl_Ratio, T.na_Ratio__den, (by show 1 < 1000; decide), ?_⟩
        have r := q _ _ (low_div (s := ((Nat.gcd i.natAbs j.natAbs : Nat) : Int)) j0 (by omega) (by omega))
        rw [← twice] at r
        exact r
    · refine ⟨_, rfl, _, rfl, .inl ⟨i, rfl, _, rfl, ?_⟩⟩
      refine ⟨_, rfl, _, rfl, .inl ⟨0, rfl, _, rfl, ?_⟩⟩
      refine ⟨_, rfl, rfl, _, rfl, ?_⟩
      refine ⟨_, rfl, _, rfl, (by show 2 ≤ sizeLine; decide), fun p np => ⟨_, rfl, fun e ne => q p e np ne⟩⟩
    · refine ⟨_, rfl, _, rfl, .inr ⟨ni, _, rfl, ?_⟩⟩
      exact ⟨_, rfl, _, rfl, fun e ne => q e ne⟩
    · refine ⟨_, rfl, _, rfl, .inl ⟨i, rfl, _, rfl, ?_⟩⟩
      refine ⟨_, rfl, _, rfl, .inr ⟨ni, _, rfl, ?_⟩⟩
      exact ⟨_, rfl, _, rfl, fun e ne => q e ne⟩

end K03
namespace K03
open PySem PySem.Spec PyProof.Rows L2 TL
/-! ### its methods -/
def sp_rget (C : Addr) (f : Int → Int → V) : Sp := fun vs H Q _ => ∃ (a : Addr) (n d : Int), vs = [.ref a] ∧ IsR C H a n d ∧ Q (f n d) H
theorem ok_Ratio_num {P : Program} {w : World} {K : PySem.W.Frag} {mg : Str → Option Value} {base : Heap} (T : Txt P K mg) : FnOk P w K mg base CX0 1 T.f_Ratio_num T.fd_Ratio_num ["self"] (sp_rget T.C_Ratio (fun n _ => .int n)) := by
  refine T.F_Ratio_num.ok sc_Ratio_num (fun vs H Q E h => ?_) (fun cdv A outer s H vs Q E hr h => ?_)
  · obtain ⟨_, _, _, rfl, _⟩ := h; rfl
  · obtain ⟨a, n, d, rfl, ⟨dx, e⟩, q⟩ := h
    refine ⟨_, PSs.nox (pss_one (ps_ret (pe_fld (pv 0) rfl))), ?_⟩
    exact ⟨_, rfl, a, _, dx, _, _, rfl, e, T.cl_Ratio, T.na_Ratio__num, rf_num n d, q⟩
theorem ok_Ratio_den {P : Program} {w : World} {K : PySem.W.Frag} {mg : Str → Option Value} {base : Heap} (T : Txt P K mg) : FnOk P w K mg base CX0 1 T.f_Ratio_den T.fd_Ratio_den ["self"] (sp_rget T.C_Ratio (fun _ d => .int d)) := by
  refine T.F_Ratio_den.ok sc_Ratio_den (fun vs H Q E h => ?_) (fun cdv A outer s H vs Q E hr h => ?_)
  · obtain ⟨_, _, _, rfl, _⟩ := h; rfl
  · obtain ⟨a, n, d, rfl, ⟨dx, e⟩, q⟩ := h
    refine ⟨_, PSs.nox (pss_one (ps_ret (pe_fld (pv 0) rfl))), ?_⟩
    exact ⟨_, rfl, a, _, dx, _, _, rfl, e, T.cl_Ratio, T.na_Ratio__den, rf_den n d, q⟩
def sgn (n : Int) : Int := if n = 0 then 0 else if 0 < n then 1 else -1
theorem ok_Ratio_sign {P : Program} {w : World} {K : PySem.W.Frag} {mg : Str → Option Value} {base : Heap} (T : Txt P K mg) : FnOk P w K mg base CX0 1 T.f_Ratio_sign T.fd_Ratio_sign ["self"] (sp_rget T.C_Ratio (fun n _ => .int (sgn n))) := by
  refine T.F_Ratio_sign.ok sc_Ratio_sign (fun vs H Q E h => ?_) (fun cdv A outer s H vs Q E hr h => ?_)
  · obtain ⟨_, _, _, rfl, _⟩ := h; rfl
  · obtain ⟨a, n, d, rfl, ⟨dx, e⟩, q⟩ := h
    replace q : Q (.int (sgn n)) H := q
    refine ⟨_, PSs.nox (pss_cons (ps_if (pt_cmpR op_eq (pe_fld (pv 0) rfl) pe_int (nomark _)) (pss_one (ps_ret pe_int)) pss_nil)
      (pss_one (ps_ret (pe_ifExp (pt_cmpR op_gt (pe_fld (pv 0) rfl) pe_int (nomark _)) pe_int (pe_un un_neg pe_int))))), ?_⟩
    refine ⟨_, rfl, a, _, dx, _, _, rfl, e, T.cl_Ratio, T.na_Ratio__num, rf_num n d, rfl, _, rfl, ite2 (fun z => ?_) (fun z => ?_)⟩
    · have z1 := V.int.inj (of_decide_eq_true z)
      rw [z1] at q
      exact q
    · have z1 : n ≠ 0 := fun y => z (decide_eq_true (by rw [y]))
      unfold sgn at q
      rw [if_neg z1] at q
      refine ⟨_, rfl, a, _, dx, _, _, rfl, e, T.cl_Ratio, T.na_Ratio__num, rf_num n d, _, _, rfl, rfl, _, rfl, ite2 (fun y => ?_) (fun y => ?_)⟩
      · rw [if_pos (lt_of_dec y)] at q
        exact q
      · rw [if_neg (nlt_of_dec y)] at q
        exact ⟨_, rfl, q⟩
def sp_req (K : PySem.W.Frag) (C : Addr) : Sp := fun vs H Q _ => ∃ (a : Addr) (y : V) (n d : Int), vs = [.ref a, y] ∧ IsR C H a n d ∧
  ((∃ b m e, y = .ref b ∧ IsR C H b m e ∧ Q (.bl (decide (n = m) && decide (d = e))) H) ∨ (∃ t, TyX K H y t ∧ PySem.W.kitOne K t (.ref C) = some false ∧ Q (.bl false) H))
theorem dec_vint {i j : Int} : decide (V.int i = V.int j) = decide (i = j) := by
  by_cases h : i = j
  · subst h; simp
  · rw [decide_eq_false h, decide_eq_false fun z => h (V.int.inj z)]
theorem ok_Ratio_eq {P : Program} {w : World} {K : PySem.W.Frag} {mg : Str → Option Value} {base : Heap} (T : Txt P K mg) : FnOk P w K mg base CX0 1 T.f_Ratio_eq T.fd_Ratio_eq ["self", "other"] (sp_req K T.C_Ratio) := by
  refine T.F_Ratio_eq.ok sc_Ratio_eq (fun vs H Q E h => ?_) (fun cdv A outer s H vs Q E hr h => ?_)
  · obtain ⟨_, _, _, _, rfl, _⟩ := h; rfl
  · obtain ⟨a, y, n, d, rfl, ⟨dx, e⟩, h⟩ := h
    refine ⟨_, PSs.nox (pss_one (ps_ret (pe_and (pe_callB (show CallR _ _ (rIsi K) from call_isi) (by rfl) T.n_isinstance (by decide +kernel) (pa_cons (pv 1) (pa_cons (pe_glob (v := .ref T.C_Ratio) (by rfl) T.g_Ratio rfl) pa_nil))) (pe_and (pe_cmpR op_eq (pe_fld (pv 0) rfl) (pe_fld (pv 1) rfl) (nomark _)) (pe_one (pe_cmpR op_eq (pe_fld (pv 0) rfl) (pe_fld (pv 1) rfl) (nomark _))))))), ?_⟩
    rcases h with ⟨b, m, g, rfl, ⟨dy, e'⟩, q⟩ | ⟨t, ty, k, q⟩
    · refine ⟨_, rfl, _, _, _, _, _, rfl, .own _, T.ow_Ratio.ty e', T.ow_Ratio.me, _, rfl, ?_⟩
      refine ⟨_, rfl, a, _, dx, _, _, rfl, e, T.cl_Ratio, T.na_Ratio__num, rf_num n d, _, rfl, b, _, dy, _, _, rfl, e', T.cl_Ratio, T.na_Ratio__num, rf_num m g, rfl, _, rfl, ite2 (fun z => ?_) (fun z => ?_)⟩
      · refine ⟨_, rfl, a, _, dx, _, _, rfl, e, T.cl_Ratio, T.na_Ratio__den, rf_den n d, _, rfl, b, _, dy, _, _, rfl, e', T.cl_Ratio, T.na_Ratio__den, rf_den m g, rfl, ?_⟩
        rw [dec_vint] at z ⊢
        rw [z, Bool.true_and] at q
        exact q
      · rw [dec_vint] at z
        rw [Bool.eq_false_iff.mpr z] at q
        exact q
    · exact ⟨_, rfl, _, _, t, _, _, rfl, .own _, ty, k, _, rfl, q⟩
def rtext (n d : Int) : Str := if d = 1 then (toString n : String) else (Str.empty ++ (toString n : String) ++ ("/" : Str)) ++ (toString d : String)
theorem tlen {i : Int} (h : i.natAbs < 10 ^ 500) : (Str.ofString (toString i)).length ≤ 501 := by
  have e := int_text_length_le10 (k := 500) (by decide) h
  rw [PySem.ofString_length]
  exact e
theorem tlog {i : Int} (h : i.natAbs < 10 ^ 500) : i.natAbs.log2 < 1920 :=
  Nat.lt_of_lt_of_le (PySem.Flt.log2_lt_of (k := 1900) (by decide) (Nat.lt_of_lt_of_le h (by decide +kernel))) (by decide)
def sp_rstr (C : Addr) : Sp := fun vs H Q _ => ∃ (a : Addr) (n d : Int), vs = [.ref a] ∧ IsR C H a n d ∧ n.natAbs < 10 ^ 500 ∧ d.natAbs < 10 ^ 500 ∧ Q (.str (rtext n d)) H
theorem ok_Ratio_str {P : Program} {w : World} {K : PySem.W.Frag} {mg : Str → Option Value} {base : Heap} (T : Txt P K mg) : FnOk P w K mg base CX0 1 T.f_Ratio_str T.fd_Ratio_str ["self"] (sp_rstr T.C_Ratio) := by
  refine T.F_Ratio_str.ok sc_Ratio_str (fun vs H Q E h => ?_) (fun cdv A outer s H vs Q E hr h => ?_)
  · obtain ⟨_, _, _, rfl, _⟩ := h; rfl
  · obtain ⟨a, n, d, rfl, ⟨dx, e⟩, b1, b2, q⟩ := h
    unfold rtext at q
    have l1 := tlen b1
    have l2 := tlen b2
    refine ⟨_, PSs.nox (pss_cons (ps_if (pt_cmpR op_eq (pe_fld (pv 0) rfl) pe_int (nomark _)) (pss_one (ps_ret (pe_callTy call_str_int (by rfl) T.n_str (by decide +kernel) (pa_cons (pe_fld (pv 0) rfl) pa_nil)))) pss_nil)
      (pss_one (ps_ret (pe_joined (PJ.cons (pe_fmt (pe_fld (pv 0) rfl)) (PJ.cons pe_str (PJ.cons (pe_fmt (pe_fld (pv 0) rfl)) PJ.nil))))))), ?_⟩
    refine ⟨_, rfl, a, _, dx, _, _, rfl, e, T.cl_Ratio, T.na_Ratio__den, rf_den n d, rfl, _, rfl, ite2 (fun z => ?_) (fun z => ?_)⟩
    · rw [if_pos (V.int.inj (of_decide_eq_true z))] at q
      exact ⟨_, rfl, a, _, dx, _, _, rfl, e, T.cl_Ratio, T.na_Ratio__num, rf_num n d, n, rfl, tlog b1, q⟩
    · rw [if_neg fun y => z (decide_eq_true (by rw [y]))] at q
      have e0 : Str.empty.length = 0 := by decide
      have e1 : (Str.ofString "/").length = 1 := by decide
      have hs := sizeLine_eq
      refine ⟨_, rfl, a, _, dx, _, _, rfl, e, T.cl_Ratio, T.na_Ratio__num, rf_num n d, .inr ⟨n, rfl, tlog b1, _, rfl, ?_, _, rfl, ?_, _, rfl, a, _, dx, _, _, rfl, e, T.cl_Ratio, T.na_Ratio__den, rf_den n d, .inr ⟨d, rfl, tlog b2, _, rfl, ?_, q⟩⟩⟩
      · rw [strLen_append]; omega
      · rw [strLen_append, strLen_append]; omega
      · rw [strLen_append, strLen_append, strLen_append]; omega
theorem ok__check_ratio {P : Program} {w : World} {K : PySem.W.Frag} {mg : Str → Option Value} {base : Heap} (T : Txt P K mg) : FnOk P w K mg base CX0 1 T.f__check_ratio T.fd__check_ratio ["value"] (sp_rget T.C_Ratio (fun _ _ => .non)) := by
  refine T.F__check_ratio.ok sc__check_ratio (fun vs H Q E h => ?_) (fun cdv A outer s H vs Q E hr h => ?_)
  · obtain ⟨_, _, _, rfl, _⟩ := h; rfl
  · obtain ⟨a, n, d, rfl, ⟨dx, e⟩, q⟩ := h
    refine ⟨_, PSs.nox (pss_one (ps_if (pt_not (pt_val (pe_callB (show CallR _ _ (rIsi K) from call_isi) (by rfl) T.n_isinstance (by decide +kernel) (pa_cons (pv 0) (pa_cons (pe_glob (v := .ref T.C_Ratio) (by rfl) T.g_Ratio rfl) pa_nil))))) (pss_one ps_never) pss_nil)), ?_⟩
    exact ⟨_, rfl, _, _, _, _, _, rfl, .own _, T.ow_Ratio.ty e, T.ow_Ratio.me, _, rfl, q⟩
theorem made_same {H : Hp} {x dx : Addr} {o1 o2 o3 : HO} (hx : H x = none) (hd : H dx = none) : Same H (upd (upd (upd H dx o1) x o2) x o3) := fun b u e => by
  rw [upd_ne (ne_of_none e hx), upd_ne (ne_of_none e hx), upd_ne (ne_of_none e hd)]
  exact e
theorem isR_made {C : Addr} {H : Hp} {x dx : Addr} {n d : Int} : IsR C (upd H x (.ins C dx (rf n d))) x n d := ⟨dx, upd_same⟩
/-- a fraction made by two of them -/
def sp_rop (C : Addr) (f : Int → Int → Int → Int → Int × Int) : Sp := fun vs H Q _ => ∃ (a b : Addr) (n1 d1 n2 d2 : Int), vs = [.ref a, .ref b] ∧ IsR C H a n1 d1 ∧ IsR C H b n2 d2 ∧ d1 ≠ 0 ∧ d2 ≠ 0 ∧
  n1.natAbs < 2 ^ 2000 ∧ d1.natAbs < 2 ^ 2000 ∧ n2.natAbs < 2 ^ 2000 ∧ d2.natAbs < 2 ^ 2000 ∧ ∀ n d x H', Low (f n1 d1 n2 d2).1 (f n1 d1 n2 d2).2 n d → Same H H' → H x = none → IsR C H' x n d → Q (.ref x) H'
theorem ok_Ratio_multiply {P : Program} {w : World} {K : PySem.W.Frag} {mg : Str → Option Value} {base : Heap} (T : Txt P K mg) : FnOk P w K mg base CX0 4 T.f_Ratio_multiply T.fd_Ratio_multiply ["self", "other"] (sp_rop T.C_Ratio (fun n1 d1 n2 d2 => (n1 * n2, d1 * d2))) := by
  refine T.F_Ratio_multiply.ok sc_Ratio_multiply (fun vs H Q E h => ?_) (fun cdv A outer s H vs Q E hr h => ?_)
  · obtain ⟨_, _, _, _, _, _, rfl, _⟩ := h; rfl
  · obtain ⟨a, b, n1, d1, n2, d2, rfl, ra, rb, z1, z2, b1, b2, b3, b4, q⟩ := h
    obtain ⟨dx, ea⟩ := id ra
    refine ⟨_, PSs.nox (pss_cons (ps_expr (pe_call (ok__check_ratio T) (hr.mono (by decide)) (by rfl) T.g__check_ratio T.F__check_ratio.kp (b__check_ratio T) .nil pass0 (pa_cons (pv 1) pa_nil)))
      (pss_one (ps_ret (pe_makeS T.mk_Ratio (ok_Ratio_init T) (hr.mono (by decide)) (by rfl) T.g_Ratio (b_Ratio_init T) .nil passS (pa_cons (pe_op op_mulW (pe_fld (pv 0) rfl) (pe_meth0 (pl := _) (pv 1) T.cl_Ratio T.m_Ratio_num (ok_Ratio_num T) (hr.mono (by decide)) (b_Ratio_num T) .nil pass0)) (pa_cons (pe_op op_mulW (pe_fld (pv 0) rfl) (pe_meth0 (pl := _) (pv 1) T.cl_Ratio T.m_Ratio_den (ok_Ratio_den T) (hr.mono (by decide)) (b_Ratio_den T) .nil pass0)) pa_nil)))))), ?_⟩
    refine ⟨_, rfl, b, n2, d2, rfl, rb, ?_⟩
    obtain ⟨dy, eb⟩ := id rb
    have w : ∀ {i j : Int}, i.natAbs < 2 ^ 2000 → j.natAbs < 2 ^ 2000 → CMulW i j := fun x y => wide_mul x y (by decide) (by decide) (by decide)
    refine ⟨_, rfl, a, _, dx, _, _, rfl, ea, T.cl_Ratio, T.na_Ratio__num, rf_num n1 d1, _, rfl, b, dy, _, rfl, eb, rf_no (by decide +kernel) (by decide +kernel), b, n2, d2, rfl, rb, _, _, rfl, rfl, w b1 b3, ?_⟩
    refine ⟨_, rfl, a, _, dx, _, _, rfl, ea, T.cl_Ratio, T.na_Ratio__den, rf_den n1 d1, _, rfl, b, dy, _, rfl, eb, rf_no (by decide +kernel) (by decide +kernel), b, n2, d2, rfl, rb, _, _, rfl, rfl, w b2 b4, ?_⟩
    intro x dx' nx ndx ne
    refine ⟨x, dx', _, _, rfl, upd_same, .inl ⟨_, _, rfl, rfl, Int.mul_ne_zero z1 z2, Nat.lt_trans (wide_lt b2 b4) (by decide +kernel), fun n d lw => ⟨rfl, q n d x _ lw (made_same nx ndx) nx isR_made⟩⟩⟩
theorem ok_Ratio_add {P : Program} {w : World} {K : PySem.W.Frag} {mg : Str → Option Value} {base : Heap} (T : Txt P K mg) : FnOk P w K mg base CX0 4 T.f_Ratio_add T.fd_Ratio_add ["self", "other"] (sp_rop T.C_Ratio (fun n1 d1 n2 d2 => (n1 * d2 + n2 * d1, d1 * d2))) := by
  refine T.F_Ratio_add.ok sc_Ratio_add (fun vs H Q E h => ?_) (fun cdv A outer s H vs Q E hr h => ?_)
  · obtain ⟨_, _, _, _, _, _, rfl, _⟩ := h; rfl
  · obtain ⟨a, b, n1, d1, n2, d2, rfl, ra, rb, z1, z2, b1, b2, b3, b4, q⟩ := h
    obtain ⟨dx, ea⟩ := id ra
    refine ⟨_, PSs.nox (pss_cons (ps_expr (pe_call (ok__check_ratio T) (hr.mono (by decide)) (by rfl) T.g__check_ratio T.F__check_ratio.kp (b__check_ratio T) .nil pass0 (pa_cons (pv 1) pa_nil)))
      (pss_one (ps_ret (pe_makeS T.mk_Ratio (ok_Ratio_init T) (hr.mono (by decide)) (by rfl) T.g_Ratio (b_Ratio_init T) .nil passS (pa_cons (pe_op op_add (pe_op op_mulW (pe_fld (pv 0) rfl) (pe_meth0 (pl := _) (pv 1) T.cl_Ratio T.m_Ratio_den (ok_Ratio_den T) (hr.mono (by decide)) (b_Ratio_den T) .nil pass0)) (pe_op op_mulW (pe_meth0 (pl := _) (pv 1) T.cl_Ratio T.m_Ratio_num (ok_Ratio_num T) (hr.mono (by decide)) (b_Ratio_num T) .nil pass0) (pe_fld (pv 0) rfl))) (pa_cons (pe_op op_mulW (pe_fld (pv 0) rfl) (pe_meth0 (pl := _) (pv 1) T.cl_Ratio T.m_Ratio_den (ok_Ratio_den T) (hr.mono (by decide)) (b_Ratio_den T) .nil pass0)) pa_nil)))))), ?_⟩
    refine ⟨_, rfl, b, n2, d2, rfl, rb, ?_⟩
    obtain ⟨dy, eb⟩ := id rb
    have w : ∀ {i j : Int}, i.natAbs < 2 ^ 2000 → j.natAbs < 2 ^ 2000 → CMulW i j := fun x y => wide_mul x y (by decide) (by decide) (by decide)
    refine ⟨_, rfl, a, _, dx, _, _, rfl, ea, T.cl_Ratio, T.na_Ratio__num, rf_num n1 d1, _, rfl, b, dy, _, rfl, eb, rf_no (by decide +kernel) (by decide +kernel), b, n2, d2, rfl, rb, _, _, rfl, rfl, w b1 b4, ?_⟩
    refine ⟨_, rfl, b, dy, _, rfl, eb, rf_no (by decide +kernel) (by decide +kernel), b, n2, d2, rfl, rb, _, rfl, a, _, dx, _, _, rfl, ea, T.cl_Ratio, T.na_Ratio__den, rf_den n1 d1, _, _, rfl, rfl, w b3 b2, ?_⟩
    refine ⟨_, _, rfl, rfl, ?_⟩
    refine ⟨_, rfl, a, _, dx, _, _, rfl, ea, T.cl_Ratio, T.na_Ratio__den, rf_den n1 d1, _, rfl, b, dy, _, rfl, eb, rf_no (by decide +kernel) (by decide +kernel), b, n2, d2, rfl, rb, _, _, rfl, rfl, w b2 b4, ?_⟩
    intro x dx' nx ndx ne
    refine ⟨x, dx', _, _, rfl, upd_same, .inl ⟨_, _, rfl, rfl, Int.mul_ne_zero z1 z2, Nat.lt_trans (wide_lt b2 b4) (by decide +kernel), fun n d lw => ⟨rfl, q n d x _ lw (made_same nx ndx) nx isR_made⟩⟩⟩

end K03
namespace K03
open PySem PySem.Spec PyProof.Rows L2 TL
/-! ### the law's numbers -/
def sp_div : Sp := fun vs H Q _ => ∃ x y : Int, vs = [.int x, .int y] ∧ 0 ≤ x ∧ 0 ≤ y ∧ Q (.int ((Nat.gcd x.natAbs y.natAbs : Nat) : Int)) H
theorem gcd_step {u v : Int} (hu : 0 ≤ u) (hv : 0 < v) : Nat.gcd v.natAbs (u % v).natAbs = Nat.gcd u.natAbs v.natAbs := by
  obtain ⟨a, rfl⟩ := Int.eq_ofNat_of_zero_le hu
  obtain ⟨b, rfl⟩ := Int.eq_ofNat_of_zero_le (Int.le_of_lt hv)
  show Nat.gcd b ((a % b : Nat) : Int).natAbs = Nat.gcd a b
  rw [Int.natAbs_natCast, Nat.gcd_comm a b, Nat.gcd_rec b a, Nat.gcd_comm]
theorem ok_l_divisor {P : Program} {w : World} {K : PySem.W.Frag} {mg : Str → Option Value} {base : Heap} (T : Txt P K mg) : FnOk P w K mg base CX0 1 T.f_l_divisor T.fd_l_divisor ["_law_one", "_law_other"] (sp_div) := by
  refine T.F_l_divisor.ok sc_l_divisor (fun vs H Q E h => ?_) (fun cdv A outer s H vs Q E hr h => ?_)
  · obtain ⟨_, _, rfl, _⟩ := h; rfl
  · obtain ⟨x, y, rfl, hx, hy, q⟩ := h
    refine ⟨_, PSs.nox (pss_cons (ps_while PassesOwn.never (pt_cmpR op_gt (pv 1) pe_int (nomark _)) (pss_cons (ps_set (i := 2) sc_l_divisor.nd rfl (Or.inl rfl) (pe_op op_mod (pv 0) (pv 1)))
      (pss_cons (ps_set (i := 0) sc_l_divisor.nd rfl (Or.inl rfl) (pv 1))
      (pss_one (ps_set (i := 1) sc_l_divisor.nd rfl (Or.inl rfl) (pv 2))))))
      (pss_one (ps_ret (pv 0)))), ?_⟩
    let W : Nat → L2.St → Hp → Prop := fun m σ H' => H' = H ∧ ∃ (u v : Int) (z : Option V), σ = [some (.int u), some (.int v), z] ∧ 0 ≤ u ∧ 0 ≤ v ∧ v.toNat = m ∧ Nat.gcd u.natAbs v.natAbs = Nat.gcd x.natAbs y.natAbs
    refine ⟨W, ⟨y.toNat, rfl, x, y, none, rfl, hx, hy, rfl, rfl⟩, fun m σ H' w => ?_⟩
    obtain ⟨rfl, u, v, z, rfl, hu, hv, hm, hg⟩ := w
    refine ⟨_, rfl, _, _, rfl, rfl, _, rfl, ite2 (fun e => ?_) (fun e => ?_)⟩
    · have pos := lt_of_dec e
      have r1 := (emod_in u pos).1
      have r2 := (emod_in u pos).2
      refine ⟨fun σ' H'' => ∃ m' < m, W m' σ' H'', fun σ' H'' p => p, ?_⟩
      refine ⟨_, rfl, _, rfl, _, _, rfl, rfl, pos, _, rfl, _, rfl, ?_⟩
      exact ⟨(u % v).toNat, by omega, rfl, v, u % v, _, rfl, hv, r1, rfl, (gcd_step hu pos).trans hg⟩
    · have npos := nlt_of_dec e
      have v0 : v = 0 := by omega
      subst v0
      refine ⟨_, rfl, ?_⟩
      have e1 : u = ((Nat.gcd x.natAbs y.natAbs : Nat) : Int) := by
        rw [← hg]
        show u = ((Nat.gcd u.natAbs 0 : Nat) : Int)
        rw [Nat.gcd_zero_right]
        omega
      rw [e1]
      exact q
/-- a draw of a number, of a pair -/
def sp_num : Sp := fun vs H Q _ => ∃ (b : Addr) (n : Nat), vs = [.ref b] ∧ Bag H b n ∧ n ≤ 900000 ∧ ∀ (i : Int) H', Fr b H H' → Bag H' b (n + 9) → i.natAbs < 10 ^ 40 → Q (.int i) H'
theorem ok_l_number {P : Program} {w : World} {K : PySem.W.Frag} {mg : Str → Option Value} {base : Heap} (T : Txt P K mg) : FnOk P w K mg base CX0 2 T.f_l_number T.fd_l_number ["_law_box_here"] (sp_num) := by
  refine T.F_l_number.ok sc_l_number (fun vs H Q E h => ?_) (fun cdv A outer s H vs Q E hr h => ?_)
  · obtain ⟨_, _, rfl, _⟩ := h; rfl
  · obtain ⟨b, n, rfl, hB, hn, q⟩ := h
    refine ⟨_, PSs.nox (pss_cons (ps_set (i := 1) sc_l_number.nd rfl (Or.inl rfl) (pe_call (ok_l_take T) (hr.mono (by decide)) (by rfl) T.g_l_take T.F_l_take.kp (b_l_take T) .nil pass0 (pa_cons (pv 0) (pa_cons pe_int pa_nil))))
      (pss_cons (ps_if (pt_cmpR op_eq (pv 1) pe_int (nomark _)) (pss_one (ps_ret (pe_op op_sub (pe_call (ok_l_take T) (hr.mono (by decide)) (by rfl) T.g_l_take T.F_l_take.kp (b_l_take T) .nil pass0 (pa_cons (pv 0) (pa_cons pe_int pa_nil))) pe_int))) pss_nil)
      (pss_cons (ps_if (pt_cmpR op_eq (pv 1) pe_int (nomark _)) (pss_one (ps_ret (pe_op op_sub (pe_call (ok_l_take T) (hr.mono (by decide)) (by rfl) T.g_l_take T.F_l_take.kp (b_l_take T) .nil pass0 (pa_cons (pv 0) (pa_cons pe_int pa_nil))) pe_int))) pss_nil)
      (pss_cons (ps_if (pt_cmpR op_eq (pv 1) pe_int (nomark _)) (pss_one (ps_ret (pe_ix (show IxR _ (rIxL K) from ix_list) (pe_lst (pa_cons (pe_op op_sub (pe_op op_pow pe_int pe_int) pe_int) (pa_cons (pe_op op_sub pe_int (pe_op op_pow pe_int pe_int)) (pa_cons (pe_op op_pow pe_int pe_int) (pa_cons pe_int pa_nil))))) (pe_call (ok_l_take T) (hr.mono (by decide)) (by rfl) T.g_l_take T.F_l_take.kp (b_l_take T) .nil pass0 (pa_cons (pv 0) (pa_cons pe_int pa_nil))) (fun _ _ => rfl)))) pss_nil)
      (pss_cons (ps_set (i := 2) sc_l_number.nd rfl (Or.inl rfl) (pe_call (ok_l_take T) (hr.mono (by decide)) (by rfl) T.g_l_take T.F_l_take.kp (b_l_take T) .nil pass0 (pa_cons (pv 0) (pa_cons (pe_op op_pow pe_int pe_int) pa_nil))))
      (pss_cons (ps_for PassesOwn.never rfl (pi_range1 (by rfl) T.n_range (pa_cons (pe_call (ok_l_take T) (hr.mono (by decide)) (by rfl) T.g_l_take T.F_l_take.kp (b_l_take T) .nil pass0 (pa_cons (pv 0) (pa_cons pe_int pa_nil))) pa_nil)) (pg_name (i := 3) sc_l_number.nd rfl (Or.inl rfl)) (pss_one (ps_set (i := 2) sc_l_number.nd rfl (Or.inl rfl) (pe_op op_add (pe_op op_mul (pv 2) (pe_op op_pow pe_int pe_int)) (pe_call (ok_l_take T) (hr.mono (by decide)) (by rfl) T.g_l_take T.F_l_take.kp (b_l_take T) .nil pass0 (pa_cons (pv 0) (pa_cons (pe_op op_pow pe_int pe_int) pa_nil)))))))
      (pss_one (ps_ret (pe_ifExp (pt_cmpR op_lt (pv 1) pe_int (nomark _)) (pv 2) (pe_un un_neg (pv 2))))))))))), ?_⟩
    refine ⟨_, rfl, b, n, 6, rfl, hB, by omega, by decide, by decide, fun w H1 f1 b1 w0 w1 => ?_⟩
    refine ⟨_, rfl, rfl, _, rfl, ite2 (fun e => ?_) (fun e => ?_)⟩
    · refine ⟨_, rfl, b, _, 5, rfl, b1, by omega, by decide, by decide, fun d H2 f2 b2 d0 d1 => ?_⟩
      exact ⟨_, _, rfl, rfl, q _ _ (f1.trans f2) (b2.mono (by omega)) (by omega)⟩
    · refine ⟨_, rfl, rfl, _, rfl, ite2 (fun e => ?_) (fun e => ?_)⟩
      · refine ⟨_, rfl, b, _, 2000, rfl, b1, by omega, by decide, by decide, fun d H2 f2 b2 d0 d1 => ?_⟩
        exact ⟨_, _, rfl, rfl, q _ _ (f1.trans f2) (b2.mono (by omega)) (by omega)⟩
      · refine ⟨_, rfl, rfl, _, rfl, ite2 (fun e => ?_) (fun e => ?_)⟩
        · refine ⟨_, _, rfl, rfl, ⟨by decide, by decide, by decide⟩, _, _, rfl, rfl, _, _, rfl, rfl, ⟨by decide, by decide, by decide⟩, _, _, rfl, rfl, _, _, rfl, rfl, ⟨by decide, by decide, by decide⟩, lenk 4 rfl (by decide), fun p np => ?_⟩
          refine ⟨_, rfl, b, _, 4, rfl, b1.upd (b1.ne np), by omega, by decide, by decide, fun d H2 f2 b2 d0 d1 => ?_⟩
          have npb : p ≠ b := fun z => (b1.ne np) z.symm
          have hp : H2 p = _ := f2 p _ npb upd_same
          have f3 := (f1.trans (Fr.new np)).trans f2
          have big : ∀ i : Int, i ∈ [(10 : Int) ^ (30 : Int).toNat - 1, 1 - 10 ^ (30 : Int).toNat, 10 ^ (29 : Int).toNat, 0] → i.natAbs < 10 ^ 40 := by decide
          obtain ⟨v, hv, hat⟩ := atI_in (xs := [V.int (10 ^ (30 : Int).toNat - 1), .int (1 - 10 ^ (30 : Int).toNat), .int (10 ^ (29 : Int).toNat), .int 0]) d0 (by show d < 4; omega)
          obtain ⟨i, rfl, hi⟩ : ∃ i : Int, v = .int i ∧ i ∈ [(10 : Int) ^ (30 : Int).toNat - 1, 1 - 10 ^ (30 : Int).toNat, 10 ^ (29 : Int).toNat, 0] := by
            have := List.mem_of_getElem? hv
            simp only [List.mem_cons, List.not_mem_nil, or_false] at this
            rcases this with rfl | rfl | rfl | rfl <;> exact ⟨_, rfl, by simp⟩
          exact ⟨p, _, d, _, rfl, rfl, SqL.of hp, hat, q _ _ f3 (b2.mono (by omega)) (big i hi)⟩
        · refine ⟨_, rfl, _, _, rfl, rfl, ⟨by decide, by decide, by decide⟩, b, _, _, rfl, b1, by omega, by decide, by decide, fun d H2 f2 b2 d0 d1 => ?_⟩
          refine ⟨_, rfl, b, _, 3, rfl, b2, by omega, by decide, by decide, fun t H3 f3 b3 t0 t1 => ?_⟩
          have f13 := (f1.trans f2).trans f3
          refine ⟨t, rfl, by omega, by omega, for_it walk_range (fun j σ H' => ∃ (v : Int) (z : Option V), σ = [some (.ref b), some (.int w), some (.int v), z] ∧ Fr b H H' ∧ Bag H' b (n + 3 + j) ∧ 0 ≤ v ∧ v < 10 ^ (10 * (j + 1)))
            ⟨d, none, rfl, f13, b3, d0, d1⟩ (fun _ _ _ _ _ => trivial) (fun j x σ H' H'' hj p y => ?_) (fun σ H' p => ?_)⟩
          · obtain ⟨v, z, rfl, fv, bv, v0, v1⟩ := p
            obtain ⟨rfl, rfl⟩ := y
            refine ⟨_, rfl, _, _, rfl, rfl, ⟨by decide, by decide, by decide⟩, _, _, rfl, rfl, .inr ⟨by decide, by decide⟩, _, rfl, _, _, rfl, rfl, ⟨by decide, by decide, by decide⟩, b, _, _, rfl, bv, by omega, by decide, by decide, fun d' H4 f4 b4 d0' d1' => ?_⟩
            refine ⟨_, _, rfl, rfl, _, _, rfl, fv.trans f4, b4.mono (by omega), ?_, ?_⟩
            · have : 0 ≤ v * 10 ^ (10 : Int).toNat := Int.mul_nonneg v0 (by decide)
              omega
            · have e10 : (10 : Int) ^ (10 : Int).toNat = 10000000000 := by decide
              rw [e10] at d1' ⊢
              have e11 : (10 : Int) ^ (10 * (j + 1 + 1)) = 10 ^ (10 * (j + 1)) * 10000000000 := by
                rw [show 10 * (j + 1 + 1) = 10 * (j + 1) + 10 by omega, Int.pow_add]
                rfl
              rw [e11]
              omega
          · obtain ⟨v, z, rfl, fv, bv, v0, v1⟩ := p
            have ht : t.toNat ≤ 2 := by omega
            have v2 : v < 10 ^ 30 := Int.lt_of_lt_of_le v1 (by
              have : (10 : Nat) ^ (10 * (t.toNat + 1)) ≤ 10 ^ 30 := Nat.pow_le_pow_right (by decide) (by omega)
              have h2 : (((10 : Nat) ^ (10 * (t.toNat + 1)) : Nat) : Int) ≤ ((10 ^ 30 : Nat) : Int) := Int.ofNat_le.mpr this
              rw [Int.natCast_pow, Int.natCast_pow] at h2
              exact h2)
            have e30 : (10 : Int) ^ 30 = 1000000000000000000000000000000 := by decide
            have e40 : (10 : Nat) ^ 40 = 10000000000000000000000000000000000000000 := by decide
            rw [e30] at v2
            refine ⟨_, rfl, _, _, rfl, rfl, _, rfl, ite2 (fun e => ?_) (fun e => ?_)⟩
            · exact ⟨_, rfl, q _ _ fv (bv.mono (by omega)) (by rw [e40]; omega)⟩
            · exact ⟨_, rfl, _, rfl, q _ _ fv (bv.mono (by omega)) (by rw [e40]; omega)⟩

end K03
namespace K03
open PySem PySem.Spec PyProof.Rows L2 TL
def sp_pair : Sp := fun vs H Q _ => ∃ (b : Addr) (n : Nat), vs = [.ref b] ∧ Bag H b n ∧ n ≤ 800000 ∧ ∀ (i j : Int) (p : Addr) H', Fr b H H' → Bag H' b (n + 20) → p ≠ b → i.natAbs < 10 ^ 40 → j.natAbs < 10 ^ 40 → H' p = some (.tup [.int i, .int j]) → Q (.ref p) H'
theorem small_mul {t f : Int} (h0 : 0 ≤ t) (h1 : t < 200) (hf : f.natAbs < 10 ^ 30) : ((t - 100) * f).natAbs < 10 ^ 40 := by
  rw [Int.natAbs_mul]
  have h : (t - 100).natAbs ≤ 100 := by omega
  have h2 : (t - 100).natAbs * f.natAbs ≤ 100 * 10 ^ 30 := Nat.mul_le_mul h (by omega)
  exact Nat.lt_of_le_of_lt h2 (by decide)
theorem ok_l_pair {P : Program} {w : World} {K : PySem.W.Frag} {mg : Str → Option Value} {base : Heap} (T : Txt P K mg) : FnOk P w K mg base CX0 3 T.f_l_pair T.fd_l_pair ["_law_box_here"] (sp_pair) := by
  refine T.F_l_pair.ok sc_l_pair (fun vs H Q E h => ?_) (fun cdv A outer s H vs Q E hr h => ?_)
  · obtain ⟨_, _, rfl, _⟩ := h; rfl
  · obtain ⟨b, n, rfl, hB, hn, q⟩ := h
    refine ⟨_, PSs.nox (pss_cons (ps_if (pt_cmpR op_eq (pe_call (ok_l_take T) (hr.mono (by decide)) (by rfl) T.g_l_take T.F_l_take.kp (b_l_take T) .nil pass0 (pa_cons (pv 0) (pa_cons pe_int pa_nil))) pe_int (nomark _)) (pss_one (ps_ret (pe_tup (pa_cons (pe_call (ok_l_number T) (hr.mono (by decide)) (by rfl) T.g_l_number T.F_l_number.kp (b_l_number T) .nil pass0 (pa_cons (pv 0) pa_nil)) (pa_cons (pe_call (ok_l_number T) (hr.mono (by decide)) (by rfl) T.g_l_number T.F_l_number.kp (b_l_number T) .nil pass0 (pa_cons (pv 0) pa_nil)) pa_nil))))) pss_nil)
      (pss_cons (ps_set (i := 1) sc_l_pair.nd rfl (Or.inl rfl) (pe_op op_add pe_int (pe_op op_mul (pe_call (ok_l_take T) (hr.mono (by decide)) (by rfl) T.g_l_take T.F_l_take.kp (b_l_take T) .nil pass0 (pa_cons (pv 0) (pa_cons (pe_op op_pow pe_int pe_int) pa_nil))) (pe_ix (show IxR _ (rIxL K) from ix_list) (pe_lst (pa_cons pe_int (pa_cons (pe_op op_pow pe_int pe_int) (pa_cons (pe_op op_pow pe_int pe_int) (pa_cons (pe_op op_pow pe_int pe_int) pa_nil))))) (pe_call (ok_l_take T) (hr.mono (by decide)) (by rfl) T.g_l_take T.F_l_take.kp (b_l_take T) .nil pass0 (pa_cons (pv 0) (pa_cons pe_int pa_nil))) (fun _ _ => rfl)))))
      (pss_one (ps_ret (pe_tup (pa_cons (pe_op op_mul (pe_op op_sub (pe_call (ok_l_take T) (hr.mono (by decide)) (by rfl) T.g_l_take T.F_l_take.kp (b_l_take T) .nil pass0 (pa_cons (pv 0) (pa_cons pe_int pa_nil))) pe_int) (pv 1)) (pa_cons (pe_op op_mul (pe_op op_sub (pe_call (ok_l_take T) (hr.mono (by decide)) (by rfl) T.g_l_take T.F_l_take.kp (b_l_take T) .nil pass0 (pa_cons (pv 0) (pa_cons pe_int pa_nil))) pe_int) (pv 1)) pa_nil))))))), ?_⟩
    refine ⟨_, rfl, b, n, 2, rfl, hB, by omega, by decide, by decide, fun w H1 f1 b1 w0 w1 => ?_⟩
    refine ⟨rfl, _, rfl, ite2 (fun e => ?_) (fun e => ?_)⟩
    · refine ⟨_, rfl, b, _, rfl, b1, by omega, fun i H2 f2 b2 hi => ?_⟩
      refine ⟨_, rfl, b, _, rfl, b2, by omega, fun j H3 f3 b3 hj => ?_⟩
      exact ⟨(by show 2 ≤ sizeLine; decide), fun p np => q i j p _ (((f1.trans f2).trans f3).trans (Fr.new np)) ((b3.upd (b3.ne np)).mono (by omega)) (fun z => (b3.ne np) z.symm) hi hj upd_same⟩
    · refine ⟨_, rfl, _, _, rfl, rfl, ⟨by decide, by decide, by decide⟩, b, _, _, rfl, b1, by omega, by decide, by decide, fun d H2 f2 b2 d0 d1 => ?_⟩
      refine ⟨_, _, rfl, rfl, ⟨by decide, by decide, by decide⟩, _, _, rfl, rfl, ⟨by decide, by decide, by decide⟩, _, _, rfl, rfl, ⟨by decide, by decide, by decide⟩, lenk 4 rfl (by decide), fun p np => ?_⟩
      refine ⟨_, rfl, b, _, 4, rfl, b2.upd (b2.ne np), by omega, by decide, by decide, fun k H3 f3 b3 k0 k1 => ?_⟩
      have npb : p ≠ b := fun z => (b2.ne np) z.symm
      have hp : H3 p = _ := f3 p _ npb upd_same
      have f4 := ((f1.trans f2).trans (Fr.new np)).trans f3
      have big : ∀ i : Int, i ∈ [(1 : Int), 10 ^ (3 : Int).toNat, 10 ^ (7 : Int).toNat, 10 ^ (12 : Int).toNat] → 0 < i ∧ i.natAbs ≤ 10 ^ 12 := by decide
      obtain ⟨v, hv, hat⟩ := atI_in (xs := [V.int 1, .int (10 ^ (3 : Int).toNat), .int (10 ^ (7 : Int).toNat), .int (10 ^ (12 : Int).toNat)]) k0 (by show k < 4; omega)
      obtain ⟨i, rfl, hi⟩ : ∃ i : Int, v = .int i ∧ i ∈ [(1 : Int), 10 ^ (3 : Int).toNat, 10 ^ (7 : Int).toNat, 10 ^ (12 : Int).toNat] := by
        have := List.mem_of_getElem? hv
        simp only [List.mem_cons, List.not_mem_nil, or_false] at this
        rcases this with rfl | rfl | rfl | rfl <;> exact ⟨_, rfl, by simp⟩
      obtain ⟨i0, i1⟩ := big i hi
      have d8 : d.natAbs < 10 ^ 8 := by
        have e8 : (10 : Int) ^ (8 : Int).toNat = 100000000 := by decide
        rw [e8] at d1
        omega
      have hm : (d * i).natAbs ≤ 10 ^ 8 * 10 ^ 12 := by
        rw [Int.natAbs_mul]
        exact Nat.mul_le_mul (Nat.le_of_lt d8) i1
      have hf : (1 + d * i).natAbs < 10 ^ 30 := by
        generalize d * i = m at hm
        have e20 : (10 : Nat) ^ 8 * 10 ^ 12 = 100000000000000000000 := by decide
        have e30 : (10 : Nat) ^ 30 = 1000000000000000000000000000000 := by decide
        rw [e20] at hm
        rw [e30]
        omega
      have c8 : CMul d i := .inl ⟨by omega, by omega⟩
      refine ⟨p, _, k, _, rfl, rfl, SqL.of hp, hat, _, _, rfl, rfl, c8, _, _, rfl, rfl, ?_⟩
      refine ⟨_, rfl, b, _, 200, rfl, b3, by omega, by decide, by decide, fun t H5 f5 b5 t0 t1 => ?_⟩
      refine ⟨_, _, rfl, rfl, _, rfl, _, _, rfl, rfl, .inl ⟨by omega, by omega⟩, ?_⟩
      refine ⟨_, rfl, b, _, 200, rfl, b5, by omega, by decide, by decide, fun u H6 f6 b6 u0 u1 => ?_⟩
      refine ⟨_, _, rfl, rfl, _, rfl, _, _, rfl, rfl, .inl ⟨by omega, by omega⟩, ?_⟩
      exact ⟨(by show 2 ≤ sizeLine; decide), fun r nr => q _ _ r _ (((f4.trans f5).trans f6).trans (Fr.new nr)) ((b6.upd (b6.ne nr)).mono (by omega)) (fun z => (b6.ne nr) z.symm) (small_mul t0 t1 hf) (small_mul u0 u1 hf) upd_same⟩
theorem TyOf.same' {K : PySem.W.Frag} {H H' : Hp} {x : V} {t : Value} (h : TyOf K H x t) (s : Same H H') : TyOf K H' x t := by
  cases h with
  | non => exact .non
  | bl x => exact .bl x
  | int i => exact .int i
  | str x => exact .str x
  | flt x => exact .flt x
  | lst e => exact .lst (s _ _ e)
  | frz e => exact .frz (s _ _ e)
  | tup e => exact .tup (s _ _ e)
  | dK e => exact .dK (s _ _ e)
  | dT e => exact .dT (s _ _ e)
  | ins e cl ha hn htk hm => exact .ins (s _ _ e) cl ha hn htk hm
theorem TyX.same' {K : PySem.W.Frag} {H H' : Hp} {x : V} {t : Value} (h : TyX K H x t) (s : Same H H') : TyX K H' x t := by
  cases h with
  | base b => exact .base (TyOf.same' b s)
  | byt b => exact .byt b
  | set e => exact .set (s _ _ e)
  | kList e c => exact .kList e c
  | kTuple e c => exact .kTuple e c
  | kDict e c => exact .kDict e c
  | fTuple e => exact .fTuple (s _ _ e)
  | fDict e => exact .fDict (s _ _ e)
theorem NotI.same {K : PySem.W.Frag} {H H' : Hp} {u : V} (h : NotI K H u) (s : Same H H') : NotI K H' u := by
  obtain ⟨t, ty, q⟩ := h
  exact ⟨t, TyX.same' ty s, q⟩
theorem made_same0 {H : Hp} {x dx : Addr} {o1 o2 : HO} (hx : H x = none) (hd : H dx = none) : Same H (upd (upd H dx o1) x o2) := fun b u e => by
  rw [upd_ne (ne_of_none e hx), upd_ne (ne_of_none e hd)]
  exact e
theorem free_of {H H' : Hp} {p : Addr} (s : Same H H') (h : H' p = none) : H p = none := by
  cases q : H p with
  | none => rfl
  | some u => rw [s _ _ q] at h; cases h
/-- trying to make a fraction: what is told of it -/
def sp_caught (K : PySem.W.Frag) : Sp := fun vs H Q _ => ∃ u v : V, vs = [u, v] ∧
   ((∃ i j : Int, u = .int i ∧ v = .int j ∧ j ≠ 0 ∧ j.natAbs < 2 ^ 8000 ∧ ∀ p H', Same H H' → H p = none → H' p = some (.lst [.str (Str.ofString "built"), .non]) → Q (.ref p) H') ∨
    (∃ i : Int, u = .int i ∧ v = .int 0 ∧ ∀ p r H', Same H H' → H p = none → H r = none → H' r = some (.tup [.int i, .int 0]) → H' p = some (.lst [.str (Str.ofString "ratio"), .ref r]) → Q (.ref p) H') ∨
    ((NotI K H u ∨ ∃ i : Int, u = .int i ∧ NotI K H v) ∧ ∀ p z H', (NotI K H u → z = u) → (∀ i : Int, u = .int i → z = v) → Same H H' → H p = none → H' p = some (.lst [.str (Str.ofString "integer"), z]) → Q (.ref p) H'))
theorem ok_l_caught {P : Program} {w : World} {K : PySem.W.Frag} {mg : Str → Option Value} {base : Heap} (T : Txt P K mg) : FnOk P w K mg base CX0 4 T.f_l_caught T.fd_l_caught ["_law_one", "_law_other"] (sp_caught K) := by
  refine T.F_l_caught.ok sc_l_caught (fun vs H Q E h => ?_) (fun cdv A outer s H vs Q E hr h => ?_)
  · obtain ⟨_, _, rfl, _⟩ := h; rfl
  · obtain ⟨u, v, rfl, h⟩ := h
    refine ⟨_, PSs.nox (pss_cons (ps_tryG rfl rfl (fun W pn xe tk _ => (pss_one (ps_expr (pe_makeS T.mk_Ratio (ok_Ratio_init T) (hr.mono (by decide)) (by rfl) T.g_Ratio (b_Ratio_init T) .nil (passAt tk) (pa_cons (pv 0) (pa_cons (pv 1) pa_nil))))))
      (HdsG.as_ (i := 2) sc_l_caught.nd rfl rfl ⟨by rfl, by decide, .inl T.x_InvalidInteger.gC⟩ (fun a oe cls d pn hz hf => (pss_one (ps_ret (pe_lst (pa_cons pe_str (pa_cons (pe_fldX T.x_InvalidInteger hz hf (pv 2)) pa_nil)))))) 
      (HdsG.as_ (i := 2) sc_l_caught.nd rfl rfl ⟨by rfl, by decide, .inl T.x_InvalidRatio.gC⟩ (fun a oe cls d pn hz hf => (pss_one (ps_ret (pe_lst (pa_cons pe_str (pa_cons (pe_fldX T.x_InvalidRatio hz hf (pv 2)) pa_nil)))))) HdsG.stop)))
      (pss_one (ps_ret (pe_lst (pa_cons pe_str (pa_cons pe_non pa_nil)))))), ?_⟩
    rcases h with ⟨i, j, rfl, rfl, j0, hj, q⟩ | ⟨i, rfl, rfl, q⟩ | ⟨ni, q⟩
    · refine ⟨_, rfl, _, rfl, fun x dx nx ndx ne => ⟨x, dx, _, _, rfl, upd_same, .inl ⟨i, j, rfl, rfl, j0, hj, fun n d lw => ⟨rfl, ?_⟩⟩⟩⟩
      have S := made_same (o1 := .own x) (o2 := .ins T.C_Ratio dx []) (o3 := .ins T.C_Ratio dx (rf n d)) nx ndx
      exact ⟨(by show 2 ≤ sizeLine; decide), fun p np => q p _ (S.trans (Same.new np)) (free_of S np) upd_same⟩
    · refine ⟨_, rfl, _, rfl, fun x dx nx ndx ne => ⟨x, dx, _, _, rfl, upd_same, .inr (.inl ⟨i, rfl, rfl, fun r e nr ne => ?_⟩)⟩⟩
      have S0 := made_same0 (o1 := .own x) (o2 := .ins T.C_Ratio dx []) nx ndx
      refine ⟨false, T.exm_InvalidRatio_InvalidInteger, (fun z => nomatch z), fun _ => ⟨true, T.exm_InvalidRatio_InvalidRatio, fun _ a na => ?_, fun z => nomatch z⟩⟩
      refine ⟨_, rfl, rfl, rfl, e, _, rfl, upd_same, (by show 2 ≤ sizeLine; decide), fun p np => ?_⟩
      have S1 := (S0.trans (Same.new nr)).trans (Same.new (o := .xd [("value", .ref r)]) ne)
      have nre : r ≠ e := ne_of_none upd_same ne
      have nrp : r ≠ p := ne_of_none ((upd_ne nre).trans upd_same) np
      exact q p r _ (S1.trans (Same.new np)) (free_of S1 np) (free_of S0 nr) ((upd_ne nrp).trans ((upd_ne nre).trans upd_same)) upd_same
    · rcases ni with ni | ⟨i, rfl, ni⟩
      · refine ⟨_, rfl, _, rfl, fun x dx nx ndx ne => ⟨x, dx, _, _, rfl, upd_same, .inr (.inr (.inl ⟨ni.same (made_same0 nx ndx), fun e ne => ?_⟩))⟩⟩
        have S0 := made_same0 (o1 := .own x) (o2 := .ins T.C_Ratio dx []) nx ndx
        refine ⟨true, T.exm_InvalidInteger_InvalidInteger, fun _ a na => ?_, fun z => nomatch z⟩
        refine ⟨_, rfl, rfl, rfl, e, _, rfl, upd_same, (by show 2 ≤ sizeLine; decide), fun p np => ?_⟩
        have S1 := S0.trans (Same.new (o := .xd [("value", u)]) ne)
        refine q p u _ (fun _ => rfl) (fun i e => ?_) (S1.trans (Same.new np)) (free_of S1 np) upd_same
        subst e
        obtain ⟨t, ty, k⟩ := ni
        cases ty with
        | base b =>
          cases b
          rw [kit_int_int, kit_int_bool] at k
          rcases k with k | ⟨_, k⟩ <;> cases k
      · refine ⟨_, rfl, _, rfl, fun x dx nx ndx ne => ⟨x, dx, _, _, rfl, upd_same, .inr (.inr (.inr ⟨i, rfl, ni.same (made_same0 nx ndx), fun e ne => ?_⟩))⟩⟩
        have S0 := made_same0 (o1 := .own x) (o2 := .ins T.C_Ratio dx []) nx ndx
        refine ⟨true, T.exm_InvalidInteger_InvalidInteger, fun _ a na => ?_, fun z => nomatch z⟩
        refine ⟨_, rfl, rfl, rfl, e, _, rfl, upd_same, (by show 2 ≤ sizeLine; decide), fun p np => ?_⟩
        have S1 := S0.trans (Same.new (o := .xd [("value", v)]) ne)
        refine q p v _ (fun nu => ?_) (fun _ _ => rfl) (S1.trans (Same.new np)) (free_of S1 np) upd_same
        obtain ⟨t, ty, k⟩ := nu
        cases ty with
        | base b =>
          cases b
          rw [kit_int_int, kit_int_bool] at k
          rcases k with k | ⟨_, k⟩ <;> cases k

end K03
namespace K03
open PySem PySem.Spec PyProof.Rows L2 TL
theorem b40 {i : Int} (h : i.natAbs < 10 ^ 40) : i.natAbs < 10 ^ 500 ∧ i.natAbs < 2 ^ 2000 ∧ i.natAbs < 2 ^ 8000 :=
  ⟨Nat.lt_of_lt_of_le h (by decide +kernel), Nat.lt_of_lt_of_le h (by decide +kernel), Nat.lt_of_lt_of_le h (by decide +kernel)⟩
theorem sq_cases {a b : Int} (h : a * a = b * b) : a = b ∨ a = -b := by
  have e : a.natAbs * a.natAbs = b.natAbs * b.natAbs := by rw [← Int.natAbs_mul, h, Int.natAbs_mul]
  have e2 : a.natAbs = b.natAbs := Nat.mul_self_inj.mp e
  omega
theorem turned {a b n d m e : Int} (ha : a ≠ 0) (hb : b ≠ 0) (x : Low a b n d) (y : Low b a m e) : (decide (n = m) && decide (d = e)) = decide (a * a = b * b) := by
  by_cases h : a * a = b * b
  · rw [decide_eq_true h]
    have : n = m ∧ d = e := by
      rcases sq_cases h with rfl | rfl
      · exact low_unique hb x y
      · have y' := low_neg y
        rw [Int.neg_neg] at y'
        exact low_unique hb x y'
    rw [decide_eq_true this.1, decide_eq_true this.2]
    rfl
  · rw [decide_eq_false h]
    by_cases h1 : n = m
    · by_cases h2 : d = e
      · exfalso
        subst h1 h2
        obtain ⟨p, _, e1⟩ := x
        obtain ⟨_, _, e2⟩ := y
        apply h
        refine Int.eq_of_mul_eq_mul_right (show d ≠ 0 by omega) ?_
        calc a * a * d = a * (a * d) := Int.mul_assoc ..
          _ = a * (n * b) := by rw [e1]
          _ = b * (n * a) := by rw [← Int.mul_assoc, Int.mul_comm (a * n) b, Int.mul_comm a n]
          _ = b * (b * d) := by rw [e2]
          _ = b * b * d := (Int.mul_assoc ..).symm
      · rw [decide_eq_false h2, Bool.and_false]
    · rw [decide_eq_false h1, Bool.false_and]
theorem low_zero {b n d : Int} (hb : b ≠ 0) (x : Low 0 b n d) : n = 0 ∧ d = 1 := low_unique hb x ⟨by decide, by decide, by simp⟩
/-- times a factor, equal to itself only at 0 -/
theorem near_mul {n d m e f g : Int} (hd : 0 < d) (hgd : Nat.gcd n.natAbs d.natAbs = 1) (hg : g ≠ 0) (hf : f ≠ g) (y : Low (n * f) (d * g) m e) : (decide (n = m) && decide (d = e)) = decide (n = 0) := by
  by_cases h : n = 0
  · subst h
    rw [Int.zero_mul] at y
    obtain ⟨rfl, rfl⟩ := low_zero (Int.mul_ne_zero (by omega) hg) y
    have : d = 1 := by
      rw [Int.natAbs_zero, Nat.gcd_zero_left] at hgd
      omega
    subst this
    decide
  · rw [decide_eq_false h]
    by_cases h1 : n = m
    · by_cases h2 : d = e
      · exfalso
        subst h1 h2
        obtain ⟨_, _, q⟩ := y
        -- n f d = n d g
        have q1 : f * (n * d) = g * (n * d) := by
          calc f * (n * d) = n * f * d := by rw [← Int.mul_assoc, Int.mul_comm f n]
            _ = n * (d * g) := q
            _ = g * (n * d) := by rw [← Int.mul_assoc, Int.mul_comm]
        exact hf (Int.eq_of_mul_eq_mul_right (Int.mul_ne_zero h (by omega)) q1)
      · rw [decide_eq_false h2, Bool.and_false]
    · rw [decide_eq_false h1, Bool.false_and]
theorem near_add {n d m e : Int} (hd : 0 < d) (y : Low (n * 1 + 1 * d) (d * 1) m e) : (decide (n = m) && decide (d = e)) = false := by
  by_cases h1 : n = m
  · by_cases h2 : d = e
    · exfalso
      subst h1 h2
      obtain ⟨_, _, q⟩ := y
      rw [Int.mul_one, Int.one_mul, Int.mul_one, Int.add_mul] at q
      have : 0 < d * d := Int.mul_pos hd hd
      omega
    · rw [decide_eq_false h2, Bool.and_false]
  · rw [decide_eq_false h1, Bool.false_and]
theorem str_app_nil (x : Str) : x ++ Str.ofString "" = x := by
  have e : Str.ofString "" = Str.empty := by decide
  rw [e]
  show (⟨x.cps ++ #[]⟩ : Str) = x
  simp
theorem str_nil_app (x : Str) : Str.empty ++ x = x := by
  show (⟨#[] ++ x.cps⟩ : Str) = x
  simp
theorem str_assoc (x y z : Str) : x ++ y ++ z = x ++ (y ++ z) := by
  show (⟨x.cps ++ y.cps ++ z.cps⟩ : Str) = ⟨x.cps ++ (y.cps ++ z.cps)⟩
  rw [Array.append_assoc]
/-- making a fraction, read -/
theorem mk_ok {K : PySem.W.Frag} {C CI CR : Addr} {H : Hp} {R : Addr → Hp → Prop} {E : XK} {i j n d : Int} {vs dvs : List V} (j0 : j ≠ 0) (hj : j.natAbs < 2 ^ 8000) (lw : Low i j n d) (q : ∀ x H', Same H H' → H x = none → IsR C H' x n d → R x H')
    (hv : vs ++ dvs = [.int i, .int j] := by rfl) :
    ∀ x dx, H x = none → H dx = none → dx ≠ x → sp_rinit K C CI CR (.ref x :: (vs ++ dvs)) (upd (upd H dx (.own x)) x (.ins C dx [])) (fun v H2 => v = .non ∧ R x H2) E := by
  intro x dx nx ndx ne
  rw [hv]
  refine ⟨x, dx, _, _, rfl, upd_same, .inl ⟨i, j, rfl, rfl, j0, hj, fun n' d' lw' => ⟨rfl, ?_⟩⟩⟩
  obtain ⟨rfl, rfl⟩ := low_unique j0 lw lw'
  exact q x _ (made_same nx ndx) nx isR_made
theorem lstA {H : Hp} {Q : VK} {xs : List V} (hn : xs.length ≤ 1000) (q : ∀ p H', Same H H' → H p = none → H' p = some (.lst xs) → Q (.ref p) H') : xs.length ≤ sizeLine ∧ ∀ p, H p = none → Q (.ref p) (upd H p (.lst xs)) :=
  ⟨by rw [sizeLine_eq]; omega, fun p np => q p _ (Same.new np) np upd_same⟩
theorem rtext_eq {n d : Int} (hd : 0 < d) : (Str.ofString (toString n)) ++ (if decide (1 < d) = true then (Str.ofString "/") ++ (Str.ofString (toString d)) else Str.ofString "") = rtext n d := by
  unfold rtext
  by_cases h : d = 1
  · subst h
    rw [if_neg (by decide), if_pos rfl]
    exact str_app_nil _
  · rw [if_neg h, if_pos (decide_eq_true (by omega)), str_nil_app, str_assoc]
theorem sgn_eq (n : Int) : (if decide (0 < n) = true then (1 : Int) else 0) - (if decide (n < 0) = true then 1 else 0) = sgn n := by
  unfold sgn
  by_cases h : n = 0
  · subst h; rfl
  · rw [if_neg h]
    by_cases h1 : 0 < n
    · rw [if_pos h1, if_pos (decide_eq_true h1), if_neg (fun z => by have := of_decide_eq_true z; omega)]
      rfl
    · rw [if_neg h1, if_neg (fun z => h1 (of_decide_eq_true z)), if_pos (decide_eq_true (by omega))]
      rfl
theorem rtext_ok {n d : Int} (b1 : n.natAbs < 10 ^ 500) (b2 : d.natAbs < 10 ^ 500) : CpOk (rtext n d) ∧ (rtext n d).length ≤ 1003 := by
  have l1 := tlen b1
  have l2 := tlen b2
  unfold rtext
  split
  · exact ⟨cpOk_of _, by show (Str.ofString (toString n)).length ≤ 1003; omega⟩
  · have e0 : Str.empty.length = 0 := by decide
    have e1 : (Str.ofString "/").length = 1 := by decide
    refine ⟨cpOk_app (cpOk_app (cpOk_app cpOk_empty (cpOk_of _)) (cpOk_of _)) (cpOk_of _), ?_⟩
    rw [strLen_append, strLen_append, strLen_append]
    omega
theorem sgn_b (n : Int) : (sgn n).natAbs < 10 ^ 500 := Nat.lt_of_le_of_lt (show (sgn n).natAbs ≤ 1 by unfold sgn; split <;> first | decide | (split <;> decide)) (by decide +kernel)
theorem rtext_one (a : Int) : rtext a 1 = Str.ofString (toString a) := by unfold rtext; rw [if_pos rfl]
theorem text_ok {i : Int} (h : i.natAbs < 10 ^ 500) : CpOk (Str.ofString (toString i)) ∧ (Str.ofString (toString i)).length ≤ 1003 := ⟨cpOk_of _, Nat.le_trans (tlen h) (by decide)⟩
/-- a list of up to five small things -/
theorem d_int {i : Int} (h : i.natAbs < 10 ^ 500) : OkD 10032 0 (.int i) := (okd_int h).mono (by decide) (Nat.le_refl _)
theorem d_bl (b : Bool) : OkD 10032 0 (.bool b) := (okd_bool b).mono (by decide) (Nat.le_refl _)
theorem d_non : OkD 10032 0 .none := okd_none.mono (by decide) (Nat.le_refl _)
theorem d_str {x : Str} (h : CpOk x) (l : x.length ≤ 1003) : OkD 10032 0 (.str x) := (okd_str h l).mono (by decide) (Nat.le_refl _)
theorem d_list {ds : List PyData} (h : ∀ d ∈ ds, OkD 10032 0 d) (hm : ds.length ≤ 5) : Fine (.list ds) := (okd_list h hm).fine (by decide) (by decide)
theorem neT {s : Str} : ¬ (!decide (V.str s = V.str s)) = true := by simp

end K03
namespace K03
open PySem PySem.Spec PyProof.Rows L2 TL
def sp_right : Sp := fun vs H Q _ => ∃ a b : Int, vs = [.int a, .int b] ∧ b ≠ 0 ∧ a.natAbs < 10 ^ 40 ∧ b.natAbs < 10 ^ 40 ∧ ∀ H', Same H H' → Q (.bl true) H'
theorem atI_pick {x y : V} (k : Bool) : atI [x, y] (if k = true then 1 else 0) = some (if k = true then y else x) := by cases k <;> rfl
theorem ok_l_right {P : Program} {w : World} {K : PySem.W.Frag} {mg : Str → Option Value} {base : Heap} (T : Txt P K mg) : FnG P w K mg base CX0 5 T.f_l_right T.fd_l_right ["_law_one", "_law_other"] (sp_right) := by
  refine T.F_l_right.okG sc_l_right (fun vs H Q E h => ?_) (fun cdv A outer s H vs Q E hr hG h => ?_)
  · obtain ⟨_, _, rfl, _⟩ := h; rfl
  · obtain ⟨a, b, rfl, b0, ha, hb, q⟩ := h
    obtain ⟨a1, a2, a3⟩ := b40 ha
    obtain ⟨b1, b2, b3⟩ := b40 hb
    obtain ⟨n, d, lw⟩ := ex_low a b0
    obtain ⟨n4, d4⟩ := low_bound b0 lw ha hb
    obtain ⟨n1, n2, n3⟩ := b40 n4
    obtain ⟨d1, d2, d3⟩ := b40 d4
    have dpos : 0 < d := lw.1
    have d0 : d ≠ 0 := by omega
    have rt := rtext_ok n1 d1
    refine ⟨_, PSs.nox (pss_cons (ps_set (i := 2) sc_l_right.nd rfl (Or.inr rfl) (pe_makeS T.mk_Ratio (ok_Ratio_init T) (hr.mono (by decide)) (by rfl) T.g_Ratio (b_Ratio_init T) .nil passS (pa_cons (pv 0) (pa_cons (pv 1) pa_nil))))
      (pss_cons (ps_set (i := 3) sc_l_right.nd rfl (Or.inl rfl) (pe_lst (pa_cons (pe_callTy (show CallR _ _ (rStrX T.C_Ratio _ E0) from call_strX (ok_Ratio_str T) (hr.mono (by decide)) (b_Ratio_str T) pass0 T.m_Ratio_str.found T.m_Ratio_str.fn) (by rfl) T.n_str (by decide +kernel) (pa_cons (pe_makeS T.mk_Ratio (ok_Ratio_init T) (hr.mono (by decide)) (by rfl) T.g_Ratio (b_Ratio_init T) .nil passS (pa_cons (pv 0) (pa_cons (pv 1) pa_nil))) pa_nil)) (pa_cons (pe_meth0 (pl := _) (pe_makeS T.mk_Ratio (ok_Ratio_init T) (hr.mono (by decide)) (by rfl) T.g_Ratio (b_Ratio_init T) .nil passS (pa_cons (pv 0) (pa_cons (pv 1) pa_nil))) T.cl_Ratio T.m_Ratio_sign (ok_Ratio_sign T) (hr.mono (by decide)) (b_Ratio_sign T) .nil pass0) pa_nil))))
      (pss_cons (ps_set (i := 4) sc_l_right.nd rfl (Or.inl rfl) (pe_op op_mul (pe_call (ok_l_divisor T) (hr.mono (by decide)) (by rfl) T.g_l_divisor T.F_l_divisor.kp (b_l_divisor T) .nil pass0 (pa_cons (pe_callB call_abs (by rfl) T.n_abs (by decide +kernel) (pa_cons (pv 0) pa_nil)) (pa_cons (pe_callB call_abs (by rfl) T.n_abs (by decide +kernel) (pa_cons (pv 1) pa_nil)) pa_nil))) (pe_ix (show IxR _ (rIxL K) from ix_list) (pe_lst (pa_cons pe_int (pa_cons (pe_un un_neg pe_int) pa_nil))) (pe_callTy call_int1 (by rfl) T.n_int (by decide +kernel) (pa_cons (pe_cmpR op_lt (pv 1) pe_int (nomark _)) pa_nil)) (fun _ _ => rfl))))
      (pss_cons (ps_set (i := 5) sc_l_right.nd rfl (Or.inl rfl) (pe_op op_fdivX (pv 0) (pv 4)))
      (pss_cons (ps_set (i := 6) sc_l_right.nd rfl (Or.inl rfl) (pe_op op_fdivX (pv 1) (pv 4)))
      (pss_cons (ps_set (i := 7) sc_l_right.nd rfl (Or.inl rfl) (pe_op op_add_str (pe_callTy call_str_int (by rfl) T.n_str (by decide +kernel) (pa_cons (pv 5) pa_nil)) (pe_ix (show IxR _ (rIxL K) from ix_list) (pe_lst (pa_cons pe_str (pa_cons (pe_op op_add_str pe_str (pe_callTy call_str_int (by rfl) T.n_str (by decide +kernel) (pa_cons (pv 6) pa_nil))) pa_nil))) (pe_callTy call_int1 (by rfl) T.n_int (by decide +kernel) (pa_cons (pe_cmpR op_gt (pv 6) pe_int (nomark _)) pa_nil)) (fun _ _ => rfl))))
      (pss_cons (ps_if (PW.pt (pw_or (pt_cmpR op_ne (pe_callB (show CallR _ _ (rReprD K) from call_reprD hG hr.units T.sm) (by rfl) T.n_repr (by decide +kernel) (pa_cons (pv 3) pa_nil)) (pe_callB (show CallR _ _ (rReprD K) from call_reprD hG hr.units T.sm) (by rfl) T.n_repr (by decide +kernel) (pa_cons (pe_lst (pa_cons (pv 7) (pa_cons (pe_op op_sub (pe_callTy call_int1 (by rfl) T.n_int (by decide +kernel) (pa_cons (pe_cmpR op_gt (pv 5) pe_int (nomark _)) pa_nil)) (pe_callTy call_int1 (by rfl) T.n_int (by decide +kernel) (pa_cons (pe_cmpR op_lt (pv 5) pe_int (nomark _)) pa_nil))) pa_nil))) pa_nil)) (nomark _)) (pw_or1 (pt_not (pt_cmpR (show OpR _ (compareOp .Eq) (rEqX K T.C_Ratio _ E0) from op_eqX (ok_Ratio_eq T) (hr.mono (by decide)) (b_Ratio_eq T) pass0 T.m_Ratio_eq.found T.m_Ratio_eq.fn) (pe_makeS T.mk_Ratio (ok_Ratio_init T) (hr.mono (by decide)) (by rfl) T.g_Ratio (b_Ratio_init T) .nil passS (pa_cons (pv 0) (pa_cons (pv 1) pa_nil))) (pe_makeS T.mk_Ratio (ok_Ratio_init T) (hr.mono (by decide)) (by rfl) T.g_Ratio (b_Ratio_init T) .nil passS (pa_cons (pv 5) (pa_cons (pv 6) pa_nil))) (nomark _)))))) (pss_one (ps_ret pe_bl)) pss_nil)
      (pss_cons (ps_for PassesOwn.never rfl (pi_range1 (by rfl) T.n_range (pa_cons pe_int pa_nil)) (pg_name (i := 8) sc_l_right.nd rfl (Or.inl rfl)) (pss_cons (ps_set (i := 9) sc_l_right.nd rfl (Or.inl rfl) (pe_lst (pa_cons (pe_meth0 (pl := _) (pv 2) T.cl_Ratio T.m_Ratio_num (ok_Ratio_num T) (hr.mono (by decide)) (b_Ratio_num T) .nil pass0) (pa_cons (pe_meth0 (pl := _) (pv 2) T.cl_Ratio T.m_Ratio_den (ok_Ratio_den T) (hr.mono (by decide)) (b_Ratio_den T) .nil pass0) (pa_cons (pe_meth0 (pl := _) (pv 2) T.cl_Ratio T.m_Ratio_sign (ok_Ratio_sign T) (hr.mono (by decide)) (b_Ratio_sign T) .nil pass0) (pa_cons (pe_callTy (show CallR _ _ (rStrX T.C_Ratio _ E0) from call_strX (ok_Ratio_str T) (hr.mono (by decide)) (b_Ratio_str T) pass0 T.m_Ratio_str.found T.m_Ratio_str.fn) (by rfl) T.n_str (by decide +kernel) (pa_cons (pv 2) pa_nil)) pa_nil))))))
      (pss_one (ps_if (pt_cmpR op_ne (pe_callB (show CallR _ _ (rReprD K) from call_reprD hG hr.units T.sm) (by rfl) T.n_repr (by decide +kernel) (pa_cons (pv 9) pa_nil)) (pe_callB (show CallR _ _ (rReprD K) from call_reprD hG hr.units T.sm) (by rfl) T.n_repr (by decide +kernel) (pa_cons (pe_lst (pa_cons (pv 5) (pa_cons (pv 6) (pa_cons (pe_op op_sub (pe_callTy call_int1 (by rfl) T.n_int (by decide +kernel) (pa_cons (pe_cmpR op_gt (pv 5) pe_int (nomark _)) pa_nil)) (pe_callTy call_int1 (by rfl) T.n_int (by decide +kernel) (pa_cons (pe_cmpR op_lt (pv 5) pe_int (nomark _)) pa_nil))) (pa_cons (pv 7) pa_nil))))) pa_nil)) (nomark _)) (pss_one (ps_ret pe_bl)) pss_nil))))
      (pss_cons (ps_set (i := 10) sc_l_right.nd rfl (Or.inl rfl) (pe_makeS T.mk_Ratio (ok_Ratio_init T) (hr.mono (by decide)) (by rfl) T.g_Ratio (b_Ratio_init_1 T).choose_spec.2 (b_Ratio_init_1 T).choose_spec.1 passS (pa_cons (pv 0) pa_nil)))
      (pss_cons (ps_if (pt_cmpR op_ne (pe_callB (show CallR _ _ (rReprD K) from call_reprD hG hr.units T.sm) (by rfl) T.n_repr (by decide +kernel) (pa_cons (pe_lst (pa_cons (pe_meth0 (pl := _) (pv 10) T.cl_Ratio T.m_Ratio_num (ok_Ratio_num T) (hr.mono (by decide)) (b_Ratio_num T) .nil pass0) (pa_cons (pe_meth0 (pl := _) (pv 10) T.cl_Ratio T.m_Ratio_den (ok_Ratio_den T) (hr.mono (by decide)) (b_Ratio_den T) .nil pass0) (pa_cons (pe_callTy (show CallR _ _ (rStrX T.C_Ratio _ E0) from call_strX (ok_Ratio_str T) (hr.mono (by decide)) (b_Ratio_str T) pass0 T.m_Ratio_str.found T.m_Ratio_str.fn) (by rfl) T.n_str (by decide +kernel) (pa_cons (pv 10) pa_nil)) pa_nil)))) pa_nil)) (pe_callB (show CallR _ _ (rReprD K) from call_reprD hG hr.units T.sm) (by rfl) T.n_repr (by decide +kernel) (pa_cons (pe_lst (pa_cons (pv 0) (pa_cons pe_int (pa_cons (pe_callTy call_str_int (by rfl) T.n_str (by decide +kernel) (pa_cons (pv 0) pa_nil)) pa_nil)))) pa_nil)) (nomark _)) (pss_one (ps_ret pe_bl)) pss_nil)
      (Evl.pss_cut (ps_set (i := 11) sc_l_right.nd rfl (Or.inl rfl) (pe_ifExp (pt_cmpR op_eq (pv 0) pe_int (nomark _)) (pe_makeS T.mk_Ratio (ok_Ratio_init T) (hr.mono (by decide)) (by rfl) T.g_Ratio (b_Ratio_init_1 T).choose_spec.2 (b_Ratio_init_1 T).choose_spec.1 passS (pa_cons pe_int pa_nil)) (pe_makeS T.mk_Ratio (ok_Ratio_init T) (hr.mono (by decide)) (by rfl) T.g_Ratio (b_Ratio_init T) .nil passS (pa_cons (pv 1) (pa_cons (pv 0) pa_nil)))))
      (pss_cons (ps_set (i := 12) sc_l_right.nd rfl (Or.inl rfl) (pe_cmpR op_eq (pe_op op_mulW (pv 0) (pv 0)) (pe_op op_mulW (pv 1) (pv 1)) (nomark _)))
      (pss_cons (ps_set (i := 9) sc_l_right.nd rfl (Or.inl rfl) (pe_lst (pa_cons (pe_cmpR (show OpR _ (compareOp .Eq) (rEqX K T.C_Ratio _ E0) from op_eqX (ok_Ratio_eq T) (hr.mono (by decide)) (b_Ratio_eq T) pass0 T.m_Ratio_eq.found T.m_Ratio_eq.fn) (pv 2) (pe_makeS T.mk_Ratio (ok_Ratio_init T) (hr.mono (by decide)) (by rfl) T.g_Ratio (b_Ratio_init T) .nil passS (pa_cons (pe_un un_neg (pv 0)) (pa_cons (pe_un un_neg (pv 1)) pa_nil))) (nomark _)) (pa_cons (pe_cmpR (show OpR _ (compareOp .Eq) (rEqX K T.C_Ratio _ E0) from op_eqX (ok_Ratio_eq T) (hr.mono (by decide)) (b_Ratio_eq T) pass0 T.m_Ratio_eq.found T.m_Ratio_eq.fn) (pv 2) (pv 11) (nomark _)) (pa_cons (pe_cmpR (show OpR _ (compareOp .NotEq) (rNeX K T.C_Ratio _ E0) from op_neX (ok_Ratio_eq T) (hr.mono (by decide)) (b_Ratio_eq T) pass0 T.ow_Ratio.ne T.ow_Ratio.ob T.m_Ratio_eq.found T.m_Ratio_eq.fn) (pv 2) (pv 11) (nomark _)) (pa_cons (pe_cmpR (show OpR _ (compareOp .Eq) (rEqX K T.C_Ratio _ E0) from op_eqX (ok_Ratio_eq T) (hr.mono (by decide)) (b_Ratio_eq T) pass0 T.m_Ratio_eq.found T.m_Ratio_eq.fn) (pv 2) (pv 5) (nomark _)) (pa_cons (pe_cmpR (show OpR _ (compareOp .Eq) (rEqX K T.C_Ratio _ E0) from op_eqX (ok_Ratio_eq T) (hr.mono (by decide)) (b_Ratio_eq T) pass0 T.m_Ratio_eq.found T.m_Ratio_eq.fn) (pv 2) (pv 7) (nomark _)) pa_nil)))))))
      (pss_cons (ps_if (pt_cmpR op_ne (pe_callB (show CallR _ _ (rReprD K) from call_reprD hG hr.units T.sm) (by rfl) T.n_repr (by decide +kernel) (pa_cons (pv 9) pa_nil)) (pe_callB (show CallR _ _ (rReprD K) from call_reprD hG hr.units T.sm) (by rfl) T.n_repr (by decide +kernel) (pa_cons (pe_lst (pa_cons pe_bl (pa_cons (pv 12) (pa_cons (pe_not (pv 12)) (pa_cons pe_bl (pa_cons pe_bl pa_nil)))))) pa_nil)) (nomark _)) (pss_one (ps_ret pe_bl)) pss_nil)
      (pss_cons (ps_set (i := 13) sc_l_right.nd rfl (Or.inl rfl) (pe_lst (pa_cons (pe_meth (pl := _) (pv 2) T.cl_Ratio T.m_Ratio_multiply (ok_Ratio_multiply T) (hr.mono (by decide)) (b_Ratio_multiply T) .nil pass0 (pa_cons (pe_makeS T.mk_Ratio (ok_Ratio_init T) (hr.mono (by decide)) (by rfl) T.g_Ratio (b_Ratio_init T) .nil passS (pa_cons pe_int (pa_cons pe_int pa_nil))) pa_nil)) (pa_cons (pe_meth (pl := _) (pv 2) T.cl_Ratio T.m_Ratio_multiply (ok_Ratio_multiply T) (hr.mono (by decide)) (b_Ratio_multiply T) .nil pass0 (pa_cons (pe_makeS T.mk_Ratio (ok_Ratio_init T) (hr.mono (by decide)) (by rfl) T.g_Ratio (b_Ratio_init_1 T).choose_spec.2 (b_Ratio_init_1 T).choose_spec.1 passS (pa_cons (pe_un un_neg pe_int) pa_nil)) pa_nil)) (pa_cons (pe_meth (pl := _) (pv 2) T.cl_Ratio T.m_Ratio_add (ok_Ratio_add T) (hr.mono (by decide)) (b_Ratio_add T) .nil pass0 (pa_cons (pe_makeS T.mk_Ratio (ok_Ratio_init T) (hr.mono (by decide)) (by rfl) T.g_Ratio (b_Ratio_init_1 T).choose_spec.2 (b_Ratio_init_1 T).choose_spec.1 passS (pa_cons pe_int pa_nil)) pa_nil)) pa_nil)))))
      (pss_cons (ps_if (pt_cmpR op_ne (pe_callB (show CallR _ _ (rReprD K) from call_reprD hG hr.units T.sm) (by rfl) T.n_repr (by decide +kernel) (pa_cons (pe_lc (own := [("_law_value", 14)]) (g := gName 14) rfl sc_l_right.nd (pi_list (pv 13)) (blkOk_by (own := [("_law_value", 14)]) (N := N_l_right) (sc := defScope s_l_right) (by decide +kernel)) (fun _ _ _ _ _ => pg_name (i := 14) sc_l_right.nd rfl (Or.inl rfl)) (fun _ _ _ _ _ => pts_nil) (fun _ _ _ _ _ => (pe_cmpR (show OpR _ (compareOp .Eq) (rEqX K T.C_Ratio _ E0) from op_eqX (ok_Ratio_eq T) (hr.mono (by decide)) (b_Ratio_eq T) pass0 T.m_Ratio_eq.found T.m_Ratio_eq.fn) (pv 2) (pv 14) (nomark _)))) pa_nil)) (pe_callB (show CallR _ _ (rReprD K) from call_reprD hG hr.units T.sm) (by rfl) T.n_repr (by decide +kernel) (pa_cons (pe_lst (pa_cons (pe_cmpR op_eq (pv 5) pe_int (nomark _)) (pa_cons (pe_cmpR op_eq (pv 5) pe_int (nomark _)) (pa_cons pe_bl pa_nil)))) pa_nil)) (nomark _)) (pss_one (ps_ret pe_bl)) pss_nil)
      (pss_one (ps_ret (pe_and (pe_cmpR (show OpR _ (compareOp .Eq) (rEqX K T.C_Ratio _ E0) from op_eqX (ok_Ratio_eq T) (hr.mono (by decide)) (b_Ratio_eq T) pass0 T.m_Ratio_eq.found T.m_Ratio_eq.fn) (pe_makeS T.mk_Ratio (ok_Ratio_init T) (hr.mono (by decide)) (by rfl) T.g_Ratio (b_Ratio_init T) .nil passS (pa_cons (pv 0) (pa_cons (pv 1) pa_nil))) (pv 2) (nomark _)) (pe_and (pe_cmpR (show OpR _ (compareOp .Eq) (rEqX K T.C_Ratio _ E0) from op_eqX (ok_Ratio_eq T) (hr.mono (by decide)) (b_Ratio_eq T) pass0 T.m_Ratio_eq.found T.m_Ratio_eq.fn) (pv 10) (pe_makeS T.mk_Ratio (ok_Ratio_init T) (hr.mono (by decide)) (by rfl) T.g_Ratio (b_Ratio_init T) .nil passS (pa_cons (pv 0) (pa_cons pe_int pa_nil))) (nomark _)) (pe_one (pe_not (pe_cmpR (show OpR _ (compareOp .Eq) (rEqX K T.C_Ratio _ E0) from op_eqX (ok_Ratio_eq T) (hr.mono (by decide)) (b_Ratio_eq T) pass0 T.m_Ratio_eq.found T.m_Ratio_eq.fn) (pv 2) (pe_lst (pa_cons (pv 2) pa_nil)) (nomark _)))))))))))))))))))))))), ?_⟩
    refine ⟨_, rfl, _, rfl, mk_ok b0 b3 lw fun f H1 S1 nf rf1 => ?_⟩
    refine ⟨_, rfl, _, rfl, mk_ok b0 b3 lw fun x H2 s2 nx rx => ?_⟩
    obtain ⟨dx, ex⟩ := rx
    refine ⟨x, dx, _, rfl, ex, x, n, d, rfl, ⟨dx, ex⟩, n1, d1, _, rfl, ?_⟩
    refine ⟨_, rfl, _, rfl, mk_ok b0 b3 lw fun y H3 s3 ny ry => ?_⟩
    obtain ⟨dy, ey⟩ := ry
    refine ⟨y, dy, _, rfl, ey, rf_no (by decide +kernel) (by decide +kernel), y, n, d, rfl, ⟨dy, ey⟩, lenk 2 rfl (by decide), fun p np => ?_⟩
    have s4 := Same.new (o := .lst [.str (rtext n d), .int (sgn n)]) np
    have hp := upd_same (H := H3) (a := p) (o := .lst [.str (rtext n d), .int (sgn n)])
    generalize upd H3 p (.lst [.str (rtext n d), .int (sgn n)]) = H4 at s4 hp ⊢
    have S4 := ((S1.trans s2).trans s3).trans s4
    have f4 := rf1.same ((s2.trans s3).trans s4)
    -- the common divisor
    refine ⟨_, rfl, a, rfl, _, rfl, b, rfl, _, _, rfl, (by split <;> omega), (by split <;> omega), _, rfl, lenk 2 rfl (by decide), fun r nr => ?_⟩
    have s5 := Same.new (o := .lst [.int 1, .int (-1)]) nr
    have hr5 := upd_same (H := H4) (a := r) (o := .lst [.int 1, .int (-1)])
    generalize upd H4 r (.lst [.int 1, .int (-1)]) = H5 at s5 hr5 ⊢
    obtain ⟨e, he, hes⟩ : ∃ e : Int, atI [V.int 1, .int (-1)] (if decide (b < 0) = true then 1 else 0) = some (.int e) ∧ ((b < 0 ∧ e = -1) ∨ (¬ b < 0 ∧ e = 1)) := by
      by_cases z : b < 0
      · exact ⟨-1, by rw [decide_eq_true z]; rfl, .inl ⟨z, rfl⟩⟩
      · exact ⟨1, by rw [decide_eq_false z]; rfl, .inr ⟨z, rfl⟩⟩
    refine ⟨_, rfl, _, _, rfl, rfl, .inr ⟨_, rfl, r, _, _, _, rfl, rfl, SqL.of hr5, he, _, _, rfl, rfl, .inr ⟨by omega, by omega⟩, ?_⟩⟩
    have hab : Nat.gcd (if a < 0 then -a else a).natAbs (if b < 0 then -b else b).natAbs = Nat.gcd a.natAbs b.natAbs := by
      congr 1 <;> split <;> omega
    have g0 : 0 < Nat.gcd a.natAbs b.natAbs := Nat.gcd_pos_of_pos_right _ (by omega)
    have gl : Nat.gcd a.natAbs b.natAbs ≤ b.natAbs := Nat.le_of_dvd (by omega) (Nat.gcd_dvd_right _ _)
    rw [hab]
    obtain ⟨s, hs, sabs, ssg⟩ : ∃ s : Int, ((Nat.gcd a.natAbs b.natAbs : Nat) : Int) * e = s ∧ s.natAbs = Nat.gcd a.natAbs b.natAbs ∧ (b < 0 ↔ s < 0) := by
      refine ⟨_, rfl, ?_, ?_⟩ <;> rcases hes with ⟨z, rfl⟩ | ⟨z, rfl⟩ <;> omega
    dsimp only
    rw [hs]
    have w : ∀ z : Int, CDivX z s := fun z => wide_fdiv (by omega) (b := 8000) (by omega) (by decide) (by decide)
    obtain ⟨fd1, fd2⟩ := low_unique b0 (low_div b0 sabs ssg) lw
    refine ⟨_, rfl, _, rfl, _, _, rfl, rfl, w _, _, rfl, _, rfl, _, _, rfl, rfl, w _, ?_⟩
    dsimp only
    rw [fd1, fd2]
    -- the text
    have tl1 := tlen n1
    have tl2 := tlen d1
    have sl := sizeLine_eq
    have e1 : (Str.ofString "/").length = 1 := by decide
    refine ⟨_, rfl, n, rfl, tlog n1, _, rfl, d, rfl, tlog d1, _, _, rfl, rfl, (by omega), lenk 2 rfl (by decide), fun r2 nr2 => ?_⟩
    have s6 := Same.new (o := .lst [.str (Str.ofString ""), .str (Str.ofString "/" ++ Str.ofString (toString d))]) nr2
    have hr6 := upd_same (H := H5) (a := r2) (o := .lst [.str (Str.ofString ""), .str (Str.ofString "/" ++ Str.ofString (toString d))])
    generalize upd H5 r2 (.lst [.str (Str.ofString ""), .str (Str.ofString "/" ++ Str.ofString (toString d))]) = H6 at s6 hr6 ⊢
    obtain ⟨t, ht, hte⟩ : ∃ t : Str, atI [V.str (Str.ofString ""), .str (Str.ofString "/" ++ Str.ofString (toString d))] (if decide (1 < d) = true then 1 else 0) = some (.str t) ∧ t = (if decide (1 < d) = true then Str.ofString "/" ++ Str.ofString (toString d) else Str.ofString "") := by
      by_cases z : 1 < d
      · exact ⟨_, by rw [decide_eq_true z]; rfl, by rw [decide_eq_true z]; rfl⟩
      · exact ⟨_, by rw [decide_eq_false z]; rfl, by rw [decide_eq_false z]; rfl⟩
    have hrt : Str.ofString (toString n) ++ t = rtext n d := by rw [hte]; exact rtext_eq dpos
    have tl3 : t.length ≤ 502 := by
      rw [hte]
      split
      · rw [strLen_append]; omega
      · decide
    refine ⟨_, rfl, _, _, rfl, rfl, .inr ⟨_, rfl, r2, _, _, _, rfl, rfl, SqL.of hr6, ht, _, _, rfl, rfl, (by omega), ?_⟩⟩
    have hrt' : (Str.ofString (toString n) ++ t : Str) = rtext n d := hrt
    dsimp only
    rw [hrt']
    -- the first look
    have S6 := (S4.trans s5).trans s6
    have f6 := f4.same (s5.trans s6)
    have hp6 := s6 _ _ (s5 _ _ hp)
    have D1 : OkD 100000 1 (.list [.str (rtext n d), .int (sgn n)]) := (okd_list (m := 2) (allC ((okd_str rt.1 rt.2).mono (by decide) (Nat.le_refl _)) (all1 ((okd_int (sgn_b n)).mono (B' := 10032) (by decide) (Nat.le_refl _)))) (Nat.le_refl 2)).mono (by decide) (by decide)
    refine ⟨_, rfl, _, .list [.str (rtext n d), .int (sgn n)], rfl, .lst (SqL.of hp6) (.cons (.str _) (.cons (.int _) .nil)), D1.fine (by decide) (by decide), ?_⟩
    refine ⟨_, rfl, _, rfl, _, _, rfl, rfl, .inr ⟨_, rfl, _, rfl, _, _, rfl, rfl, .inr ⟨_, rfl, _, _, rfl, rfl, lenk 2 rfl (by decide), fun r3 nr3 => ?_⟩⟩⟩
    have es := sgn_eq n
    dsimp only at nr3 ⊢
    rw [es]
    have s7 := Same.new (o := .lst [.str (rtext n d), .int (sgn n)]) nr3
    have hr7 := upd_same (H := H6) (a := r3) (o := .lst [.str (rtext n d), .int (sgn n)])
    generalize upd H6 r3 (.lst [.str (rtext n d), .int (sgn n)]) = H7 at s7 hr7 ⊢
    refine ⟨_, .list [.str (rtext n d), .int (sgn n)], rfl, .lst (SqL.of hr7) (.cons (.str _) (.cons (.int _) .nil)), D1.fine (by decide) (by decide), rfl, _, rfl, ite2 (fun z => absurd z (by simp)) (fun _ => ?_)⟩
    refine ⟨_, rfl, _, rfl, mk_ok b0 b3 lw fun u H8 s8 nu ru => ?_⟩
    refine ⟨_, rfl, _, rfl, mk_ok d0 d3 (low_self dpos lw.2.1) fun v H9 s9 nv rv => ?_⟩
    have ru9 := ru.same s9
    obtain ⟨du, eu⟩ := id ru9
    obtain ⟨dv, ev⟩ := id rv
    refine ⟨u, du, _, _, rfl, eu, T.ow_Ratio.ty ev, T.ow_Ratio.nm, u, _, n, d, rfl, ru9, .inl ⟨v, n, d, rfl, rv, _, rfl, _, rfl, ?_⟩⟩
    dsimp only
    rw [show (decide (n = n) && decide (d = d)) = true by simp]
    have f9 := f6.same ((s7.trans s8).trans s9)
    have S9 := ((S6.trans s7).trans s8).trans s9
    refine ⟨2, rfl, by decide, by decide, for_it walk_range (fun i σ H' => Same H9 H' ∧ ∃ z8 z9, σ = [some (.int a), some (.int b), some (.ref f), some (.ref p), some (.int s), some (.int n), some (.int d), some (.str (rtext n d)), z8, z9, none, none, none, none, none])
      ⟨Same.refl _, _, _, rfl⟩ (fun _ _ _ _ _ => trivial) (fun i x σ H' H'' hi pp yy => ?_) (fun σ H' pp => ?_)⟩
    · obtain ⟨s10, z8, z9, rfl⟩ := pp
      obtain ⟨rfl, rfl⟩ := yy
      have ff := f9.same s10
      obtain ⟨df, ef⟩ := id ff
      refine ⟨_, rfl, f, df, _, rfl, ef, rf_no (by decide +kernel) (by decide +kernel), f, n, d, rfl, ff, ?_⟩
      refine ⟨_, rfl, f, df, _, rfl, ef, rf_no (by decide +kernel) (by decide +kernel), f, n, d, rfl, ff, ?_⟩
      refine ⟨_, rfl, f, df, _, rfl, ef, rf_no (by decide +kernel) (by decide +kernel), f, n, d, rfl, ff, ?_⟩
      refine ⟨_, rfl, f, df, _, rfl, ef, f, n, d, rfl, ff, n1, d1, _, rfl, lenk 4 rfl (by decide), fun k1 nk1 => ?_⟩
      have F4 : Fine (.list [.int n, .int d, .int (sgn n), .str (rtext n d)]) := d_list (allC (d_int n1) (allC (d_int d1) (allC (d_int (sgn_b n)) (all1 (d_str rt.1 rt.2))))) (by simp)
      have sk1 := Same.new (o := .lst [.int n, .int d, .int (sgn n), .str (rtext n d)]) nk1
      have hk1 := upd_same (H := H'') (a := k1) (o := .lst [.int n, .int d, .int (sgn n), .str (rtext n d)])
      dsimp only
      generalize upd H'' k1 (.lst [.int n, .int d, .int (sgn n), .str (rtext n d)]) = H11 at sk1 hk1 ⊢
      refine ⟨_, rfl, _, .list [.int n, .int d, .int (sgn n), .str (rtext n d)], rfl, .lst (SqL.of hk1) (.cons (.int _) (.cons (.int _) (.cons (.int _) (.cons (.str _) .nil)))), F4, ?_⟩
      refine ⟨_, rfl, _, rfl, _, rfl, _, _, rfl, rfl, .inr ⟨_, rfl, _, rfl, _, _, rfl, rfl, .inr ⟨_, rfl, _, _, rfl, rfl, _, rfl, lenk 4 rfl (by decide), fun k2 nk2 => ?_⟩⟩⟩
      have sk2 := Same.new (o := .lst [.int n, .int d, .int (sgn n), .str (rtext n d)]) nk2
      have hk2 := upd_same (H := H11) (a := k2) (o := .lst [.int n, .int d, .int (sgn n), .str (rtext n d)])
      dsimp only
      rw [es]
      generalize upd H11 k2 (.lst [.int n, .int d, .int (sgn n), .str (rtext n d)]) = H12 at sk2 hk2 ⊢
      refine ⟨_, .list [.int n, .int d, .int (sgn n), .str (rtext n d)], rfl, .lst (SqL.of hk2) (.cons (.int _) (.cons (.int _) (.cons (.int _) (.cons (.str _) .nil)))), F4, rfl, _, rfl, ite2 (fun z => absurd z neT) (fun _ => ?_)⟩
      exact ⟨(s10.trans sk1).trans sk2, _, _, rfl⟩
    · obtain ⟨s10, z8, z9, rfl⟩ := pp
      have S10 := S9.trans s10
      have f10 := f9.same s10
      clear nu ru nv rv ru9 eu ev nr3 hr7 s8 s9 s7 hp6 f6 nr2 hr6 s6 s5 nr hr5 s4 np hp f4 ey ex s3 s2
      refine ⟨_, rfl, mk_ok (by decide) (by decide +kernel) (low_one a) fun wh H11 s11 nw rw11 => ?_⟩
      obtain ⟨dw, ew⟩ := id rw11
      refine ⟨_, rfl, wh, dw, _, rfl, ew, rf_no (by decide +kernel) (by decide +kernel), wh, a, 1, rfl, rw11, ?_⟩
      refine ⟨_, rfl, wh, dw, _, rfl, ew, rf_no (by decide +kernel) (by decide +kernel), wh, a, 1, rfl, rw11, ?_⟩
      refine ⟨_, rfl, wh, dw, _, rfl, ew, wh, a, 1, rfl, rw11, a1, (by decide +kernel), _, rfl, lenk 3 rfl (by decide), fun k1 nk1 => ?_⟩
      dsimp only at nk1 ⊢
      rw [rtext_one]
      have F3 : Fine (.list [.int a, .int 1, .str (Str.ofString (toString a))]) := d_list (allC (d_int a1) (allC (d_int (by decide +kernel)) (all1 (d_str (text_ok a1).1 (text_ok a1).2)))) (by simp)
      have sk1 := Same.new (o := .lst [.int a, .int 1, .str (Str.ofString (toString a))]) nk1
      have hk1 := upd_same (H := H11) (a := k1) (o := .lst [.int a, .int 1, .str (Str.ofString (toString a))])
      generalize upd H11 k1 (.lst [.int a, .int 1, .str (Str.ofString (toString a))]) = H12 at sk1 hk1 ⊢
      refine ⟨_, .list [.int a, .int 1, .str (Str.ofString (toString a))], rfl, .lst (SqL.of hk1) (.cons (.int _) (.cons (.int _) (.cons (.str _) .nil))), F3, ?_⟩
      refine ⟨_, rfl, _, rfl, a, rfl, tlog a1, lenk 3 rfl (by decide), fun k2 nk2 => ?_⟩
      have sk2 := Same.new (o := .lst [.int a, .int 1, .str (Str.ofString (toString a))]) nk2
      have hk2 := upd_same (H := H12) (a := k2) (o := .lst [.int a, .int 1, .str (Str.ofString (toString a))])
      dsimp only
      generalize upd H12 k2 (.lst [.int a, .int 1, .str (Str.ofString (toString a))]) = H13 at sk2 hk2 ⊢
      refine ⟨_, .list [.int a, .int 1, .str (Str.ofString (toString a))], rfl, .lst (SqL.of hk2) (.cons (.int _) (.cons (.int _) (.cons (.str _) .nil))), F3, rfl, _, rfl, ite2 (fun z => absurd z neT) (fun _ => ?_)⟩
      -- turned
      let Mid : L2.St → Hp → Prop := fun σ' H' => ∃ (t : Addr) (m e' : Int), Same H13 H' ∧ IsR T.C_Ratio H' t m e' ∧ (decide (n = m) && decide (d = e')) = decide (a * a = b * b) ∧
        σ' = [some (.int a), some (.int b), some (.ref f), some (.ref p), some (.int s), some (.int n), some (.int d), some (.str (rtext n d)), z8, z9, some (.ref wh), some (.ref t), none, none, none]
      refine ⟨Mid, ⟨_, rfl, rfl, _, rfl, ite2 (fun z => ?_) (fun z => ?_)⟩, fun σ' H' mid => ?_⟩
      · have az : a = 0 := V.int.inj (of_decide_eq_true z)
        refine mk_ok (by decide) (by decide +kernel) (low_one 1) fun t Ht st nt rt' => ?_
        refine ⟨t, 1, 1, st, rt', ?_, rfl⟩
        obtain ⟨e1, e2⟩ := low_zero b0 (az ▸ lw)
        have : ¬ a * a = b * b := fun y => by
          rw [az, Int.zero_mul] at y
          exact Int.mul_ne_zero b0 b0 y.symm
        rw [e1, decide_eq_false this]
        rfl
      · have az : a ≠ 0 := fun y => z (decide_eq_true (by rw [y]))
        obtain ⟨m, e', lwt⟩ := ex_low b az
        refine ⟨_, rfl, _, rfl, mk_ok az a3 lwt fun t Ht st nt rt' => ?_⟩
        exact ⟨t, m, e', st, rt', turned az b0 lw lwt, rfl⟩
      · obtain ⟨t, m, e', s14, rt', fact, rfl⟩ := mid
        have S14 := ((((S10.trans s11).trans sk1).trans sk2).trans s14)
        have f14 := f10.same (((s11.trans sk1).trans sk2).trans s14)
        have wh14 := rw11.same ((sk1.trans sk2).trans s14)
        obtain ⟨df, ef⟩ := id f14
        obtain ⟨dt, et⟩ := id rt'
        have wm : ∀ {i : Int}, i.natAbs < 2 ^ 2000 → CMulW i i := fun x => wide_mul x x (by decide) (by decide) (by decide)
        refine ⟨_, rfl, _, rfl, _, _, rfl, rfl, wm a2, _, rfl, _, rfl, _, _, rfl, rfl, wm b2, rfl, ?_⟩
        refine ⟨_, rfl, _, rfl, _, rfl, _, rfl, _, rfl, mk_ok (by omega) (by rw [Int.natAbs_neg]; exact b3) (low_neg lw) fun u H15 s15 nu ru => ?_⟩
        have f15 := f14.same s15
        have t15 := rt'.same s15
        obtain ⟨df, ef⟩ := id f15
        obtain ⟨dt, et⟩ := id t15
        obtain ⟨du, eu⟩ := id ru
        refine ⟨f, df, _, _, rfl, ef, T.ow_Ratio.ty eu, T.ow_Ratio.nm, f, _, n, d, rfl, f15, .inl ⟨u, n, d, rfl, ru, _, rfl, ?_⟩⟩
        refine ⟨_, rfl, _, rfl, f, df, _, _, rfl, ef, T.ow_Ratio.ty et, T.ow_Ratio.nm, f, _, n, d, rfl, f15, .inl ⟨t, m, e', rfl, t15, _, rfl, ?_⟩⟩
        refine ⟨_, rfl, _, rfl, f, df, _, _, rfl, ef, T.ow_Ratio.ty et, T.ow_Ratio.nm, f, _, n, d, rfl, f15, .inl ⟨t, m, e', rfl, t15, _, rfl, ?_⟩⟩
        refine ⟨_, rfl, _, rfl, f, df, _, _, rfl, ef, .base (.int _), T.ow_Ratio.nf "int" (by simp [tyNames]), f, _, n, d, rfl, f15, .inr ⟨_, .base (.int _), T.ow_Ratio.fr "int" (by simp [tyNames]), _, rfl, ?_⟩⟩
        refine ⟨_, rfl, _, rfl, f, df, _, _, rfl, ef, .base (.str _), T.ow_Ratio.nf "str" (by simp [tyNames]), f, _, n, d, rfl, f15, .inr ⟨_, .base (.str _), T.ow_Ratio.fr "str" (by simp [tyNames]), _, rfl, lenk 5 rfl (by decide), fun k1 nk1 => ?_⟩⟩
        dsimp only at nk1 ⊢
        rw [show (decide (n = n) && decide (d = d)) = true by simp, fact, dec_vint]
        have F5 : Fine (.list [.bool true, .bool (decide (a * a = b * b)), .bool (!decide (a * a = b * b)), .bool false, .bool false]) := d_list (allC (d_bl _) (allC (d_bl _) (allC (d_bl _) (allC (d_bl _) (all1 (d_bl _)))))) (by simp)
        have sk1 := Same.new (o := .lst [.bl true, .bl (decide (a * a = b * b)), .bl (!decide (a * a = b * b)), .bl false, .bl false]) nk1
        have hk1 := upd_same (H := H15) (a := k1) (o := .lst [.bl true, .bl (decide (a * a = b * b)), .bl (!decide (a * a = b * b)), .bl false, .bl false])
        generalize upd H15 k1 (.lst [.bl true, .bl (decide (a * a = b * b)), .bl (!decide (a * a = b * b)), .bl false, .bl false]) = H16 at sk1 hk1 ⊢
        refine ⟨_, rfl, _, .list [.bool true, .bool (decide (a * a = b * b)), .bool (!decide (a * a = b * b)), .bool false, .bool false], rfl, .lst (SqL.of hk1) (.cons (.bl _) (.cons (.bl _) (.cons (.bl _) (.cons (.bl _) (.cons (.bl _) .nil))))), F5, ?_⟩
        refine ⟨_, rfl, _, rfl, _, rfl, lenk 5 rfl (by decide), fun k2 nk2 => ?_⟩
        have sk2 := Same.new (o := .lst [.bl true, .bl (decide (a * a = b * b)), .bl (!decide (a * a = b * b)), .bl false, .bl false]) nk2
        have hk2 := upd_same (H := H16) (a := k2) (o := .lst [.bl true, .bl (decide (a * a = b * b)), .bl (!decide (a * a = b * b)), .bl false, .bl false])
        dsimp only
        generalize upd H16 k2 (.lst [.bl true, .bl (decide (a * a = b * b)), .bl (!decide (a * a = b * b)), .bl false, .bl false]) = H17 at sk2 hk2 ⊢
        refine ⟨_, .list [.bool true, .bool (decide (a * a = b * b)), .bool (!decide (a * a = b * b)), .bool false, .bool false], rfl, .lst (SqL.of hk2) (.cons (.bl _) (.cons (.bl _) (.cons (.bl _) (.cons (.bl _) (.cons (.bl _) .nil))))), F5, ?_⟩
        generalize PyData.shown (.list [.bool true, .bool (decide (a * a = b * b)), .bool (!decide (a * a = b * b)), .bool false, .bool false]) = tx
        refine ⟨rfl, _, rfl, ite2 (fun z => absurd z neT) (fun _ => ?_)⟩
        -- near ones
        have S17 := ((S14.trans s15).trans sk1).trans sk2
        have f17 := f15.same (sk1.trans sk2)
        have wh17 := wh14.same ((s15.trans sk1).trans sk2)
        clear f15 t15 ef et eu ru nk1 hk1 nk2 hk2 sk1 sk2 s15 s14 rt' df dt f14 wh14
        obtain ⟨df, ef⟩ := id f17
        have sm1 : ∀ {i : Int}, i.natAbs ≤ 2 → i.natAbs < 2 ^ 2000 := fun h => Nat.lt_of_le_of_lt h (by decide +kernel)
        refine ⟨_, rfl, f, df, _, rfl, ef, rf_no (by decide +kernel) (by decide +kernel), mk_ok (by decide) (by decide +kernel) (low_self (n := 1) (d := 2) (by decide) (by decide)) fun h1 H18 s18 nh1 rh1 => ?_⟩
        refine ⟨f, h1, n, d, 1, 2, rfl, f17.same s18, rh1, d0, by decide, n2, d2, sm1 (by decide), sm1 (by decide), fun m1 c1 x1 H19 lw1 s19 nx1 rx1 => ?_⟩
        have f19 := f17.same (s18.trans s19)
        obtain ⟨df, ef⟩ := id f19
        refine ⟨_, rfl, f, df, _, rfl, ef, rf_no (by decide +kernel) (by decide +kernel), _, rfl, mk_ok (by decide) (by decide +kernel) (low_one (-1)) fun h2 H20 s20 nh2 rh2 => ?_⟩
        refine ⟨f, h2, n, d, -1, 1, rfl, f19.same s20, rh2, d0, by decide, n2, d2, sm1 (by decide), sm1 (by decide), fun m2 c2 x2 H21 lw2 s21 nx2 rx2 => ?_⟩
        have f21 := f19.same (s20.trans s21)
        obtain ⟨df, ef⟩ := id f21
        refine ⟨_, rfl, f, df, _, rfl, ef, rf_no (by decide +kernel) (by decide +kernel), mk_ok (by decide) (by decide +kernel) (low_one 1) fun h3 H22 s22 nh3 rh3 => ?_⟩
        refine ⟨f, h3, n, d, 1, 1, rfl, f21.same s22, rh3, d0, by decide, n2, d2, sm1 (by decide), sm1 (by decide), fun m3 c3 x3 H23 lw3 s23 nx3 rx3 => ?_⟩
        refine ⟨lenk 3 rfl (by decide), fun k3 nk3 => ?_⟩
        have sk3 := Same.new (o := .lst [.ref x1, .ref x2, .ref x3]) nk3
        have hk3 := upd_same (H := H23) (a := k3) (o := .lst [.ref x1, .ref x2, .ref x3])
        generalize upd H23 k3 (.lst [.ref x1, .ref x2, .ref x3]) = H24 at sk3 hk3 ⊢
        have f24 := f21.same ((s22.trans s23).trans sk3)
        have S24 := ((((((S17.trans s18).trans s19).trans s20).trans s21).trans s22).trans s23).trans sk3
        have wh24 := wh17.same ((((((s18.trans s19).trans s20).trans s21).trans s22).trans s23).trans sk3)
        have r1 := rx1.same (((((s20.trans s21).trans s22).trans s23)).trans sk3)
        have r2' := rx2.same ((s22.trans s23).trans sk3)
        have r3' := rx3.same sk3
        have k1 : (decide (n = m1) && decide (d = c1)) = decide (n = 0) := near_mul dpos lw.2.1 (by decide) (by decide) lw1
        have k2 : (decide (n = m2) && decide (d = c2)) = decide (n = 0) := near_mul dpos lw.2.1 (by decide) (by decide) lw2
        have k3' : (decide (n = m3) && decide (d = c3)) = false := near_add dpos lw3
        have items : ∀ (i : Nat) (v : V), [V.ref x1, .ref x2, .ref x3][i]? = some v → ∃ t m c, v = .ref t ∧ IsR T.C_Ratio H24 t m c ∧ [V.bl (decide (n = 0)), .bl (decide (n = 0)), .bl false][i]? = some (.bl (decide (n = m) && decide (d = c))) := by
          intro i v hv
          match i, hv with
          | 0, hv => cases hv; exact ⟨x1, m1, c1, rfl, r1, by rw [k1]; rfl⟩
          | 1, hv => cases hv; exact ⟨x2, m2, c2, rfl, r2', by rw [k2]; rfl⟩
          | 2, hv => cases hv; exact ⟨x3, m3, c3, rfl, r3', by rw [k3']; rfl⟩
          | (k + 3), hv => cases hv
        refine ⟨_, rfl, k3, rfl, ⟨_, SqL.of hk3⟩, fun D nD => lc_it (walk_list (xs := [V.ref x1, .ref x2, .ref x3])) (fun i H' => H' D = some (.lst ([V.bl (decide (n = 0)), .bl (decide (n = 0)), .bl false].take i)) ∧ Same H24 H') ⟨upd_same, Same.new nD⟩ (fun i H' _ pp => SqL.of (pp.2 _ _ hk3)) (fun i x H' H'' hi pp yy => ?_) (fun H' pp => ?_)⟩
        · obtain ⟨hD, sm⟩ := pp
          obtain ⟨rfl, hx⟩ := yy
          obtain ⟨t, m, c, rfl, rt, hr⟩ := items i x hx
          have rt' := rt.same sm
          have ff := f24.same sm
          obtain ⟨dt, et⟩ := id rt'
          obtain ⟨df, ef⟩ := id ff
          refine ⟨rfl, _, rfl, _, rfl, f, df, _, _, rfl, ef, T.ow_Ratio.ty et, T.ow_Ratio.nm, f, _, n, d, rfl, ff, .inl ⟨t, m, c, rfl, rt', _, rfl, _, hD, ?_, ?_, ?_⟩⟩
          · have l := List.length_take_le i [V.bl (decide (n = 0)), .bl (decide (n = 0)), .bl false]
            have l2 : [V.bl (decide (n = 0)), .bl (decide (n = 0)), .bl false].length = 3 := rfl
            have l3 : i < 3 := hi
            rw [sizeLine_eq]
            exact Nat.lt_of_le_of_lt l (by omega)
          · rw [upd_same, List.take_add_one, hr]
            rfl
          · exact Same.upd_p sm nD
        · obtain ⟨hD, sm⟩ := pp
          have hD' : H' D = some (.lst [V.bl (decide (n = 0)), .bl (decide (n = 0)), .bl false]) := hD
          have F3 : Fine (.list [.bool (decide (n = 0)), .bool (decide (n = 0)), .bool false]) := d_list (allC (d_bl _) (allC (d_bl _) (all1 (d_bl _)))) (by simp)
          refine ⟨_, .list [.bool (decide (n = 0)), .bool (decide (n = 0)), .bool false], rfl, .lst (SqL.of hD') (.cons (.bl _) (.cons (.bl _) (.cons (.bl _) .nil))), F3, ?_⟩
          refine ⟨_, rfl, rfl, _, rfl, rfl, lenk 3 rfl (by decide), fun k4 nk4 => ?_⟩
          dsimp only at nk4 ⊢
          rw [dec_vint]
          have sk4 := Same.new (o := .lst [.bl (decide (n = 0)), .bl (decide (n = 0)), .bl false]) nk4
          have hk4 := upd_same (H := H') (a := k4) (o := .lst [.bl (decide (n = 0)), .bl (decide (n = 0)), .bl false])
          generalize upd H' k4 (.lst [.bl (decide (n = 0)), .bl (decide (n = 0)), .bl false]) = H25 at sk4 hk4 ⊢
          refine ⟨_, .list [.bool (decide (n = 0)), .bool (decide (n = 0)), .bool false], rfl, .lst (SqL.of hk4) (.cons (.bl _) (.cons (.bl _) (.cons (.bl _) .nil))), F3, ?_⟩
          generalize PyData.shown (.list [.bool (decide (n = 0)), .bool (decide (n = 0)), .bool false]) = tx2
          refine ⟨rfl, _, rfl, ite2 (fun z => absurd z neT) (fun _ => ?_)⟩
          have S25 := (S24.trans sm).trans sk4
          have f25 := f24.same (sm.trans sk4)
          have wh25 := wh24.same (sm.trans sk4)
          refine ⟨_, rfl, _, rfl, mk_ok b0 b3 lw fun u H26 s26 nu ru => ?_⟩
          have f26 := f25.same s26
          have wh26 := wh25.same s26
          obtain ⟨du, eu⟩ := id ru
          obtain ⟨df, ef⟩ := id f26
          refine ⟨_, rfl, u, du, _, _, rfl, eu, T.ow_Ratio.ty ef, T.ow_Ratio.nm, u, _, n, d, rfl, ru, .inl ⟨f, n, d, rfl, f26, _, rfl, _, rfl, ?_⟩⟩
          rw [if_pos (by simp)]
          refine ⟨_, rfl, _, rfl, mk_ok (by decide) (by decide +kernel) (low_one a) fun v H27 s27 nv rv => ?_⟩
          have f27 := f26.same s27
          have wh27 := wh26.same s27
          obtain ⟨dv, ev⟩ := id rv
          obtain ⟨dw', ew'⟩ := id wh27
          refine ⟨wh, dw', _, _, rfl, ew', T.ow_Ratio.ty ev, T.ow_Ratio.nm, wh, _, a, 1, rfl, wh27, .inl ⟨v, a, 1, rfl, rv, _, rfl, _, rfl, ?_⟩⟩
          rw [if_pos (by simp)]
          refine ⟨_, rfl, _, rfl, lenk 1 rfl (by decide), fun k5 nk5 => ?_⟩
          have sk5 := Same.new (o := .lst [.ref f]) nk5
          have f28 := f27.same sk5
          obtain ⟨df', ef'⟩ := id f28
          refine ⟨f, df', _, _, rfl, ef', .base (.lst upd_same), T.ow_Ratio.nf "list" (by simp [tyNames]), f, _, n, d, rfl, f28, .inr ⟨_, .base (.lst upd_same), T.ow_Ratio.fr "list" (by simp [tyNames]), _, rfl, _, rfl, ?_⟩⟩
          exact q _ (((S25.trans s26).trans s27).trans sk5)

end K03
namespace K03
open PySem PySem.Spec PyProof.Rows L2 TL
/-! ### values that are not integers -/
inductive Thing (H : Hp) : V → Prop
  | non : Thing H .non
  | bl (b : Bool) : Thing H (.bl b)
  | s1 : Thing H (.str (Str.ofString "1"))
  | s0 : Thing H (.str (Str.ofString ""))
  | lst {l : Addr} (e : H l = some (.lst [.int 1])) : Thing H (.ref l)
  | tup {l : Addr} (e : H l = some (.tup [.int 1])) : Thing H (.ref l)
  | d0 {l : Addr} (e : H l = some (.dK [])) : Thing H (.ref l)
  | d1 {l : Addr} (e : H l = some (.dK [(Sum.inr (Str.ofString "a"), .int 1)])) : Thing H (.ref l)
theorem Thing.same {H H' : Hp} {v : V} (h : Thing H v) (s : Same H H') : Thing H' v := by
  cases h with
  | non => exact .non
  | bl b => exact .bl b
  | s1 => exact .s1
  | s0 => exact .s0
  | lst e => exact .lst (s _ _ e)
  | tup e => exact .tup (s _ _ e)
  | d0 e => exact .d0 (s _ _ e)
  | d1 e => exact .d1 (s _ _ e)
theorem Thing.ni {K : PySem.W.Frag} {H : Hp} {v : V} (h : Thing H v) : NotI K H v := by
  cases h with
  | non => exact ⟨_, .base .non, .inl (kit_ty (show kitB "NoneType" "int" = some false by decide +kernel))⟩
  | bl b => exact ⟨_, .base (.bl _), .inr ⟨kit_ty (show kitB "bool" "int" = some true by decide +kernel), kit_ty (show kitB "bool" "bool" = some true by decide +kernel)⟩⟩
  | s1 => exact ⟨_, .base (.str _), .inl (kit_ty (show kitB "str" "int" = some false by decide +kernel))⟩
  | s0 => exact ⟨_, .base (.str _), .inl (kit_ty (show kitB "str" "int" = some false by decide +kernel))⟩
  | lst e => exact ⟨_, .base (.lst e), .inl (kit_ty (show kitB "list" "int" = some false by decide +kernel))⟩
  | tup e => exact ⟨_, .base (.tup e), .inl (kit_ty (show kitB "tuple" "int" = some false by decide +kernel))⟩
  | d0 e => exact ⟨_, .base (.dK e), .inl (kit_ty (show kitB "dict" "int" = some false by decide +kernel))⟩
  | d1 e => exact ⟨_, .base (.dK e), .inl (kit_ty (show kitB "dict" "int" = some false by decide +kernel))⟩
theorem Thing.dx {K : PySem.W.Frag} {H : Hp} {v : V} (h : Thing H v) : ∃ d, Dx K H v d ∧ OkD 200 2 d := by
  cases h with
  | non => exact ⟨_, .non, by constructor <;> decide +kernel⟩
  | bl b => exact ⟨_, .bl b, (okd_bool b).mono (by decide) (by decide)⟩
  | s1 => exact ⟨_, .str _, by constructor <;> decide +kernel⟩
  | s0 => exact ⟨_, .str _, by constructor <;> decide +kernel⟩
  | lst e => exact ⟨.list [.int 1], .lst (SqL.of e) (.cons (.int 1) .nil), by constructor <;> decide +kernel⟩
  | tup e => exact ⟨.tuple [.int 1], .tup (.inl (.inl e)) (.cons (.int 1) .nil), by constructor <;> decide +kernel⟩
  | d0 e => exact ⟨.dict [], .dic (.inl e) rfl .nil, by constructor <;> decide +kernel⟩
  | d1 e => exact ⟨.dict [(.str (Str.ofString "a"), .int 1)], .dic (.inl e) rfl (.cons (.int 1) .nil), by constructor <;> decide +kernel⟩
theorem Thing.fr {H H' : Hp} {v : V} {b : Addr} {n : Nat} (hB : Bag H b n) (h : Thing H v) (f : Fr b H H') : Thing H' v := by
  obtain ⟨x, y, z, e0, _⟩ := hB
  have ne : ∀ {a : Addr} {o : HO}, H a = some o → o ≠ .lst [.int x, .int y, .int z] → a ≠ b := fun e ho q => by
    subst q
    rw [e0] at e
    exact ho (Option.some.inj e).symm
  cases h with
  | non => exact .non
  | bl b => exact .bl b
  | s1 => exact .s1
  | s0 => exact .s0
  | lst e => exact .lst (f _ _ (ne e (by simp)) e)
  | tup e => exact .tup (f _ _ (ne e (by simp)) e)
  | d0 e => exact .d0 (f _ _ (ne e (by simp)) e)
  | d1 e => exact .d1 (f _ _ (ne e (by simp)) e)
/-- a told refusal -/
theorem told_fine {d : PyData} (h : OkD 200 2 d) : Fine (.list [.str (Str.ofString "integer"), d]) :=
  (okd_list (B := 200) (k := 2) (m := 2) (allC ((okd_str (n := 7) (cpOk_of _) (by decide)).mono (by decide) (by decide)) (all1 h)) (by simp)).fine (by decide) (by decide)
def sp_refused : Sp := fun vs H Q _ => ∃ (b : Addr) (n : Nat) (one : Int), vs = [.ref b, .int one] ∧ Bag H b n ∧ n ≤ 700000 ∧ one.natAbs < 10 ^ 40 ∧ ∀ H', Fr b H H' → Bag H' b (n + 5) → Q (.bl true) H'
theorem ok_l_refused_right {P : Program} {w : World} {K : PySem.W.Frag} {mg : Str → Option Value} {base : Heap} (T : Txt P K mg) : FnG P w K mg base CX0 5 T.f_l_refused_right T.fd_l_refused_right ["_law_box_here", "_law_one"] (sp_refused) := by
  refine T.F_l_refused_right.okG sc_l_refused_right (fun vs H Q E h => ?_) (fun cdv A outer s H vs Q E hr hG h => ?_)
  · obtain ⟨_, _, _, rfl, _⟩ := h; rfl
  · obtain ⟨b, n, one, rfl, hB, hn, h1, q⟩ := h
    refine ⟨_, PSs.nox (pss_cons (ps_set (i := 2) sc_l_refused_right.nd rfl (Or.inl rfl) (pe_lst (pa_cons pe_non (pa_cons pe_bl (pa_cons pe_bl (pa_cons pe_str (pa_cons pe_str (pa_cons (pe_lst (pa_cons pe_int pa_nil)) (pa_cons (pe_tup (pa_cons pe_int pa_nil)) (pa_cons pe_dnewK (pa_cons (pe_disp (pps_cons pe_str pe_int pps_nil) (by rfl) (by rfl) (fun z => by cases z) (by decide)) pa_nil)))))))))))
      (pss_cons (ps_set (i := 3) sc_l_refused_right.nd rfl (Or.inl rfl) (pe_ix (show IxR _ (rIxL K) from ix_list) (pv 2) (pe_call (ok_l_take T) (hr.mono (by decide)) (by rfl) T.g_l_take T.F_l_take.kp (b_l_take T) .nil pass0 (pa_cons (pv 0) (pa_cons pe_int pa_nil))) (fun _ _ => rfl)))
      (pss_cons (ps_set (i := 4) sc_l_refused_right.nd rfl (Or.inl rfl) (pe_ix (show IxR _ (rIxL K) from ix_list) (pv 2) (pe_call (ok_l_take T) (hr.mono (by decide)) (by rfl) T.g_l_take T.F_l_take.kp (b_l_take T) .nil pass0 (pa_cons (pv 0) (pa_cons pe_int pa_nil))) (fun _ _ => rfl)))
      (pss_cons (ps_for PassesOwn.never rfl (pi_list (pe_lst (pa_cons (pe_tup (pa_cons (pv 3) (pa_cons pe_int (pa_cons pe_str (pa_cons (pv 3) pa_nil))))) (pa_cons (pe_tup (pa_cons (pv 1) (pa_cons (pv 3) (pa_cons pe_str (pa_cons (pv 3) pa_nil))))) (pa_cons (pe_tup (pa_cons (pv 3) (pa_cons (pv 4) (pa_cons pe_str (pa_cons (pv 3) pa_nil))))) (pa_cons (pe_tup (pa_cons (pv 3) (pa_cons pe_int (pa_cons pe_str (pa_cons (pv 3) pa_nil))))) pa_nil)))))) (pg_tup rfl (pgs_cons (pg_name (i := 5) sc_l_refused_right.nd rfl (Or.inl rfl)) (pgs_cons (pg_name (i := 6) sc_l_refused_right.nd rfl (Or.inl rfl)) (pgs_cons (pg_name (i := 7) sc_l_refused_right.nd rfl (Or.inl rfl)) (pgs_cons (pg_name (i := 8) sc_l_refused_right.nd rfl (Or.inl rfl)) pgs_nil))))) (pss_one (ps_if (pt_cmpR op_ne (pe_callB (show CallR _ _ (rReprD K) from call_reprD hG hr.units T.sm) (by rfl) T.n_repr (by decide +kernel) (pa_cons (pe_call (ok_l_caught T) (hr.mono (by decide)) (by rfl) T.g_l_caught T.F_l_caught.kp (b_l_caught T) .nil pass0 (pa_cons (pv 5) (pa_cons (pv 6) pa_nil))) pa_nil)) (pe_callB (show CallR _ _ (rReprD K) from call_reprD hG hr.units T.sm) (by rfl) T.n_repr (by decide +kernel) (pa_cons (pe_lst (pa_cons (pv 7) (pa_cons (pv 8) pa_nil))) pa_nil)) (nomark _)) (pss_one (ps_ret pe_bl)) pss_nil)))
      (pss_cons (ps_set (i := 9) sc_l_refused_right.nd rfl (Or.inl rfl) (pe_call (ok_l_caught T) (hr.mono (by decide)) (by rfl) T.g_l_caught T.F_l_caught.kp (b_l_caught T) .nil pass0 (pa_cons (pv 1) (pa_cons (pv 3) pa_nil))))
      (Evl.pss_cut (ps_if (pt_val (pe_callB (show CallR _ _ (rIsi K) from call_isi) (by rfl) T.n_isinstance (by decide +kernel) (pa_cons (pv 3) (pa_cons (pe_bltn (v := .ty "list") (by rfl) T.n_list (by decide +kernel) rfl) pa_nil)))) (pss_one (ps_expr (pe_bm PySem.F.plainAttrs_list PySem.F.slot_list_append PySem.F.type_list_append mt_append (pv 3) (pa_cons pe_int pa_nil)))) pss_nil)
      (Evl.pss_cut (ps_if (pt_val (pe_callB (show CallR _ _ (rIsi K) from call_isi) (by rfl) T.n_isinstance (by decide +kernel) (pa_cons (pv 3) (pa_cons (pe_bltn (v := .ty "dict") (by rfl) T.n_dict (by decide +kernel) rfl) pa_nil)))) (pss_one (ps_asg pe_int (pg_sub (pv 3) pe_str (set_dict (Nat.lt_of_le_of_lt (Nat.add_le_add_left (by decide) _) hr.units))))) pss_nil)
      (pss_cons (ps_set (i := 10) sc_l_refused_right.nd rfl (Or.inl rfl) (pe_makeS T.mk_Ratio (ok_Ratio_init T) (hr.mono (by decide)) (by rfl) T.g_Ratio (b_Ratio_init T) .nil passS (pa_cons pe_int (pa_cons pe_int pa_nil))))
      (pss_cons (ps_set (i := 11) sc_l_refused_right.nd rfl (Or.inl rfl) (pe_call (ok_l_caught T) (hr.mono (by decide)) (by rfl) T.g_l_caught T.F_l_caught.kp (b_l_caught T) .nil pass0 (pa_cons (pv 10) (pa_cons (pv 1) pa_nil))))
      (pss_one (ps_ret (pe_and (pe_cmpR op_eq (pe_callB (show CallR _ _ (rReprD K) from call_reprD hG hr.units T.sm) (by rfl) T.n_repr (by decide +kernel) (pa_cons (pv 9) pa_nil)) (pe_callB (show CallR _ _ (rReprD K) from call_reprD hG hr.units T.sm) (by rfl) T.n_repr (by decide +kernel) (pa_cons (pe_lst (pa_cons pe_str (pa_cons (pv 3) pa_nil))) pa_nil)) (nomark _)) (pe_and (pe_cmpR op_eq (pe_ix (show IxR _ (rIxL K) from ix_list) (pv 11) pe_int (fun _ _ => rfl)) pe_str (nomark _)) (pe_one (pe_cmpR (show OpR _ (compareOp .Eq) (rEqX K T.C_Ratio _ E0) from op_eqX (ok_Ratio_eq T) (hr.mono (by decide)) (b_Ratio_eq T) pass0 T.m_Ratio_eq.found T.m_Ratio_eq.fn) (pe_ix (show IxR _ (rIxL K) from ix_list) (pv 11) pe_int (fun _ _ => rfl)) (pv 10) (nomark _)))))))))))))))), ?_⟩
    refine ⟨lenk 1 rfl (by decide), fun a1 n1 => ?_⟩
    generalize e1 : upd H a1 (.lst [.int 1]) = H1
    have s1 : Same H H1 := e1 ▸ Same.new n1
    have h1 : H1 a1 = some (.lst [.int 1]) := e1 ▸ upd_same
    refine ⟨lenk 1 rfl (by decide), fun a2 n2 => ?_⟩
    generalize e2 : upd H1 a2 (.tup [.int 1]) = H2
    have s2 : Same H1 H2 := e2 ▸ Same.new n2
    have h2 : H2 a2 = some (.tup [.int 1]) := e2 ▸ upd_same
    refine fun a3 n3 => ?_
    generalize e3 : upd H2 a3 (.dK []) = H3
    have s3 : Same H2 H3 := e3 ▸ Same.new n3
    have h3 : H3 a3 = some (.dK []) := e3 ▸ upd_same
    refine fun a4 n4 => ⟨upd_same, [(Sum.inr (Str.ofString "a"), .int 1)], rfl, by decide, ?_⟩
    rw [upd_upd]
    generalize e4 : upd H3 a4 (.dK (mergeK [] [(Sum.inr (Str.ofString "a"), V.int 1)])) = H4
    have s4 : Same H3 H4 := e4 ▸ Same.new n4
    have h4 : H4 a4 = some (.dK [(Sum.inr (Str.ofString "a"), V.int 1)]) := e4 ▸ upd_same
    refine ⟨lenk 9 rfl (by decide), fun a5 n5 => ?_⟩
    generalize e5 : upd H4 a5 (.lst [V.non, .bl true, .bl false, .str (Str.ofString "1"), .str (Str.ofString ""), .ref a1, .ref a2, .ref a3, .ref a4]) = H5
    have s5 : Same H4 H5 := e5 ▸ Same.new n5
    have h5 : H5 a5 = some (.lst [V.non, .bl true, .bl false, .str (Str.ofString "1"), .str (Str.ofString ""), .ref a1, .ref a2, .ref a3, .ref a4]) := e5 ▸ upd_same
    have S5 : Same H H5 := s1.trans (s2.trans (s3.trans (s4.trans s5)))
    have things : ∀ v ∈ [V.non, .bl true, .bl false, .str (Str.ofString "1"), .str (Str.ofString ""), .ref a1, .ref a2, .ref a3, .ref a4], Thing H5 v := by
      intro v hv
      simp only [List.mem_cons, List.not_mem_nil, or_false] at hv
      rcases hv with rfl | rfl | rfl | rfl | rfl | rfl | rfl | rfl | rfl
      · exact .non
      · exact .bl _
      · exact .bl _
      · exact .s1
      · exact .s0
      · exact .lst (s5 _ _ (s4 _ _ (s3 _ _ (s2 _ _ h1))))
      · exact .tup (s5 _ _ (s4 _ _ (s3 _ _ h2)))
      · exact .d0 (s5 _ _ (s4 _ _ h3))
      · exact .d1 (s5 _ _ h4)
    have ne5 : b ≠ a5 := (hB.same (s1.trans (s2.trans (s3.trans s4)))).ne n5
    refine ⟨_, rfl, _, rfl, b, n, 9, rfl, hB.same S5, by omega, by decide, by decide, fun k6 H6 f6 b6 k60 k61 => ?_⟩
    obtain ⟨v, hv, hav⟩ := atI_in (xs := [V.non, .bl true, .bl false, .str (Str.ofString "1"), .str (Str.ofString ""), .ref a1, .ref a2, .ref a3, .ref a4]) k60 (by show k6 < 9; omega)
    have h56 := f6 _ _ (Ne.symm ne5) h5
    refine ⟨a5, _, _, _, rfl, rfl, SqL.of h56, hav, ?_⟩
    refine ⟨_, rfl, _, rfl, b, _, 9, rfl, b6, by omega, by decide, by decide, fun k7 H7 f7 b7 k70 k71 => ?_⟩
    obtain ⟨w', hw, haw⟩ := atI_in (xs := [V.non, .bl true, .bl false, .str (Str.ofString "1"), .str (Str.ofString ""), .ref a1, .ref a2, .ref a3, .ref a4]) k70 (by show k7 < 9; omega)
    refine ⟨a5, _, _, _, rfl, rfl, SqL.of (f7 _ _ (Ne.symm ne5) h56), haw, ?_⟩
    have B5 := hB.same S5
    have tv : Thing H7 v := ((things v (List.mem_of_getElem? hv)).fr B5 f6).fr b6 f7
    have F7 : Fr b H H7 := ((Fr.of_same S5).trans f6).trans f7
    have fresh : ∀ l, v = .ref l → H l = none := by
      intro l e
      have hm := List.mem_of_getElem? hv
      rw [e] at hm
      simp only [List.mem_cons, List.not_mem_nil, or_false, V.ref.injEq, reduceCtorEq, false_or] at hm
      rcases hm with rfl | rfl | rfl | rfl
      · exact n1
      · exact free_of s1 n2
      · exact free_of (s1.trans s2) n3
      · exact free_of (s1.trans (s2.trans s3)) n4
    clear things hv hw hav haw h56 h5 h4 h3 h2 h1 s1 s2 s3 s4 s5
    -- the four tries
    refine ⟨_, rfl, _, rfl, lenk 4 rfl (by decide), fun t1 m1 => ?_⟩
    generalize e1 : upd H7 t1 (.tup [v, .int 1, .str (Str.ofString "integer"), v]) = H8
    have s8 : Same H7 H8 := e1 ▸ Same.new m1
    have g1 : H8 t1 = some (.tup [v, .int 1, .str (Str.ofString "integer"), v]) := e1 ▸ upd_same
    refine ⟨_, rfl, _, rfl, _, rfl, lenk 4 rfl (by decide), fun t2 m2 => ?_⟩
    generalize e2 : upd H8 t2 (.tup [.int one, v, .str (Str.ofString "integer"), v]) = H9
    have s9 : Same H8 H9 := e2 ▸ Same.new m2
    have g2 : H9 t2 = some (.tup [.int one, v, .str (Str.ofString "integer"), v]) := e2 ▸ upd_same
    refine ⟨_, rfl, _, rfl, _, rfl, lenk 4 rfl (by decide), fun t3 m3 => ?_⟩
    generalize e3 : upd H9 t3 (.tup [v, w', .str (Str.ofString "integer"), v]) = H10
    have s10 : Same H9 H10 := e3 ▸ Same.new m3
    have g3 : H10 t3 = some (.tup [v, w', .str (Str.ofString "integer"), v]) := e3 ▸ upd_same
    refine ⟨_, rfl, _, rfl, lenk 4 rfl (by decide), fun t4 m4 => ?_⟩
    generalize e4 : upd H10 t4 (.tup [v, .int 0, .str (Str.ofString "integer"), v]) = H11
    have s11 : Same H10 H11 := e4 ▸ Same.new m4
    have g4 : H11 t4 = some (.tup [v, .int 0, .str (Str.ofString "integer"), v]) := e4 ▸ upd_same
    refine ⟨lenk 4 rfl (by decide), fun L mL => ?_⟩
    generalize e5 : upd H11 L (.lst [.ref t1, .ref t2, .ref t3, .ref t4]) = H12
    have s12 : Same H11 H12 := e5 ▸ Same.new mL
    have gL : H12 L = some (.lst [.ref t1, .ref t2, .ref t3, .ref t4]) := e5 ▸ upd_same
    have S12 : Same H7 H12 := s8.trans (s9.trans (s10.trans (s11.trans s12)))
    have tv12 := tv.same S12
    have items : ∀ (i : Nat) (x : V), [V.ref t1, .ref t2, .ref t3, .ref t4][i]? = some x → ∃ t u z, x = .ref t ∧ H12 t = some (.tup [u, z, .str (Str.ofString "integer"), v]) ∧ (u = v ∨ ((∃ j : Int, u = .int j) ∧ z = v)) := by
      intro i x hx
      match i, hx with
      | 0, hx => cases hx; exact ⟨t1, v, _, rfl, s12 _ _ (s11 _ _ (s10 _ _ (s9 _ _ g1))), .inl rfl⟩
      | 1, hx => cases hx; exact ⟨t2, _, _, rfl, s12 _ _ (s11 _ _ (s10 _ _ g2)), .inr ⟨⟨_, rfl⟩, rfl⟩⟩
      | 2, hx => cases hx; exact ⟨t3, v, _, rfl, s12 _ _ (s11 _ _ g3), .inl rfl⟩
      | 3, hx => cases hx; exact ⟨t4, v, _, rfl, s12 _ _ g4, .inl rfl⟩
      | (k + 4), hx => cases hx
    refine ⟨L, rfl, ⟨_, SqL.of gL⟩, for_it (walk_list (xs := [V.ref t1, .ref t2, .ref t3, .ref t4])) (fun i σ H' => Same H12 H' ∧ ∃ z5 z6 z7 z8, σ = [some (.ref b), some (.int one), some (.ref a5), some v, some w', z5, z6, z7, z8, none, none, none])
      ⟨Same.refl _, _, _, _, _, rfl⟩ (fun i σ H' _ pp => SqL.of (pp.1 _ _ gL)) (fun i x σ H' H'' hi pp yy => ?_) (fun σ H' pp => ?_)⟩
    · obtain ⟨s13, z5, z6, z7, z8, rfl⟩ := pp
      obtain ⟨rfl, hx⟩ := yy
      obtain ⟨t, u, z, rfl, ht, hc⟩ := items i x hx
      have tv13 := tv12.same s13
      obtain ⟨dv, dx, dk⟩ := tv13.dx (K := K)
      refine ⟨t, _, rfl, .inl (.inl (s13 _ _ ht)), rfl, _, _, rfl, _, _, rfl, _, _, rfl, _, _, rfl, rfl, ?_⟩
      refine ⟨_, rfl, _, rfl, _, _, rfl, .inr (.inr ⟨?_, fun p y Hc hz1 hz2 sc np hp => ?_⟩)⟩
      · rcases hc with rfl | ⟨⟨j, rfl⟩, rfl⟩
        · exact .inl tv13.ni
        · exact .inr ⟨j, rfl, tv13.ni⟩
      · have ey : y = v := by
          rcases hc with rfl | ⟨⟨j, rfl⟩, rfl⟩
          · exact hz1 tv13.ni
          · exact hz2 j rfl
        subst ey
        refine ⟨_, .list [.str (Str.ofString "integer"), dv], rfl, .lst (SqL.of hp) (.cons (.str _) (.cons (Dx.same sc dx) .nil)), told_fine dk, ?_⟩
        refine ⟨_, rfl, _, rfl, lenk 2 rfl (by decide), fun p2 np2 => ?_⟩
        have s14 := Same.new (o := .lst [.str (Str.ofString "integer"), y]) np2
        refine ⟨_, .list [.str (Str.ofString "integer"), dv], rfl, .lst (SqL.of upd_same) (.cons (.str _) (.cons (Dx.same (sc.trans s14) dx) .nil)), told_fine dk, ?_⟩
        generalize PyData.shown (.list [.str (Str.ofString "integer"), dv]) = tx
        refine ⟨rfl, _, rfl, ite2 (fun z => absurd z neT) (fun _ => ?_)⟩
        exact ⟨s13.trans (sc.trans s14), _, _, _, _, rfl⟩
    · obtain ⟨s13, z5, z6, z7, z8, rfl⟩ := pp
      have tv13 := tv12.same s13
      refine ⟨_, rfl, _, rfl, _, _, rfl, .inr (.inr ⟨.inr ⟨one, rfl, tv13.ni⟩, fun p y Hc hz1 hz2 sc np hp => ?_⟩)⟩
      have ey := hz2 one rfl
      subst ey
      have tc := tv13.same sc
      have FC : Fr b H Hc := F7.trans (Fr.of_same (S12.trans (s13.trans sc)))
      have bc : Bag Hc b (n + 2) := b7.same (S12.trans (s13.trans sc))
      have bne : ∀ {l : Addr} {o : HO}, Hc l = some o → (∀ x y z : Int, o ≠ .lst [.int x, .int y, .int z]) → l ≠ b := fun e ho z => by
        subst z
        obtain ⟨x, y, z, e0, _⟩ := bc
        rw [e0] at e
        exact ho x y z (Option.some.inj e).symm
      let S : L2.St := [some (.ref b), some (.int one), some (.ref a5), some y, some w', z5, z6, z7, z8, some (.ref p), none, none]
      let Mid5 : L2.St → Hp → Prop := fun σ' H' => σ' = S ∧ Fr b H H' ∧ Bag H' b (n + 2) ∧ H' p = some (.lst [.str (Str.ofString "integer"), y]) ∧
        ((∃ t dd, TyX K H' y t ∧ PySem.W.kitOne K t (.type "dict") = some false ∧ Dx K H' y dd ∧ OkD 200 2 dd) ∨ (∃ k, y = .ref k ∧ H' k = some (.dK [])) ∨ (∃ k, y = .ref k ∧ H' k = some (.dK [(Sum.inr (Str.ofString "a"), .int 1)])))
      refine ⟨Mid5, ?_, fun σ' H' m5 => ?_⟩
      · cases tc with
        | non => exact ⟨_, rfl, _, _, _, _, _, rfl, .ty _, .base .non, kit_ty (show kitB "NoneType" "list" = some false by decide +kernel), _, rfl, rfl, FC, bc, hp, .inl ⟨_, _, .base .non, kit_ty (show kitB "NoneType" "dict" = some false by decide +kernel), .non, okd_none.mono (by decide) (by decide)⟩⟩
        | bl c => exact ⟨_, rfl, _, _, _, _, _, rfl, .ty _, .base (.bl _), kit_ty (show kitB "bool" "list" = some false by decide +kernel), _, rfl, rfl, FC, bc, hp, .inl ⟨_, _, .base (.bl _), kit_ty (show kitB "bool" "dict" = some false by decide +kernel), .bl _, (okd_bool _).mono (by decide) (by decide)⟩⟩
        | s1 => exact ⟨_, rfl, _, _, _, _, _, rfl, .ty _, .base (.str _), kit_ty (show kitB "str" "list" = some false by decide +kernel), _, rfl, rfl, FC, bc, hp, .inl ⟨_, _, .base (.str _), kit_ty (show kitB "str" "dict" = some false by decide +kernel), .str _, by constructor <;> decide +kernel⟩⟩
        | s0 => exact ⟨_, rfl, _, _, _, _, _, rfl, .ty _, .base (.str _), kit_ty (show kitB "str" "list" = some false by decide +kernel), _, rfl, rfl, FC, bc, hp, .inl ⟨_, _, .base (.str _), kit_ty (show kitB "str" "dict" = some false by decide +kernel), .str _, by constructor <;> decide +kernel⟩⟩
        | tup e => exact ⟨_, rfl, _, _, _, _, _, rfl, .ty _, .base (.tup e), kit_ty (show kitB "tuple" "list" = some false by decide +kernel), _, rfl, rfl, FC, bc, hp, .inl ⟨_, .tuple [.int 1], .base (.tup e), kit_ty (show kitB "tuple" "dict" = some false by decide +kernel), .tup (.inl (.inl e)) (.cons (.int 1) .nil), by constructor <;> decide +kernel⟩⟩
        | d0 e => exact ⟨_, rfl, _, _, _, _, _, rfl, .ty _, .base (.dK e), kit_ty (show kitB "dict" "list" = some false by decide +kernel), _, rfl, rfl, FC, bc, hp, .inr (.inl ⟨_, rfl, e⟩)⟩
        | d1 e => exact ⟨_, rfl, _, _, _, _, _, rfl, .ty _, .base (.dK e), kit_ty (show kitB "dict" "list" = some false by decide +kernel), _, rfl, rfl, FC, bc, hp, .inr (.inr ⟨_, rfl, e⟩)⟩
        | @lst l e =>
          have nl := fresh l rfl
          have lb := bne e (by simp)
          have pl : p ≠ l := fun z => by
            rw [z, e] at hp
            simp at hp
          refine ⟨_, rfl, _, _, _, _, _, rfl, .ty _, .base (.lst e), kit_ty (show kitB "list" "list" = some true by decide +kernel), _, rfl, _, rfl, .inl ⟨rfl, _, SqL.of e⟩, l, [.int 1], .int 2, rfl, rfl, e, (by decide), rfl, FC.upd_p nl, bc.upd (Ne.symm lb), (upd_ne pl).trans hp, .inl ⟨_, .list [.int 1, .int 2], .base (.lst upd_same), kit_ty (show kitB "list" "dict" = some false by decide +kernel), .lst (SqL.of upd_same) (.cons (.int 1) (.cons (.int 2) .nil)), by constructor <;> decide +kernel⟩⟩
      · obtain ⟨rfl, F5, b5, hp5, m5⟩ := m5
        let Mid6 : L2.St → Hp → Prop := fun σ' H' => σ' = S ∧ Fr b H H' ∧ Bag H' b (n + 2) ∧ H' p = some (.lst [.str (Str.ofString "integer"), y]) ∧ ∃ dd, Dx K H' y dd ∧ OkD 200 2 dd
        refine ⟨Mid6, ?_, fun σ' H'' m6 => ?_⟩
        · have bne' : ∀ {l : Addr} {ks : List (Key × V)}, H' l = some (.dK ks) → l ≠ b := fun e z => by
            subst z
            obtain ⟨x, y, z, e0, _⟩ := b5
            rw [e0] at e
            cases e
          have pne' : ∀ {l : Addr} {ks : List (Key × V)}, H' l = some (.dK ks) → p ≠ l := fun e z => by
            subst z
            rw [hp5] at e
            cases e
          rcases m5 with ⟨t, dd, ty, kd, dx, dk⟩ | ⟨k, rfl, e⟩ | ⟨k, rfl, e⟩
          · exact ⟨_, rfl, _, _, t, _, _, rfl, .ty _, ty, kd, _, rfl, rfl, F5, b5, hp5, dd, dx, dk⟩
          · exact ⟨_, rfl, _, _, _, _, _, rfl, .ty _, .base (.dK e), kit_ty (show kitB "dict" "dict" = some true by decide +kernel), _, rfl, _, rfl, k, _, rfl, .inl ⟨[], Sum.inr (Str.ofString "b"), e, rfl, by decide, rfl⟩, rfl, F5.upd_p (fresh k rfl), b5.upd (Ne.symm (bne' e)), (upd_ne (pne' e)).trans hp5,
              .dict [(.str (Str.ofString "b"), .int 2)], .dic (.inl upd_same) rfl (.cons (.int 2) .nil), by constructor <;> decide +kernel⟩
          · exact ⟨_, rfl, _, _, _, _, _, rfl, .ty _, .base (.dK e), kit_ty (show kitB "dict" "dict" = some true by decide +kernel), _, rfl, _, rfl, k, _, rfl, .inl ⟨[(Sum.inr (Str.ofString "a"), .int 1)], Sum.inr (Str.ofString "b"), e, rfl, by decide, rfl⟩, rfl, F5.upd_p (fresh k rfl), b5.upd (Ne.symm (bne' e)), (upd_ne (pne' e)).trans hp5,
              .dict [(.str (Str.ofString "a"), .int 1), (.str (Str.ofString "b"), .int 2)], .dic (.inl upd_same) rfl (.cons (.int 1) (.cons (.int 2) .nil)), by constructor <;> decide +kernel⟩
        · obtain ⟨rfl, F6, b6', hp6, dd, dx, dk⟩ := m6
          refine mk_ok (by decide) (by decide +kernel) (low_self (n := 1) (d := 2) (by decide) (by decide)) fun hf H20 s20 nh rh => ?_
          obtain ⟨dh, eh⟩ := id rh
          have nih : NotI K H20 (.ref hf) := ⟨_, T.ow_Ratio.ty eh, .inl (T.ow_Ratio.to "int" (by simp))⟩
          refine ⟨_, rfl, _, rfl, _, _, rfl, .inr (.inr ⟨.inl nih, fun r z H21 hz1 hz2 s21 nr hr => ?_⟩)⟩
          have ez := hz1 nih
          subst ez
          have s26 := s20.trans s21
          have dx21 := Dx.same s26 dx
          refine ⟨_, rfl, _, .list [.str (Str.ofString "integer"), dd], rfl, .lst (SqL.of (s26 _ _ hp6)) (.cons (.str _) (.cons dx21 .nil)), told_fine dk, ?_⟩
          refine ⟨_, rfl, lenk 2 rfl (by decide), fun k1 nk1 => ?_⟩
          have sk1 := Same.new (o := .lst [.str (Str.ofString "integer"), y]) nk1
          refine ⟨_, .list [.str (Str.ofString "integer"), dd], rfl, .lst (SqL.of upd_same) (.cons (.str _) (.cons (Dx.same sk1 dx21) .nil)), told_fine dk, ?_⟩
          generalize PyData.shown (.list [.str (Str.ofString "integer"), dd]) = tx
          generalize upd H21 k1 (.lst [.str (Str.ofString "integer"), y]) = H22 at sk1 ⊢
          have hr22 := sk1 _ _ hr
          have rh22 := rh.same (s21.trans sk1)
          obtain ⟨dh', eh'⟩ := id rh22
          refine ⟨rfl, _, rfl, ?_⟩
          rw [if_pos (by simp)]
          refine ⟨_, rfl, r, _, _, _, rfl, rfl, SqL.of hr22, rfl, rfl, _, rfl, ?_⟩
          rw [if_pos (by simp)]
          refine ⟨_, rfl, r, _, _, _, rfl, rfl, SqL.of hr22, rfl, _, rfl, hf, dh', _, _, rfl, eh', T.ow_Ratio.ty eh', T.ow_Ratio.nm, hf, _, 1, 2, rfl, rh22, .inl ⟨hf, 1, 2, rfl, rh22, _, rfl, ?_⟩⟩
          exact q _ (F6.trans (Fr.of_same (s26.trans sk1))) ((b6'.same (s26.trans sk1)).mono (by omega))

end K03
namespace K03
open PySem PySem.Spec PyProof.Rows L2 TL
theorem same_fr {H H1 H' : Hp} {p : Addr} (s : Same H H1) (np : H p = none) (f : Fr p H1 H') : Same H H' := fun a o e => f a o (ne_of_none e np) (s a o e)
theorem ratio_fine {i : Int} (h : i.natAbs < 10 ^ 40) : Fine (.list [.str (Str.ofString "ratio"), .tuple [.int i, .int 0]]) :=
  (okd_list (B := 2000) (k := 1) (m := 2) (allC ((okd_str (n := 5) (cpOk_of _) (by decide)).mono (by decide) (by decide)) (all1 ((okd_tuple (B := 501) (k := 0) (m := 2) (allC (okd_int (b40 h).1) (all1 (okd_int (by decide +kernel)))) (by simp)).mono (by decide) (by decide)))) (by simp)).fine (by decide) (by decide)
theorem ok_law {P : Program} {w : World} {K : PySem.W.Frag} {mg : Str → Option Value} {base : Heap} (T : Txt P K mg) : FnG P w K mg base CX0 6 T.f_law T.fd_law ["_law_script"] (sp_law K) := by
  refine T.F_law.okG sc_law (fun vs H Q E h => ?_) (fun cdv A outer s H vs Q E hr hG h => ?_)
  · obtain ⟨_, _, rfl, _⟩ := h; rfl
  · obtain ⟨l, ns, rfl, hS, hlen, q⟩ := h
    refine ⟨_, PSs.nox (pss_cons (ps_for PassesOwn.never rfl (pi_range1 (by rfl) T.n_range (pa_cons (pe_callB (call_max2 rfl) (by rfl) T.n_max (by decide +kernel) (pa_cons pe_int (pa_cons (pe_callB (call_min2 rfl) (by rfl) T.n_min (by decide +kernel) (pa_cons (pe_callB call_len_seq (by rfl) T.n_len (by decide +kernel) (pa_cons (pv 0) pa_nil)) (pa_cons pe_int pa_nil))) pa_nil))) pa_nil)) (pg_name (i := 1) sc_law.nd rfl (Or.inl rfl)) (pss_cons (ps_set (i := 2) sc_law.nd rfl (Or.inl rfl) (pe_call (ok_l_box T) (hr.mono (by decide)) (by rfl) T.g_l_box T.F_l_box.kp (b_l_box T) .nil pass0 (pa_cons (pe_call (ok_l_cell T) (hr.mono (by decide)) (by rfl) T.g_l_cell T.F_l_cell.kp (b_l_cell T) .nil pass0 (pa_cons (pv 0) (pa_cons (pv 1) pa_nil))) pa_nil)))
      (pss_one (ps_for PassesOwn.never rfl (pi_range1 (by rfl) T.n_range (pa_cons pe_int pa_nil)) (pg_name (i := 3) sc_law.nd rfl (Or.inl rfl)) (pss_cons (ps_asg (pe_call (ok_l_pair T) (hr.mono (by decide)) (by rfl) T.g_l_pair T.F_l_pair.kp (b_l_pair T) .nil pass0 (pa_cons (pv 2) pa_nil)) (pg_tup rfl (pgs_cons (pg_name (i := 4) sc_law.nd rfl (Or.inl rfl)) (pgs_cons (pg_name (i := 5) sc_law.nd rfl (Or.inl rfl)) pgs_nil))))
      (pss_cons (ps_if (PW.pt (pw_and (pt_cmpR op_eq (pv 5) pe_int (nomark _)) (pw_and1 (pt_cmpR op_ne (pe_callB (show CallR _ _ (rReprD K) from call_reprD hG hr.units T.sm) (by rfl) T.n_repr (by decide +kernel) (pa_cons (pe_call (ok_l_caught T) (hr.mono (by decide)) (by rfl) T.g_l_caught T.F_l_caught.kp (b_l_caught T) .nil pass0 (pa_cons (pv 4) (pa_cons (pv 5) pa_nil))) pa_nil)) (pe_callB (show CallR _ _ (rReprD K) from call_reprD hG hr.units T.sm) (by rfl) T.n_repr (by decide +kernel) (pa_cons (pe_lst (pa_cons pe_str (pa_cons (pe_tup (pa_cons (pv 4) (pa_cons pe_int pa_nil))) pa_nil))) pa_nil)) (nomark _))))) (pss_one (ps_ret pe_bl)) pss_nil)
      (pss_cons (ps_if (PW.pt (pw_and (pt_cmpR op_ne (pv 5) pe_int (nomark _)) (pw_and1 (pt_not (pt_val (pe_callG hG (ok_l_right T) (hr.mono (by decide)) (by rfl) T.g_l_right T.F_l_right.kp (b_l_right T) .nil pass0 (pa_cons (pv 4) (pa_cons (pv 5) pa_nil)))))))) (pss_one (ps_ret pe_bl)) pss_nil)
      (pss_one (ps_if (pt_not (pt_val (pe_callG hG (ok_l_refused_right T) (hr.mono (by decide)) (by rfl) T.g_l_refused_right T.F_l_refused_right.kp (b_l_refused_right T) .nil pass0 (pa_cons (pv 2) (pa_cons (pv 4) pa_nil))))) (pss_one (ps_ret pe_bl)) pss_nil)))))))))
      (pss_one (ps_ret pe_bl))), ?_⟩
    refine ⟨_, rfl, l, _, rfl, .inl hS, _, _, rfl, _, _, rfl, _, rfl, ?_, ?_, for_it walk_range (fun i σ H' => Same H H' ∧ ∃ a b c d e, σ = [some (.ref l), a, b, c, d, e]) ⟨Same.refl H, _, _, _, _, _, rfl⟩ (fun _ _ _ _ _ => trivial) (fun i x σ H' H'' hi' pp yy => ?_) (fun σ H' pp => q H')⟩
    · split <;> omega
    · rw [List.length_map]; split <;> split <;> omega
    obtain ⟨S0, xa, xb, xc, xd, xe, rfl⟩ := pp
    obtain ⟨rfl, rfl⟩ := yy
    refine ⟨_, rfl, _, rfl, l, ns, _, rfl, S0.seq hS, by omega, fun cv => ?_⟩
    refine ⟨_, rfl, fun p H1 s1 np hB => ?_⟩
    have nH : H p = none := free_of S0 np
    have S1 := S0.trans s1
    refine ⟨6, rfl, by decide, by decide, for_it walk_range (fun j σ H' => Fr p H1 H' ∧ Bag H' p (30 * j) ∧ ∃ a b c, σ = [some (.ref l), some (.int (0 + (i : Nat))), some (.ref p), a, b, c]) ⟨Fr.refl p H1, hB, _, _, _, rfl⟩ (fun _ _ _ _ _ => trivial) (fun j x σ H' H'' hj pp yy => ?_) (fun σ H' pp => ?_)⟩
    · obtain ⟨F0, B0, xa, xb, xc, rfl⟩ := pp
      obtain ⟨rfl, rfl⟩ := yy
      have hj6 : j < 6 := by omega
      refine ⟨_, rfl, p, _, rfl, B0, by omega, fun a b r H2 f2 b2 rp ha hb hr2 => ?_⟩
      refine ⟨r, _, rfl, .inl (.inl hr2), rfl, _, _, rfl, _, _, rfl, rfl, ?_⟩
      by_cases hz : b = 0
      · subst hz
        refine ⟨_, rfl, rfl, _, rfl, ite2 (fun _ => ?_) (fun z => absurd (decide_eq_true rfl) z)⟩
        refine ⟨_, rfl, _, rfl, _, _, rfl, .inr (.inl ⟨a, rfl, rfl, fun p2 r2 H3 s3 np2 nr2 hr3 hp2 => ?_⟩)⟩
        refine ⟨_, .list [.str (Str.ofString "ratio"), .tuple [.int a, .int 0]], rfl, .lst (SqL.of hp2) (.cons (.str _) (.cons (.tup (.inl (.inl hr3)) (.cons (.int a) (.cons (.int 0) .nil))) .nil)), ratio_fine ha, ?_⟩
        refine ⟨_, rfl, lenk 2 rfl (by decide), fun t nt => ⟨lenk 2 rfl (by decide), fun u nu => ?_⟩⟩
        have st := Same.new (o := .tup [.int a, .int 0]) nt
        have su := Same.new (o := .lst [.str (Str.ofString "ratio"), .ref t]) nu
        have ht : upd H3 t (.tup [.int a, .int 0]) t = some (.tup [.int a, .int 0]) := upd_same
        refine ⟨_, .list [.str (Str.ofString "ratio"), .tuple [.int a, .int 0]], rfl, .lst (SqL.of upd_same) (.cons (.str _) (.cons (.tup (.inl (.inl (su _ _ ht))) (.cons (.int a) (.cons (.int 0) .nil))) .nil)), ratio_fine ha, ?_⟩
        generalize PyData.shown (.list [.str (Str.ofString "ratio"), .tuple [.int a, .int 0]]) = tx
        refine ⟨rfl, _, rfl, ite2 (fun z => absurd z neT) (fun _ => ?_)⟩
        refine ⟨_, rfl, rfl, _, rfl, ite2 (fun z => absurd z (by simp)) (fun _ => ?_)⟩
        have S4 := (s3.trans st).trans su
        refine ⟨_, rfl, _, rfl, p, _, a, rfl, b2.same S4, by omega, ha, fun H5 f5 b5 => ⟨_, rfl, ?_⟩⟩
        exact ⟨((F0.trans f2).trans (Fr.of_same S4)).trans f5, b5.mono (by omega), _, _, _, rfl⟩
      · refine ⟨_, rfl, rfl, _, rfl, ite2 (fun z => absurd (V.int.inj (of_decide_eq_true z)) hz) (fun _ => ?_)⟩
        refine ⟨_, rfl, rfl, _, rfl, ite2 (fun _ => ?_) (fun z => absurd (show (!decide (V.int b = V.int 0)) = true by rw [decide_eq_false fun y => hz (V.int.inj y)]; rfl) z)⟩
        refine ⟨_, rfl, _, rfl, a, b, rfl, hz, ha, hb, fun H3 s3 => ⟨_, rfl, ?_⟩⟩
        refine ⟨_, rfl, _, rfl, p, _, a, rfl, b2.same s3, by omega, ha, fun H5 f5 b5 => ⟨_, rfl, ?_⟩⟩
        exact ⟨((F0.trans f2).trans (Fr.of_same s3)).trans f5, b5.mono (by omega), _, _, _, rfl⟩
    · obtain ⟨F0, B0, xa, xb, xc, rfl⟩ := pp
      exact ⟨same_fr S1 nH F0, _, _, _, _, _, rfl⟩

end K03
namespace K03
open PySem PySem.Spec PyProof.Rows L2 TL
def d_is_any_integer : He.DefD := ⟨("is_any_integer", none), "is_any_integer", "is_any_integer", defArgs s_is_any_integer, defBody s_is_any_integer, defScope s_is_any_integer, [], []⟩
def d_Ratio_init : He.DefD := ⟨("Ratio", some "__init__"), "__init__", "Ratio.__init__", defArgs s_Ratio_init, defBody s_Ratio_init, defScope s_Ratio_init, [.int 1], []⟩
def d_Ratio_num : He.DefD := ⟨("Ratio", some "num"), "num", "Ratio.num", defArgs s_Ratio_num, defBody s_Ratio_num, defScope s_Ratio_num, [], []⟩
def d_Ratio_den : He.DefD := ⟨("Ratio", some "den"), "den", "Ratio.den", defArgs s_Ratio_den, defBody s_Ratio_den, defScope s_Ratio_den, [], []⟩
def d_Ratio_sign : He.DefD := ⟨("Ratio", some "sign"), "sign", "Ratio.sign", defArgs s_Ratio_sign, defBody s_Ratio_sign, defScope s_Ratio_sign, [], []⟩
def d_Ratio_eq : He.DefD := ⟨("Ratio", some "__eq__"), "__eq__", "Ratio.__eq__", defArgs s_Ratio_eq, defBody s_Ratio_eq, defScope s_Ratio_eq, [], []⟩
def d_Ratio_str : He.DefD := ⟨("Ratio", some "__str__"), "__str__", "Ratio.__str__", defArgs s_Ratio_str, defBody s_Ratio_str, defScope s_Ratio_str, [], []⟩
def d_Ratio_add : He.DefD := ⟨("Ratio", some "add"), "add", "Ratio.add", defArgs s_Ratio_add, defBody s_Ratio_add, defScope s_Ratio_add, [], []⟩
def d_Ratio_multiply : He.DefD := ⟨("Ratio", some "multiply"), "multiply", "Ratio.multiply", defArgs s_Ratio_multiply, defBody s_Ratio_multiply, defScope s_Ratio_multiply, [], []⟩
def d__check_ratio : He.DefD := ⟨("_check_ratio", none), "_check_ratio", "_check_ratio", defArgs s__check_ratio, defBody s__check_ratio, defScope s__check_ratio, [], []⟩
def d_l_cell : He.DefD := ⟨("_law_cell", none), "_law_cell", "_law_cell", defArgs s_l_cell, defBody s_l_cell, defScope s_l_cell, [], []⟩
def d_l_box : He.DefD := ⟨("_law_box", none), "_law_box", "_law_box", defArgs s_l_box, defBody s_l_box, defScope s_l_box, [], []⟩
def d_l_take : He.DefD := ⟨("_law_take", none), "_law_take", "_law_take", defArgs s_l_take, defBody s_l_take, defScope s_l_take, [], []⟩
def d_l_divisor : He.DefD := ⟨("_law_divisor", none), "_law_divisor", "_law_divisor", defArgs s_l_divisor, defBody s_l_divisor, defScope s_l_divisor, [], []⟩
def d_l_number : He.DefD := ⟨("_law_number", none), "_law_number", "_law_number", defArgs s_l_number, defBody s_l_number, defScope s_l_number, [], []⟩
def d_l_pair : He.DefD := ⟨("_law_pair", none), "_law_pair", "_law_pair", defArgs s_l_pair, defBody s_l_pair, defScope s_l_pair, [], []⟩
def d_l_caught : He.DefD := ⟨("_law_caught", none), "_law_caught", "_law_caught", defArgs s_l_caught, defBody s_l_caught, defScope s_l_caught, [], []⟩
def d_l_right : He.DefD := ⟨("_law_right", none), "_law_right", "_law_right", defArgs s_l_right, defBody s_l_right, defScope s_l_right, [], []⟩
def d_l_refused_right : He.DefD := ⟨("_law_refused_right", none), "_law_refused_right", "_law_refused_right", defArgs s_l_refused_right, defBody s_l_refused_right, defScope s_l_refused_right, [], []⟩
def d_law : He.DefD := ⟨("law", none), "law", "law", defArgs s_law, defBody s_law, defScope s_law, [], []⟩
def fn : List He.DefD := [d_is_any_integer, d_Ratio_init, d_Ratio_num, d_Ratio_den, d_Ratio_sign, d_Ratio_eq, d_Ratio_str, d_Ratio_add, d_Ratio_multiply, d__check_ratio, d_l_cell, d_l_box, d_l_take, d_l_divisor, d_l_number, d_l_pair, d_l_caught, d_l_right, d_l_refused_right, d_law]
def fa : List He.Fa := [.glo "is_any_integer", .glo "_check_ratio", .glo "_law_cell", .glo "_law_box", .glo "_law_take", .glo "_law_divisor", .glo "_law_number", .glo "_law_pair", .glo "_law_caught", .glo "_law_right", .glo "_law_refused_right", .glo "law", .glo "Ratio", .meth "Ratio" "num", .meth "Ratio" "den", .meth "Ratio" "sign", .meth "Ratio" "__eq__", .meth "Ratio" "__str__", .meth "Ratio" "add", .meth "Ratio" "multiply", .free "abs", .free "bool", .free "dict", .free "int", .free "isinstance", .free "len", .free "list", .free "max", .free "min", .free "range", .free "repr", .free "str", .cls "Ratio", .mkr "Ratio", .noat "Ratio" "_num", .noat "Ratio" "_den", .exm "InvalidInteger" "InvalidInteger" true, .exm "InvalidRatio" "InvalidInteger" false, .exm "InvalidRatio" "InvalidRatio" true]
abbrev R : PySem.W.OpenRow := PySem.W.OpenLaw.row PySem.Challenge.rw_resampler_k03_ratios_made
def x_InvalidInteger : PySem.EXV.ExD := PySem.EXV.exdOf "InvalidInteger" "InvalidInteger.__init__" "value" "not an integer in the range that is allowed here" (inClass (top 6) 0)
def x_InvalidRatio : PySem.EXV.ExD := PySem.EXV.exdOf "InvalidRatio" "InvalidRatio.__init__" "value" "not a Ratio that is allowed here" (inClass (top 7) 0)
def exs : List PySem.EXV.ExD := [x_InvalidInteger, x_InvalidRatio]
def tests : List (PySem.W.Frag → Bool) := [(fun K => ownB K "Ratio"), (fun K => He.eqO (PySem.W.nsIn K mainGlobals "gcd") (some (some (.builtin "math.gcd")))), PySem.EXV.smB]
def file : Str := PySem.Challenge.pw_resampler_k03_ratios_made.main.file
abbrev hk : PySem.W.Hook := PySem.EXV.hookX 5 file tests fa fn exs
def ob (s : PySem.W.SharedT) : PySem.EXV.AlX := PySem.EXV.obsXG 5 file tests fa fn exs (HandSHeadRun.getT s)
theorem ob_eq (s : PySem.W.SharedT) : ob s = hk.obs s.abs := PySem.EXV.obsXG_eq (HandSHeadRun.getT_eq s)
def loose : List Str := ["_wall", "ResampleError", "MissingError", "StateError", "InvalidInteger", "InvalidRatio", "is_any_integer", "Ratio", "_check_ratio", "_law_cell", "_law_box", "_law_take", "_law_divisor", "_law_number", "_law_pair", "_law_caught", "_law_right", "_law_refused_right"]
theorem run (w : World) : HandSHeadRun.RunEqI R (PySem.W.view R.prog [0, 23]) hk ob 6000 loose w := by
  unfold HandSHeadRun.RunEqI
  kernel_rfl
theorem facts {w : World} {K : PySem.W.Frag} {h : Heap} {mg : Str → Option Value} {f : Addr} (X : K.In h) (G : h.Ns mainGlobals mg) (hfa : mg ("law" : Str) = some (.ref f)) (c : PySem.EXV.SaysX file tests fa fn exs K) :
    ∃ fd : FuncData, (∀ (s : Shared) (v : Value), BindsTo s fd ⟨[v], []⟩ [("_law_script", v)]) ∧ ∀ base : Heap, K.In base → base.Ns mainGlobals mg → FnG R.prog w K mg base CX0 6 f fd ["_law_script"] (sp_law K) := by
  obtain ⟨fd0, F0⟩ := c.def_ 0 (d := d_is_any_integer) rfl
  obtain ⟨fd1, F1⟩ := c.def_ 1 (d := d_Ratio_init) rfl
  obtain ⟨fd2, F2⟩ := c.def_ 2 (d := d_Ratio_num) rfl
  obtain ⟨fd3, F3⟩ := c.def_ 3 (d := d_Ratio_den) rfl
  obtain ⟨fd4, F4⟩ := c.def_ 4 (d := d_Ratio_sign) rfl
  obtain ⟨fd5, F5⟩ := c.def_ 5 (d := d_Ratio_eq) rfl
  obtain ⟨fd6, F6⟩ := c.def_ 6 (d := d_Ratio_str) rfl
  obtain ⟨fd7, F7⟩ := c.def_ 7 (d := d_Ratio_add) rfl
  obtain ⟨fd8, F8⟩ := c.def_ 8 (d := d_Ratio_multiply) rfl
  obtain ⟨fd9, F9⟩ := c.def_ 9 (d := d__check_ratio) rfl
  obtain ⟨fd10, F10⟩ := c.def_ 10 (d := d_l_cell) rfl
  obtain ⟨fd11, F11⟩ := c.def_ 11 (d := d_l_box) rfl
  obtain ⟨fd12, F12⟩ := c.def_ 12 (d := d_l_take) rfl
  obtain ⟨fd13, F13⟩ := c.def_ 13 (d := d_l_divisor) rfl
  obtain ⟨fd14, F14⟩ := c.def_ 14 (d := d_l_number) rfl
  obtain ⟨fd15, F15⟩ := c.def_ 15 (d := d_l_pair) rfl
  obtain ⟨fd16, F16⟩ := c.def_ 16 (d := d_l_caught) rfl
  obtain ⟨fd17, F17⟩ := c.def_ 17 (d := d_l_right) rfl
  obtain ⟨fd18, F18⟩ := c.def_ 18 (d := d_l_refused_right) rfl
  obtain ⟨fd19, F19⟩ := c.def_ 19 (d := d_law) rfl
  have e := hfa.symm.trans (He.glo_ok X G (c.fact 11 (f := .glo "law") rfl))
  cases e
  have b := FunD.bindsA (ps := ["_law_script"]) F19 fun _ _ _ _ _ _ us hl => match us, hl with | [_], _ => rfl
  let T : Txt R.prog K mg := {
    C_Ratio := _, g_Ratio := He.glo_ok X G (c.fact 12 (f := .glo "Ratio") rfl),
    C_InvalidInteger := _, I_InvalidInteger := _, x_InvalidInteger := c.exc X G rfl (by kernel_rfl) 0 (d := x_InvalidInteger) rfl (fun _ _ _ _ _ _ _ _ => rfl),
    C_InvalidRatio := _, I_InvalidRatio := _, x_InvalidRatio := c.exc X G rfl (by kernel_rfl) 1 (d := x_InvalidRatio) rfl (fun _ _ _ _ _ _ _ _ => rfl),
    f_is_any_integer := _, fd_is_any_integer := fd0, F_is_any_integer := F0, g_is_any_integer := He.glo_ok X G (c.fact 0 (f := .glo "is_any_integer") rfl),
    f_Ratio_init := _, fd_Ratio_init := fd1, F_Ratio_init := F1,
    f_Ratio_num := _, fd_Ratio_num := fd2, F_Ratio_num := F2, m_Ratio_num := He.meth_ok (c.fact 13 (f := .meth "Ratio" "num") rfl),
    f_Ratio_den := _, fd_Ratio_den := fd3, F_Ratio_den := F3, m_Ratio_den := He.meth_ok (c.fact 14 (f := .meth "Ratio" "den") rfl),
    f_Ratio_sign := _, fd_Ratio_sign := fd4, F_Ratio_sign := F4, m_Ratio_sign := He.meth_ok (c.fact 15 (f := .meth "Ratio" "sign") rfl),
    f_Ratio_eq := _, fd_Ratio_eq := fd5, F_Ratio_eq := F5, m_Ratio_eq := He.meth_ok (c.fact 16 (f := .meth "Ratio" "__eq__") rfl),
    f_Ratio_str := _, fd_Ratio_str := fd6, F_Ratio_str := F6, m_Ratio_str := He.meth_ok (c.fact 17 (f := .meth "Ratio" "__str__") rfl),
    f_Ratio_add := _, fd_Ratio_add := fd7, F_Ratio_add := F7, m_Ratio_add := He.meth_ok (c.fact 18 (f := .meth "Ratio" "add") rfl),
    f_Ratio_multiply := _, fd_Ratio_multiply := fd8, F_Ratio_multiply := F8, m_Ratio_multiply := He.meth_ok (c.fact 19 (f := .meth "Ratio" "multiply") rfl),
    f__check_ratio := _, fd__check_ratio := fd9, F__check_ratio := F9, g__check_ratio := He.glo_ok X G (c.fact 1 (f := .glo "_check_ratio") rfl),
    f_l_cell := _, fd_l_cell := fd10, F_l_cell := F10, g_l_cell := He.glo_ok X G (c.fact 2 (f := .glo "_law_cell") rfl),
    f_l_box := _, fd_l_box := fd11, F_l_box := F11, g_l_box := He.glo_ok X G (c.fact 3 (f := .glo "_law_box") rfl),
    f_l_take := _, fd_l_take := fd12, F_l_take := F12, g_l_take := He.glo_ok X G (c.fact 4 (f := .glo "_law_take") rfl),
    f_l_divisor := _, fd_l_divisor := fd13, F_l_divisor := F13, g_l_divisor := He.glo_ok X G (c.fact 5 (f := .glo "_law_divisor") rfl),
    f_l_number := _, fd_l_number := fd14, F_l_number := F14, g_l_number := He.glo_ok X G (c.fact 6 (f := .glo "_law_number") rfl),
    f_l_pair := _, fd_l_pair := fd15, F_l_pair := F15, g_l_pair := He.glo_ok X G (c.fact 7 (f := .glo "_law_pair") rfl),
    f_l_caught := _, fd_l_caught := fd16, F_l_caught := F16, g_l_caught := He.glo_ok X G (c.fact 8 (f := .glo "_law_caught") rfl),
    f_l_right := _, fd_l_right := fd17, F_l_right := F17, g_l_right := He.glo_ok X G (c.fact 9 (f := .glo "_law_right") rfl),
    f_l_refused_right := _, fd_l_refused_right := fd18, F_l_refused_right := F18, g_l_refused_right := He.glo_ok X G (c.fact 10 (f := .glo "_law_refused_right") rfl),
    f_law := _, fd_law := fd19, F_law := F19, g_law := He.glo_ok X G (c.fact 11 (f := .glo "law") rfl),
    cl_Ratio := He.cls_ok (c.fact 32 (f := .cls "Ratio") rfl),
    mk_Ratio := He.mkr_ok (c.fact 33 (f := .mkr "Ratio") rfl),
    na_Ratio__num := He.noat_ok (c.fact 34 (f := .noat "Ratio" "_num") rfl),
    na_Ratio__den := He.noat_ok (c.fact 35 (f := .noat "Ratio" "_den") rfl),
    ow_Ratio := ownB_ok (c.test 0 (b := (fun K => ownB K "Ratio")) rfl),
    exm_InvalidInteger_InvalidInteger := He.exm_ok (c.fact 36 (f := .exm "InvalidInteger" "InvalidInteger" true) rfl),
    exm_InvalidRatio_InvalidInteger := He.exm_ok (c.fact 37 (f := .exm "InvalidRatio" "InvalidInteger" false) rfl),
    exm_InvalidRatio_InvalidRatio := He.exm_ok (c.fact 38 (f := .exm "InvalidRatio" "InvalidRatio" true) rfl),
    g_gcd := PySem.W.mg_of X G (He.eqO_ok (c.test 1 (b := (fun K => He.eqO (PySem.W.nsIn K mainGlobals "gcd") (some (some (.builtin "math.gcd"))))) rfl)),
    sm := PySem.EXV.smB_ok (c.test 2 (b := PySem.EXV.smB) rfl),
    n_abs := He.free_ok X G (c.fact 20 (f := .free "abs") rfl),
    n_bool := He.free_ok X G (c.fact 21 (f := .free "bool") rfl),
    n_dict := He.free_ok X G (c.fact 22 (f := .free "dict") rfl),
    n_int := He.free_ok X G (c.fact 23 (f := .free "int") rfl),
    n_isinstance := He.free_ok X G (c.fact 24 (f := .free "isinstance") rfl),
    n_len := He.free_ok X G (c.fact 25 (f := .free "len") rfl),
    n_list := He.free_ok X G (c.fact 26 (f := .free "list") rfl),
    n_max := He.free_ok X G (c.fact 27 (f := .free "max") rfl),
    n_min := He.free_ok X G (c.fact 28 (f := .free "min") rfl),
    n_range := He.free_ok X G (c.fact 29 (f := .free "range") rfl),
    n_repr := He.free_ok X G (c.fact 30 (f := .free "repr") rfl),
    n_str := He.free_ok X G (c.fact 31 (f := .free "str") rfl) }
  exact ⟨fd19, fun s v => b s [v] rfl, fun base _ _ => ok_law T⟩

end K03
open PySem PySem.W PySem.Calls PyProof.Rows
set_option maxRecDepth 100000 in
set_option maxHeartbeats 0 in
theorem PySem.Challenge.cw_resampler_k03_ratios_made_holds : PySem.Challenge.rw_resampler_k03_ratios_made.Holds := by
  w_on; o_law
  refine HandSHeadRun.head_imp (r := OpenLaw.row PySem.Challenge.rw_resampler_k03_ratios_made) (q := view (OpenLaw.row PySem.Challenge.rw_resampler_k03_ratios_made).prog [0, 23]) (H := K03.hk) (ob := K03.ob) (M := 6000) (loose := K03.loose) (d := HandSHeadRun.topDef (OpenLaw.row PySem.Challenge.rw_resampler_k03_ratios_made).prog 23) (kwd := []) K03.ob_eq
    K03.run (by kernel_rfl) (by kernel_rfl) (by kernel_rfl) (by rfl) (by first | assumption | decide +kernel) (by decide +kernel) ⟨rfl, rfl, rfl, rfl, rfl, by decide +kernel⟩ ?hw ?hc
  case hw => w_witness2
  case hc =>
    refine L2.walk_ofG (l := PySem.Challenge.rw_resampler_k03_ratios_made) (n := 63) (k := 6) (x := "_law_script") (CX := L2.CX0) rfl (by decide) (by kernel_rfl) ⟨rfl, by decide, by decide⟩ ?F (fun _ _ _ _ z => z)
    intro w mg fa h Y G hmg0
    obtain ⟨K, KX, c⟩ := Y
    have hmg : mg ("law" : PySem.Str) = some (.ref fa) := by
      have e : (HandSHeadRun.topDef (OpenLaw.row PySem.Challenge.rw_resampler_k03_ratios_made).prog 23).name = ("law" : PySem.Str) := by kernel_rfl
      rw [← e]
      exact hmg0
    obtain ⟨fd, hb, hF⟩ := K03.facts (w := w) KX G hmg c
    exact ⟨K, fd, K03.sp_law K, KX, hb, fun H a ns hl _ hS => ⟨a, ns, rfl, hS, hl, fun _ => rfl⟩, hF⟩

