import PyProof.Rows.All
import Wide.All
import OpenK.AllK
import Wide.FinOn
import KE.KStateDown
import HandS.ForMost
import HandS.WordsExc
import HandS.Defaults
import HandS.MakeKwOnly
import HandS.IsInst
import HandS.StrMore
import HandS.Wide
import HandS.Walk
import HandS.Evl
import HandS.Head0
import HandS.Head1
import HandS.Head2
import HandS.HeadEnd
import HandS.HeadHook1
import HandS.HeadHook2
import HandS.Style
import HandS.DictComp
import HandS.Deep
import HandS.Gcd
import HandS.FStr
import HandS.OwnEq
import HandS.Small
import HandS.Head3
import PySem.Challenge.RW_resampler_k38_independent_sets_listed
import KE.KExcSuper
import KE.KExcInit
import PyProof.ExcBaseAll.LookupError
import HandS.ForExc
import HandS.HeadWalk
import HandS.ExcField
import HandS.TryMany
import PyProof.Rows.FactsExc_KeyError
import HandS.Ends
import PyProof.ReprRoads
import PyProof.CallFns
import KE.KCallOwn
import KE.KFmtOwn
import PyProof.InstNe
import PyProof.ReprLen
import HandS.Iter
import KE.GoesMore
import HandS.TupSets
import PyProof.FactsLen
import KE.GoesZip
import HandS.Conv
import HandS.ExcOwn
import PyProof.EqKinds
import PyProof.FactsAll.dict_1
import HandS.List
import HandS.ListItems
import KE.KDictList
import HandS.TupAny
import HandS.Dict
import PyProof.DictUpdate
import HandS.SortRule
set_option Elab.async false
set_option linter.all false
set_option maxRecDepth 100000
set_option maxHeartbeats 0
/-! Own error classes over any base: own classes, then the base's mro. -/
namespace PySem
namespace EXV
open PySem.W PySem.Calls PyProof.Rows PySem.HandSPX Builtin Builtin.ObjectAttr
/-- own classes, then the list T -/
def refsT (T : List Value) : List Value → Bool
  | .ref c :: r => refsT T r || (Value.ref c :: r == T)
  | l => l == T
/-- the base: its facts, its tail -/
structure BaseX (B nw ini : String) (T : List Value) : Prop where
  own : ∀ {prog : Program} {w : World} {A : Around} {R : Result → Shared → Prop} {hp : Heap} {gs : Array GenState} {dr : Drawn} {tk : Nat} {os : OsState} {nm qn : Str} {C N fI : Addr} {bs bm sub rest : List Value}
    {hdct ab : Bool} {sn : List Str} {col : Option Bool} {dd : Option Addr} {k0 k1 k2 k3 k5 : Option Value}, (∀ X : String, bm.contains (.type X) = T.contains (.type X)) →
    hp.get? C = some (excClassObj nm qn C N bs bm hdct sn sub ab col dd k0 k1 k2 k3 k5 nw) → W.Looks (model prog w) hp (typeLookup (.ref C) "__init__") (some (.ref fI)) →
    (∀ self, W.Looks (model prog w) hp (bindSpecial (.ref fI) self) (.ref fI, [self])) → rest.length ≤ sizeLine →
    codeAny (model prog w) (A.under (.builtin "type.__call__" ⟨.ref C :: rest, []⟩)) (.call (.ref fI) ⟨.ref (hp.objs.size + 1) :: rest, []⟩) (W.InitBack (hp.objs.size + 1) R) ⟨(hp.push (W.kdv_tup rest)).push (excO C hp.objs.size), gs, dr, tk, os⟩ →
    codeAny (model prog w) A (.call (.ref C) ⟨rest, []⟩) R ⟨hp, gs, dr, tk, os⟩
  sup : ∀ {prog : Program} {w : World} {A : Around} {E : Value → Shared → Prop} {s : Shared} {h₀ : Heap} {L : Addr} {m : Str → Option Value} {news : List (Addr × Obj)} {K : Frag} {x C u t : Addr} {dv : Option Addr} {c2 : Value}
    {rest : List Value} {nws : Obj → List (Addr × Obj)} {Q : Value → Shared → Prop}, Fr h₀ L s.heap m → K.In h₀ → News h₀ L s.heap news → excInitIn K C T nw = true → (u, kxs_mw ini x) ∈ news → UpdF x (excObj C t dv c2) news nws →
    rest.length ≤ sizeLine → (∀ t' h', Fr h₀ L h' m → News h₀ L h' ((t', excTup rest) :: nws (excObj C t' dv c2)) → (∀ p ∈ news, p.1 < t') → Q .none { s with heap := h' }) → wpAny (model prog w) A (call (.ref u) rest) Q E s
  kx : KxsFacts B ini
  pass : ∀ self, refuseLoop self "__setattr__" T = pure ()
  obj : T.contains (.type "object") = true
  typ : ∀ c r, T ≠ .ref c :: r
  ne : T ≠ []
theorem refsT_cases {T : List Value} (ht : ∀ c r, T ≠ .ref c :: r) (hn : T ≠ []) : ∀ l : List Value, refsT T l = true → (∃ c r, l = .ref c :: r ∧ refsT T r = true) ∨ l = T := by
  intro l h
  cases l with
  | nil => exact .inr (beq_iff_eq.mp h)
  | cons a r =>
    cases a with
    | ref c =>
      rcases Bool.or_eq_true_iff.mp h with h | h
      · exact .inl ⟨c, r, rfl, h⟩
      · exact .inr (beq_iff_eq.mp h)
    | _ => exact .inr (beq_iff_eq.mp h)
theorem refsT_ne {T l : List Value} (hn : T ≠ []) (h : refsT T l = true) : l.isEmpty = false := by
  cases l with
  | nil => exact absurd (beq_iff_eq.mp h).symm hn
  | cons a r => rfl
section
variable {B nw ini : String} {T : List Value} (b : BaseX B nw ini T)
include b
theorem BaseX.passAll (self : Value) : ∀ l : List Value, refsT T l = true → refuseLoop self "__setattr__" l = pure ()
  | [], h => absurd (beq_iff_eq.mp h).symm b.ne
  | a :: r, h => by
    rcases refsT_cases b.typ b.ne (a :: r) h with ⟨c, r', q, h'⟩ | q
    · obtain ⟨rfl, rfl⟩ := List.cons.inj q
      rw [refuseLoop_ref]
      exact BaseX.passAll self r h'
    · rw [q]; exact b.pass self
theorem BaseX.contains (X : String) : ∀ l : List Value, refsT T l = true → l.contains (.type X) = T.contains (.type X)
  | [], h => absurd (beq_iff_eq.mp h).symm b.ne
  | a :: r, h => by
    rcases refsT_cases b.typ b.ne (a :: r) h with ⟨c, r', q, h'⟩ | q
    · obtain ⟨rfl, rfl⟩ := List.cons.inj q
      rw [List.contains_cons, BaseX.contains X r h']
      rfl
    · rw [q]
end
theorem base_ValueError : BaseX "ValueError" "ValueError.__new__" "ValueError.__init__" [.type "ValueError", .type "Exception", .type "BaseException", .type "object"] :=
  ⟨fun hT => call_own PySem.F.excBase_ValueError hT, fun F X N q => kxs_call F X N PySem.F.excBase_ValueError q, kxs_ValueError, PySem.F.store_ValueError.passes, by decide +kernel, (fun _ _ h => nomatch h), (fun h => nomatch h)⟩
theorem base_LookupError : BaseX "LookupError" "LookupError.__new__" "LookupError.__init__" [.type "LookupError", .type "Exception", .type "BaseException", .type "object"] :=
  ⟨fun hT => call_own PySem.F.excBase_LookupError hT, fun F X N q => kxs_call F X N PySem.F.excBase_LookupError q, kxs_LookupError, PySem.F.store_LookupError.passes, by decide +kernel, (fun _ _ h => nomatch h), (fun h => nomatch h)⟩
section
variable {prog : Program} {w : World} {A : Around} {E : Value → Shared → Prop} {R : Result → Shared → Prop} {hp : Heap} {g : Array GenState} {d : Drawn} {t : Nat} {os : OsState} {B nw ini : String} {T : List Value}
/-- x.name = v, x an own exception without a dict -/
theorem exc_osaT (b : BaseX B nw ini T) {K : W.Frag} {name : Str} {tk : Tok} {v : Value} {x C : Addr} {fv : Array Value} {cd : ClassData}
    (X : K.In hp) (hx : hp.get? x = some { cls := .ref C, data := .fields fv }) (hcd : W.clsIn K C = some cd) (hm : refsT T cd.mro = true) (hh : cd.hasDict = true) (ha : W.findIn K (.ref C) name = some none)
    (hq : ∀ h' tk' dx, (∀ b o, b ≠ x → hp.get? b = some o → h'.get? b = some o) → hp.objs.size ≤ dx → dx ≠ x → h'.get? x = some { cls := .ref C, dict := some dx, data := .fields fv } →
      h'.Ns1 dx (fun y => if y = name then some v else none) → R (.ok (.ret .none)) ⟨h', g, d, tk', os⟩) :
    codeAny (model prog w) A (.call (.builtin "object.__setattr__") ⟨[.ref x, .str name tk, v], []⟩) R ⟨hp, g, d, t, os⟩ := by
  have I : W.InstAt hp x { cls := .ref C, data := .fields fv } C none := ⟨hx, rfl, rfl, trivial⟩
  have SF := PySem.F.store_object
  have ne := refsT_ne b.ne hm
  have hob : cd.mro.contains (.type "object") = true := (b.contains "object" _ hm).trans b.obj
  have hxs : x ≠ hp.objs.size := Nat.ne_of_lt (Heap.lt_size hx)
  have sub : W.Looks (model prog w) hp (isInstance (.ref x) (.type "object")) true := I.type.andThen (W.looks_mroIn X (by unfold W.mroIn; rw [hcd, Option.bind_some, if_neg (by rw [ne]; decide), hob]))
  refine codeAny_call_builtin SF.slot.plain SF.entry (@W.check_slot (model prog w) _ _ ⟨hp, g, d, t, os⟩ "object.__setattr__" "object" "__setattr__" (.ref x) [.str name tk, v] [] _ SF.kind SF.split sub (SF.args (.ref x) (.str name tk) v) ?_)
  have hmr : W.Looks (model prog w) hp (mroOf (.ref C)) cd.mro := (W.looks_clsIn X hcd).andThen .now
  have L3 : W.Looks (model prog w) hp (storeTaker? none) none := .now
  have hcls : W.Looks (model prog w) hp (classData C) cd := W.looks_clsIn X hcd
  rw [W.osa_eq, refuse_eq]
  refine wpAny_bind (wpAny_bind (I.type.at (wpAny_bind (hmr.at ?_))))
  rw [b.passAll _ _ hm]
  refine wpAny_pure (wpAny_bind (I.type.at (wpAny_bind ((W.looks_findIn X ha).at (wpAny_bind (L3.at ?_))))))
  show wpAny _ _ (storeInOwnDict (.ref x) (.ref C) (.str name tk) name v false) _ _ _
  obtain ⟨nm, bs, mro, ns, qn, hd, sn, sb, ab, col, del⟩ := cd
  dsimp only at hh
  subst hh
  unfold storeInOwnDict ownDictForStores
  repeat (first | with_reducible refine store_in_new ?_ ?_ | with_reducible refine wpAny_loadPart_at hx ?_ | with_reducible refine hcls.at ?_ | wp_step)
  · exact ⟨_, #[], _, (Heap.get?_update_ne _ _ _ _ hxs.symm).trans (Heap.get?_push_at rfl rfl), rfl, fun e he => absurd he (by simp), fun _ => rfl⟩
  · intro h' tk' hn' hs
    have hx₁ : (hp.push { cls := .type "dict", data := .dict #[] }).get? x = some { cls := .ref C, data := .fields fv } := Heap.get?_push_of_some _ hx
    refine hq h' tk' hp.objs.size (fun b o hb ho => ?_) (Nat.le_refl _) hxs.symm ?_ hn'
    · exact (hs.2 b (Nat.ne_of_lt (Heap.lt_size ho))).trans ((Heap.get?_update_ne _ _ _ _ hb).trans (Heap.get?_push_of_some _ ho))
    · exact (hs.2 x hxs).trans (Heap.get?_update_self _ hx₁ rfl)
end
end EXV
end PySem

/-! An own error class (over own error classes over ValueError) whose __init__ says super().__init__(a text) and then self.FLD = FLD. -/
namespace PySem
namespace EXV
open PySem.W PySem.Calls PyProof.Rows PySem.HandSPX
/-- the text of such an __init__ -/
def xBody (fld txt : Str) (k : Nat) (p : Nat → Pos) : List Stmt :=
  [.Expr (.Call (.Attribute (.Call (.Name "super" (p 0)) [] [] (p 1)) "__init__" (p 2)) [.Constant (.str txt) k (p 3)] [] (p 4)) (p 5),
   .Assign [.Attribute (.Name "self" (p 6)) fld (p 7)] (.Name fld (p 8)) (p 9)]
def xArgs (fld : Str) (p1 p2 : Pos) : Arguments := { posonlyargs := [], args := [{ arg := "self", annotation := none, pos := p1 }, { arg := fld, annotation := none, pos := p2 }], vararg := none, kwonlyargs := [], kw_defaults := [], kwarg := none, defaults := [] }
def xScope (fld : Str) : Scope := { kind := .function, names := [(PySem.Str.ofString "self", .local), (fld, .local), (PySem.Str.ofString "__class__", .free), (PySem.Str.ofString "super", .globalImplicit)], isGenerator := false, isCoroutine := false }
/-- what the written part says of the class at C and its __init__ at fI -/
structure ExcTxt (P : Program) (K : Frag) (mg : Str → Option Value) (x q fld : Str) (C fI : Addr) : Prop where
  gC : mg x = some (.ref C)
  base : ∃ B nw ini T, BaseX B nw ini T ∧ (∃ nm q N bs bm sn sub ab col dd k0 k1 k2 k3 k5, K.lookup C = some (excClassObj nm q C N bs bm true sn sub ab col dd k0 k1 k2 k3 k5 nw) ∧ refsT T bm = true) ∧
    subIn K (.ref C) (.type B) = some true ∧ ks_superIn K C C "__init__" = some (some (.builtin ini)) ∧ excInitIn K C T nw = true
  sa : findIn K (.ref C) "__setattr__" = some (some (.builtin "object.__setattr__"))
  ga : findIn K (.ref C) "__getattribute__" = some (some (.builtin "BaseException.__getattribute__"))
  gg : findIn K (.ref C) "__getattr__" = some none
  noN : findIn K (.ref C) fld = some none
  iC : findIn K (.ref C) "__init__" = some (some (.ref fI))
  tC : typeIn K (.ref fI) = some (.type "function")
  kC : keepIn K (.ref C) = true
  exC : subIn K (.ref C) (.type "BaseException") = some true
  tyC : typeIn K (.ref C) = some (.type "type")
  hdC : hasDictIn K C = true
  self : mroIn K C (.ref C) = some true
  third : nsIn K cStatics "thirdparty.any" = some none
  noS : nsIn K mainGlobals "super" = some none
  fn : ∃ (oc : Value) (od : Option Addr) (doc pm : Value) (an : Option Addr) (cda : Addr) (ct : Value) (osl : Array (Option Value)) (cc : Addr) (txt : Str) (k : Nat) (p : Nat → Pos) (p1 p2 : Pos),
    K.lookup fI = some ⟨oc, od, .func (ksFn "__init__" q (xArgs fld p1 p2) (xBody fld txt k p) (xScope fld) .none .none doc pm an (.ref cda) ct cc), osl⟩ ∧ codeIn K (.ref cda) q = true ∧
    (∃ ccl cdd vs ccs file tf, K.lookup cda = some ⟨ccl, cdd, .fields vs, ccs⟩ ∧ vs[2]? = some (.str file tf) ∧ ((P.main.file : Str) == file) = true) ∧
    ((p 2).endLine == (p 4).line) = true ∧
    (∃ cl cld csl, K.lookup cc = some ⟨cl, cld, .cell (some (.ref C)), csl⟩) ∧
    (∀ a b : Value, bindArgs (ksFn "__init__" q (xArgs fld p1 p2) (xBody fld txt k p) (xScope fld) .none .none doc pm an (.ref cda) ct cc) ⟨[a, b], []⟩ = pure [(("self" : Str), a), (fld, b)])
  fldOk : (fld == ("self" : Str)) = false ∧ (("self" : Str) == fld) = false ∧ (fld == ("__class__" : Str)) = false ∧ (("__class__" : Str) == fld) = false ∧ (fld == ("super" : Str)) = false ∧ (("super" : Str) == fld) = false ∧ (fld == ("__debug__" : Str)) = false
  topS : (P.main.scope.names.lookup ("super" : Str)).isSome = false
/-- what __init__ leaves of a fresh exception at x -/
structure XEnd (h h' : Heap) (x C dx : Addr) (fld : Str) (v : Value) : Prop where
  keep : ∀ b o, b ≠ x → h.get? b = some o → h'.get? b = some o
  obj : ∃ t1, h'.get? x = some { cls := .ref C, dict := some dx, data := .fields #[.ref t1, .none, .none, .none, .bool false, .none] }
  dbig : h.objs.size ≤ dx
  dne : dx ≠ x
  ns : h'.Ns1 dx (fun y => if y = fld then some v else none)
/-- a made exception -/
structure XMade (h h' : Heap) (e C d : Addr) (fld : Str) (v : Value) : Prop where
  keep : ∀ b o, h.get? b = some o → h'.get? b = some o
  new : h.objs.size ≤ e
  obj : ∃ oe vs, h'.get? e = some oe ∧ oe.cls = .ref C ∧ oe.dict = some d ∧ oe.data = .fields vs ∧ vs[1]? = some .none
  dbig : h.objs.size ≤ d
  dne : d ≠ e
  ns : h'.Ns1 d (fun y => if y = fld then some v else none)
theorem one_le_line (v : Value) : [v].length ≤ sizeLine := by
  rw [sizeLine_eq]
  exact (by decide : 1 ≤ 16777216)
section
variable {prog : Program} {w : World} {A : Around} {R : Result → Shared → Prop} {s : Shared} {K : Frag} {mg : Str → Option Value} {C fI : Addr} {nx q fld : Str}
theorem x_init (T : ExcTxt prog K mg nx q fld C fI) {x t0 : Addr} {v : Value} {mb : Str → Option Value} (X : K.In s.heap) (G : s.heap.Ns mainGlobals mg) (Gb : s.heap.Ns builtinsNs mb) (hb : ∀ y : Str, y ≠ "__name__" → mb y = bootBuiltins y) (hlim : s.heap.NoLimit)
    (hx : s.heap.get? x = some (excO C t0)) (hnx : K.lookup x = none) (hroom : A.depth < recursionLimit)
    (hq : ∀ h' tk dx, XEnd s.heap h' x C dx fld v → R (.ok (.ret .none)) { s with heap := h', toks := tk }) :
    codeAny (model prog w) A (.call (.ref fI) ⟨[.ref x, v], []⟩) R s := by
  obtain ⟨oc, od, doc, pm, an, cda, ct, osl, cc, txt, k, p, p1, p2, ho, hcd, ⟨ccl, cdd, vs, ccs, file, tf, hcode, hvs, hfile⟩, hline, ⟨cl, cld, csl, hcell⟩, hbd⟩ := T.fn
  obtain ⟨B, nw, ini, tl, bX, ⟨nm, qq, N, bs, bm, sn, sub, ab, col, dd, k0, k1, k2, k3, k5, hC, hbm⟩, veC, sup, inI⟩ := T.base
  have hcl : clsIn K C = some { name := nm, bases := bs, mro := .ref C :: bm, ns := N, qualname := qq, hasDict := true, slotNames := sn, subclasses := sub, abstract := ab, collection := col, hasDel := false } := by unfold clsIn; rw [hC] <;> rfl
  obtain ⟨f1, f2, f3, f4, f5, f6, f7⟩ := T.fldOk
  have l1 : (xScope fld).names.lookup ("self" : Str) = some .local := rfl
  have l2 : (xScope fld).names.lookup fld = some .local := by simp [xScope, List.lookup, f1]
  have l3 : (xScope fld).names.lookup ("__class__" : Str) = some .free := by
    have g0 : (PySem.Str.ofString "__class__" == PySem.Str.ofString "self") = false := by decide +kernel
    simp [xScope, List.lookup, f4, g0]
  have l4 : (xScope fld).names.lookup ("super" : Str) = some .globalImplicit := by
    have g0 : (PySem.Str.ofString "super" == PySem.Str.ofString "self") = false := by decide +kernel
    have g1 : (PySem.Str.ofString "super" == PySem.Str.ofString "__class__") = false := by decide +kernel
    simp [xScope, List.lookup, f6, g0, g1]
  have hloc : ∀ y ∈ [(("self" : Str), Value.ref x), (fld, v)], (xScope fld).names.lookup y.1 = some .local := by
    intro y hy
    rcases List.mem_cons.mp hy with rfl | hy
    · exact l1
    · rcases List.mem_cons.mp hy with rfl | hy
      · exact l2
      · cases hy
  refine ks_codeAny_call_defAt (fd := ksFn "__init__" q (xArgs fld p1 p2) (xBody fld txt k p) (xScope fld) .none .none doc pm an (.ref cda) ct cc) (body := xBody fld txt k p) (binds := [("self", .ref x), (fld, v)])
    hroom (X _ _ ho) rfl hlim (codeRec_of X hcd) rfl (BindsTo.of_eq (hbd _ _)) ?_ hloc (fun h₁ hns hk₁ => ?_)
  · intro y hy
    have hy' : y ∈ [(PySem.Str.ofString "self", NameKind.local), (fld, .local), (PySem.Str.ofString "__class__", .free), (PySem.Str.ofString "super", .globalImplicit)] := hy
    simp only [List.mem_cons, List.not_mem_nil, or_false] at hy'
    rcases hy' with rfl | rfl | rfl | rfl <;> exact (fun z => nomatch z)
  · have X₁ : K.In h₁ := X.keeps hk₁
    have hx₁ := hk₁ _ _ hx
    have xC : x ≠ C := fun z => by rw [z, hC] at hnx; cases hnx
    have mself : (fun z => List.lookup z [(PySem.Str.ofString "self", Value.ref x), (fld, v)].reverse) ("self" : Str) = some (.ref x) := by
      show List.lookup ("self" : Str) [(fld, v), (PySem.Str.ofString "self", Value.ref x)] = _
      simp [List.lookup, f2]
    have mfld : (fun z => List.lookup z [(PySem.Str.ofString "self", Value.ref x), (fld, v)].reverse) fld = some v := by
      show List.lookup fld [(fld, v), (PySem.Str.ofString "self", Value.ref x)] = _
      simp [List.lookup]
    have F : Fr s.heap s.heap.objs.size h₁ (fun z => List.lookup z [(PySem.Str.ofString "self", Value.ref x), (fld, v)].reverse) := ⟨hns, hk₁, Nat.le_refl _⟩
    show _root_.PySem.wpAt _ _ (.func (xBody fld txt k p) (ksEnv q (xScope fld) s.heap.objs.size fI (.ref cda) cc)) (execs _ (ksEnv q (xScope fld) s.heap.objs.size fI (.ref cda) cc)) _ _ _
    have he : eval (.Call (.Attribute (.Call (.Name "super" (p 0)) [] [] (p 1)) "__init__" (p 2)) [.Constant (.str txt) k (p 3)] [] (p 4)) (ksEnv q (xScope fld) s.heap.objs.size fI (.ref cda) cc) = (do
        let ov ← attributeBase (.Call (.Name "super" (p 0)) [] [] (p 1)) "__init__" (ksEnv q (xScope fld) s.heap.objs.size fI (.ref cda) cc) (eval (.Call (.Name "super" (p 0)) [] [] (p 1)) (ksEnv q (xScope fld) s.heap.objs.size fI (.ref cda) cc))
        standAt (p 2).atName
        let (f, first) ← holding [ov] (getMethod ov "__init__" (L2.plainOf (.Call (.Name "super" (p 0)) [] [] (p 1)) (ksEnv q (xScope fld) s.heap.objs.size fI (.ref cda) cc)))
        callWith (p 4) f first (backTo (p 4) (starEach [.Constant (.str txt) k (p 3)] (ksEnv q (xScope fld) s.heap.objs.size fI (.ref cda) cc))) []) := by
      show (attributeBase _ _ _ _ >>= fun ov => standAt _ >>= fun _ => methodCall _ _ _ _ _ ov _ _ _) = _
      congr 1
      funext ov
      congr 1
      funext _
      exact L2.mcall_line (by rfl) hline
    refine ks_wpAt_execs_cons (ks_wpAt_Expr_any (ks_wpAt_MethodCall ?_ he))
    obtain ⟨oD, hD1, hD2⟩ : ∃ oD, h₁.get? C = some oD ∧ oD.data = .cls _ := ⟨_, X₁ _ _ hC, rfl⟩
    refine ks_wpAt_super_base (env := ksEnv q (xScope fld) s.heap.objs.size fI (.ref cda) cc) l4 l3 (by decide) rfl (X₁ _ _ ho) rfl rfl rfl (X₁ _ _ hcode) rfl hvs hfile T.topS ?_
    refine ks_loadName_global rfl l4 (loadGlobal_builtin (env := ksEnv q (xScope fld) s.heap.objs.size fI (.ref cda) cc) (G.keeps hk₁) (mg_none_of X G T.noS) (Gb.keeps hk₁) ((hb _ (by decide +kernel)).trans (show bootBuiltins ("super" : Str) = some (.type "super") by first | boot_by_name | rfl | kernel_rfl)) ⟨rfl, ?_⟩)
    refine wpAny_loadName_free rfl l3 rfl ⟨_, X₁ _ _ hcell, rfl⟩ ?_
    refine wpAny_loadName_local rfl l1 F.ns mself ?_
    refine ks_wpAny_isType_cls hD1 hD2 ⟨rfl, ?_⟩
    have I₁ : InstAt h₁ x (excObj C t0 none .none) C none := ⟨hx₁, rfl, rfl, trivial⟩
    refine ks_wpAny_call_super hD1 hD2 I₁.at_ I₁.cls (fun c e => nomatch e) (looks_mroIn X₁ T.self) (fun h₂ e2 k2 => ?_)
    -- the bound wrapper, by the heap without x
    have nl1 : h₁.objs.size ≠ s.heap.objs.size := Nat.ne_of_gt F.ns.lt
    have xs : x < s.heap.objs.size := Heap.lt_size hx
    have x1 : x < h₁.objs.size := Heap.lt_size hx₁
    have hx₂ : h₂.get? x = some (excObj C t0 none .none) := k2 _ _ hx₁
    have X₀ : K.In (hideAll s.heap [x]) := fun b o e => hideAll_get _ (X b o e) (fun hb => by
      rw [List.mem_singleton.mp hb, hnx] at e
      cases e)
    have keep₀ : ∀ b o, (hideAll s.heap [x]).get? b = some o → h₁.get? b = some o := fun b o e => hk₁ b o (of_hideAll _ e)
    have F₂ : Fr (hideAll s.heap [x]) s.heap.objs.size h₂ (fun z => List.lookup z [(PySem.Str.ofString "self", Value.ref x), (fld, v)].reverse) :=
      ⟨hns.keeps k2, fun b o e => k2 b o (keep₀ b o e), Nat.le_of_eq (hideAll_size _ _)⟩
    have n0 : (hideAll s.heap [x]).get? h₁.objs.size = none := by
      cases z : (hideAll s.heap [x]).get? h₁.objs.size with
      | none => rfl
      | some o => exact absurd (Heap.lt_size (keep₀ _ _ z)) (Nat.lt_irrefl _)
    have N₂ : News (hideAll s.heap [x]) s.heap.objs.size h₂ [(h₁.objs.size, ks_superObj C x C), (x, excObj C t0 none .none)] := by
      intro r hr
      rcases List.mem_cons.mp hr with rfl | hr
      · exact ⟨e2, nl1, n0⟩
      · rcases List.mem_cons.mp hr with rfl | hr
        · exact ⟨hx₂, Nat.ne_of_lt xs, hideAll_none _ List.mem_cons_self⟩
        · cases hr
    have I₂ : InstAt h₂ x (excObj C t0 none .none) C none := ⟨hx₂, rfl, rfl, trivial⟩
    refine kxs_method bX.kx F₂ X₀ N₂ List.mem_cons_self I₂ T.third sup veC (by decide) (fun u h₃ F₃ N₃ lt3 => ?_)
    refine kxs_callWith1 N₃ List.mem_cons_self (Calls.spliced_cons (show wpAny _ _ (eval (.Constant (.str txt) k (p 3)) _) _ _ _ from Calls.Constant_str (Calls.spliced_nil ⟨kxs_at N₃ List.mem_cons_self, ?_⟩)))
    have hux : u ≠ x := Nat.ne_of_gt (lt3 (x, excObj C t0 none .none) (List.mem_cons_of_mem _ List.mem_cons_self))
    have hsx : h₁.objs.size ≠ x := Nat.ne_of_gt x1
    refine bX.sup F₃ X₀ N₃ inI List.mem_cons_self (.tail hux (.tail hsx (.head (fun _ h => nomatch h)))) (one_le_line _) (fun t1 h₄ F₄ N₄ lt4 => ?_)
    have hx₄ : h₄.get? x = some (excO C t1) := (N₄ (x, excObj C t1 none .none) (by simp)).1
    have X₄ : K.In h₄ := X₀.keeps F₄.keep
    refine ks_wpAt_execs_cons (ks_wpAt_Assign_Attr (wpAt_of_wpAny (wpAny_Name (wpAny_loadName_local rfl l2 F₄.ns mfld (wpAny_Name (wpAny_loadName_local rfl l1 F₄.ns mself ?_) (by decide))) f7)))
    refine set_plain X₄ (ox := excO C t1) (od := none) ⟨hx₄, rfl, rfl, trivial⟩ T.sa ?_
    refine exc_osaT bX X₄ hx₄ hcl (show (refsT tl bm || _) = true by rw [hbm]; rfl) rfl T.noN (fun h₅ tk₅ dx k₅ dn dne hx₅ hn₅ => ?_)
    refine wpAt_of_wpAny (wpAny_execs_nil (hq h₅ tk₅ dx ⟨fun b o hb e => k₅ b o hb (F₄.keep b o (hideAll_get _ e (fun z => hb (List.mem_singleton.mp z)))), ⟨t1, hx₅⟩, Nat.le_trans (Nat.le_of_lt F₄.ns.lt) dn, dne, hn₅⟩))
theorem x_made (T : ExcTxt prog K mg nx q fld C fI) {v : Value} {mb : Str → Option Value} (X : K.In s.heap) (G : s.heap.Ns mainGlobals mg) (Gb : s.heap.Ns builtinsNs mb) (hb : ∀ y : Str, y ≠ "__name__" → mb y = bootBuiltins y) (hlim : s.heap.NoLimit) (hroom : A.depth + 1 < recursionLimit)
    (hq : ∀ h' tk e d, XMade s.heap h' e C d fld v → R (.ok (.ret (.ref e))) { s with heap := h', toks := tk }) :
    codeAny (model prog w) A (.call (.ref C) ⟨[v], []⟩) R s := by
  obtain ⟨B, nw, ini, tl, bX, ⟨nm, qq, N, bs, bm, sn, sub, ab, col, dd, k0, k1, k2, k3, k5, hC, hbm⟩, veC, sup, inI⟩ := T.base
  obtain ⟨hp, g, dr, tk, os⟩ := s
  have k : ∀ b o, hp.get? b = some o → ((hp.push (kdv_tup [v])).push (excO C hp.objs.size)).get? b = some o := fun b o e => Heap.get?_push_of_some _ (Heap.get?_push_of_some _ e)
  have hget : ((hp.push (kdv_tup [v])).push (excO C hp.objs.size)).get? (hp.objs.size + 1) = some (excO C hp.objs.size) := by heap_get
  have hnx : K.lookup (hp.objs.size + 1) = none := by
    cases e : K.lookup (hp.objs.size + 1) with
    | none => rfl
    | some o => exact absurd (Nat.lt_of_succ_lt (Heap.lt_size (show hp.get? (hp.objs.size + 1) = some o from X _ _ e))) (Nat.lt_irrefl _)
  refine bX.own (fun X => bX.contains X bm hbm) (X _ _ hC) (looks_findIn X T.iC) (fun self => bind_fn X self T.tC) (one_le_line v) ?_
  refine x_init (s := ⟨(hp.push (kdv_tup [v])).push (excO C hp.objs.size), g, dr, tk, os⟩) T (X.keeps k) (G.keeps k) (Gb.keeps k) hb (hlim.keeps k) hget hnx hroom fun h' tk' dx ⟨k', ⟨t1, hx⟩, dn, dne, hns⟩ => ?_
  have old : ∀ b o, hp.get? b = some o → h'.get? b = some o := fun b o e => k' b o (Nat.ne_of_lt (Nat.lt_succ_of_lt (Heap.lt_size e))) (k b o e)
  have z : hp.objs.size + 1 + 1 ≤ dx := by
    have q := dn
    rw [Heap.size_push, Heap.size_push] at q
    exact q
  exact ⟨rfl, hq h' tk' (hp.objs.size + 1) dx ⟨old, Nat.le_succ _, ⟨_, _, hx, rfl, rfl, rfl, rfl⟩, Nat.le_trans (Nat.le_trans (Nat.le_succ _) (Nat.le_succ _)) z, dne, hns⟩⟩
end
end EXV
end PySem

namespace L2
open PySem PySem.Spec PyProof.Rows
theorem relO_x {v : V} {v' : Value} (r : RelV v v') (fld f : Str) : RelO (List.lookup f [(fld, v)]) (if f = fld then some v' else none) := by
  by_cases hw : f = fld
  · subst hw
    rw [if_pos rfl, show List.lookup f [(f, v)] = some v by simp [List.lookup]]
    exact r
  · rw [if_neg hw, show List.lookup f [(fld, v)] = none by simp [List.lookup, show (f == fld) = false by simpa using hw]]
    trivial
section
variable {X : Cx} {C fI : Addr} {x q fld : Str}
/-- X(e), raised -/
def tMkX (C : Addr) (fld : Str) (ta : TA) : St → Hp → XK → Prop := fun σ H Q => ta σ H fun vs H1 => ∃ v, vs = [v] ∧ ∀ d, H1 d = none → Q (.ref C) (some d) (upd H1 d (.xd [(fld, v)]))
theorem pmk_x {a : Expr} {ta : TA} {p pos : Pos} {k : Nat} (T : PySem.EXV.ExcTxt X.prog X.K X.mg x q fld C fI) (hr : Room k X.A) (ha : PA X [a] ta) (hg : Gl X x := by rfl)
    (hdb : (x == ("__debug__" : Str)) = false := by decide)
    (he : starEach (a :: []) X.env = (false, eval a X.env) :: starEach [] X.env := by rfl) (hpl : (backTo pos (starEach [] X.env)).any (·.1) = false := by rfl) :
    PMk X (.Call (.Name x p) [a] [] pos) (tMkX C fld ta) := by
  intro pins s σ H Q I h
  refine wpAny_Call_Name_kw (ld_glob I hg T.gC ?_ hdb)
  refine PySem.W.callWith_K (h₀ := X.base) I.ok.mod.kin T.kC (thn (ha.run pos pins s σ H _ I h) fun us s1 hh => ?_) he hpl
  obtain ⟨vs, H1, I1, r1, v, ev, q1⟩ := hh
  subst ev
  refine ⟨I1.kIn, ?_⟩
  cases r1 with
  | cons rv rn =>
    rename_i v' us'
    cases rn
    show wpAny _ _ (call (.ref C) [v']) _ _ _
    have hlim := I1.nolimit
    obtain ⟨mb, hb1, hb2⟩ := I1.mod.blt
    have hG := I1.mod.glob.keeps I1.bk
    have hGb := hb1.keeps I1.bk
    obtain ⟨hp, g, dr, tk, os⟩ := s1
    refine wpAny_call (PySem.EXV.x_made T I1.kIn hG hGb hb2 hlim (by have := hr.dp; omega) fun h' tk' e d M => ?_)
    show MkP X pins σ Q (.ref e) ⟨h', g, dr, tk', os⟩
    obtain ⟨oe, fv, hoe, hc, hd, hdat, h1⟩ := M.obj
    have hns := M.ns
    obtain ⟨G', g1, g2⟩ := restrict h' fun b => decide (b ≠ e)
    have gk : ∀ b, b ≠ e → G'.get? b = h'.get? b := fun b hb => g1 b (decide_eq_true hb)
    have ge : G'.get? e = none := g2 e (by simp)
    have old : ∀ b o, hp.get? b = some o → G'.get? b = some o := fun b o z => (gk b (Nat.ne_of_lt (Nat.lt_of_lt_of_le (Heap.lt_size z) M.new))).trans (M.keep b o z)
    have ob : ObjOk X.prog X.w (upd H1 d (.xd [(fld, v)])) G' d (.xd [(fld, v)]) :=
      ⟨_, hns.at (fun o z => (gk d M.dne).trans z), fun f => relO_x rv fld f⟩
    have J : Inv X pins σ (upd H1 d (.xd [(fld, v)])) ⟨G', g, dr, tk', os⟩ := I1.laid (t' := tk') old M.dbig ob
    refine ⟨e, oe, fv, ⟨G', g, dr, tk', os⟩, _, .ref C, some d, rfl, J, fun b o z => ?_, ge, hoe, ⟨hc, hd⟩, hdat, h1, ?_, rfl, I1.bare, raises_own T.exC T.tyC, q1 d (I1.hok.fresh M.dbig)⟩
    · by_cases hb : b = e
      · have z' : G'.get? b = some o := z
        rw [hb, ge] at z'; cases z'
      · exact (gk b hb).symm.trans z
    · rw [upd_ne (Ne.symm M.dne)]
      exact I1.hok.fresh M.new
/-- raise X(e) -/
def tRaiseX (C : Addr) (fld : Str) (W : WX) (ta : TA) : TS := fun _ σ H => tMkX C fld ta σ H fun cls d H' => W cls d σ H'
theorem ps_raiseX {a : Expr} {ta : TA} {W : WX} {p pos pos2 : Pos} {k : Nat} (hc : X.calm = true) (T : PySem.EXV.ExcTxt X.prog X.K X.mg x q fld C fI) (hr : Room k X.A) (tk : Takes X W) (ha : PA X [a] ta) (hg : Gl X x := by rfl)
    (hdb : (x == ("__debug__" : Str)) = false := by decide)
    (he : starEach (a :: []) X.env = (false, eval a X.env) :: starEach [] X.env := by rfl) (hpl : (backTo pos (starEach [] X.env)).any (·.1) = false := by rfl) :
    PS X (.Raise (some (.Call (.Name x p) [a] [] pos)) none pos2) (tRaiseX C fld W ta) := ps_raise hc tk (pmk_x T hr ha hg hdb he hpl)
/-- err.FLD, err the exception that the suite holds (at a; its class cls, its dict d) -/
def tFldX (C : Addr) (fld : Str) (a : Addr) (cls : Value) (d : Option Addr) (te : TE) : TE := fun σ H Q => te σ H fun y H1 => y = .ref a ∧ cls = .ref C ∧ ∃ (dd : Addr) (v : V), d = some dd ∧ H1 dd = some (.xd [(fld, v)]) ∧ Q v H1
theorem pe_fldX {a : Addr} {oe : Obj} {cls : Value} {d : Option Addr} {pn : List (Addr × Obj)} {e : Expr} {te : TE} {pos : Pos} (T : PySem.EXV.ExcTxt X.prog X.K X.mg x q fld C fI) (hz : Zc cls d oe) (hf : ∃ vs, oe.data = .fields vs) (he : PE (X.suite a ((a, oe) :: pn)) e te)
    (hb : attributeBase e fld X.env (eval e X.env) = eval e X.env := by rfl) :
    PE (X.suite a ((a, oe) :: pn)) (.Attribute e fld pos) (tFldX C fld a cls d te) := by
  refine ⟨fun pins s σ H Q I h => ?_⟩
  refine attr_of hb (thn (he.run pins s σ H _ I h) fun u s1 hh => ?_)
  obtain ⟨y, H1, I1, rx, ex, ec, dd, v, ed, ea, q⟩ := hh
  subst ex
  obtain rfl : u = Value.ref a := rx
  subst ec
  subst ed
  obtain ⟨ha, _⟩ := I1.pin (a, oe) (List.mem_append_left _ List.mem_cons_self)
  obtain ⟨vs, hd⟩ := hf
  have hx : ObjOk X.prog X.w H1 s1.heap dd (.xd [(fld, v)]) := I1.hok dd _ ea
  obtain ⟨mA, hns, hr⟩ := hx
  obtain ⟨od, ho, hl⟩ := lookIn_ns hns
  have l : List.lookup fld [(fld, v)] = some v := by simp [List.lookup]
  obtain ⟨u, hu, ru⟩ := RelO.some_of (v := v) (o := mA fld) (by rw [← l]; exact hr fld)
  have J : PySem.W.InstAt s1.heap a oe C (some od) := ⟨ha, hz.1, by unfold PySem.W.notCls; rw [hd] <;> rfl, by rw [hz.2]; exact ho⟩
  exact HandSPX.exc_get I1.kIn J T.ga T.gg T.exC (PySem.W.findObj_own T.hdC T.noN rfl (by rw [hl, hu])) (handed_of ru) ⟨v, H1, I1.tok _, ru, q⟩
end
end L2

/-! Own error classes over KeyError: it has no maker of its own, LookupError's serves. -/
namespace PySem
namespace EXV
open PySem.W PySem.Calls PyProof.Rows PySem.HandSPX Builtin Builtin.ObjectAttr
abbrev keT : List Value := [.type "KeyError", .type "LookupError", .type "Exception", .type "BaseException", .type "object"]
theorem kxs_keyE : KxsFacts "KeyError" "KeyError.__init__" where
  typ := by
    show builtinType _ = _
    rw [builtinType_eq_fast]
    kernel_rfl
  nac := by
    first
    | kernel_rfl
    | rfl
theorem keyE_pass (self : Value) : refuseLoop self "__setattr__" keT = pure () := by
  kernel_rfl
section
variable {M : Model} {A : Around} {E : Value → Shared → Prop} {hp : Heap} {gs : Array GenState} {dr : Drawn} {tk : Nat} {os : OsState} {nm qn : Str} {C N : Addr} {bs bm sub : List Value} {hdct ab : Bool} {sn : List Str} {col : Option Bool}
  {dd : Option Addr} {k0 k1 k2 k3 k5 : Option Value}
theorem lk_checked {more : List Value} {Q : Unit → Shared → Prop} (cL : (Value.ref C :: bm).contains (.type "LookupError") = true)
    (cls : hp.get? C = some (excClassObj nm qn C N bs bm hdct sn sub ab col dd k0 k1 k2 k3 k5 "LookupError.__new__")) (q : Q () ⟨hp, gs, dr, tk, os⟩) : wpAny M A (checkBuiltinCall "LookupError.__new__" ⟨.ref C :: more, []⟩) Q E ⟨hp, gs, dr, tk, os⟩ := by
  have lf := PySem.F.excBase_LookupError
  have ns := lf.noStar
  simp only [checkBuiltinCall, lf.newSplit, lf.newKind, lf.newRow]
  repeat (first
    | refine wpAny_madeBy_exc cls ?_
    | refine wpAny_staticBase_exc cls ?_
    | refine wpAny_loadPart_at cls ?_
    | (refine wpAny_isSubtype_exc cls ?_; rw [cL])
    | simp only [bne_self_eq_false, if_false, Bool.false_eq_true]
    | wp_step)
  exact q
theorem ke_checked {e : Addr} {oe : Obj} {more : List Value} {Q : Unit → Shared → Prop} (cls : hp.get? C = some (excClassObj nm qn C N bs bm hdct sn sub ab col dd k0 k1 k2 k3 k5 "LookupError.__new__")) (he : hp.get? e = some oe) (oc : oe.cls = .ref C)
    (q : Q () ⟨hp, gs, dr, tk, os⟩) : wpAny M A (checkBoundCall "KeyError.__init__" ⟨.ref e :: more, []⟩) Q E ⟨hp, gs, dr, tk, os⟩ := by
  have kc := excClass_KeyError
  have ns := kc.notStar
  simp only [checkBoundCall, kc.initSig, kc.initKind]
  repeat (first
    | (with_reducible refine wpAny_loadPart_at cls ?_)
    | (with_reducible refine wpAny_loadPart_at he ?_
       rw [oc])
    | wp_step)
  refine wpAny_onRaise ?_
  have st : ∀ (a b : String) (n : Nat), Bind.check ⟨.positional, "*", "KeyError", .self, [⟨"args", .varPos, false⟩]⟩ a b n (List.map (fun x => x.fst) ({ pos := Value.ref e :: more } : Args).kw) = pure () := fun a b n => check_star_args _ _ _ _ _ _
  rw [st]
  exact wpAny_pure q
end
section
variable {prog : Program} {w : World} {A : Around} {R : Result → Shared → Prop} {hp : Heap} {gs : Array GenState} {dr : Drawn} {tk : Nat} {os : OsState} {nm qn : Str} {C N fI : Addr} {bs bm sub rest : List Value}
  {hdct ab : Bool} {sn : List Str} {col : Option Bool} {dd : Option Addr} {k0 k1 k2 k3 k5 : Option Value}
theorem lk_made (cL : (Value.ref C :: bm).contains (.type "LookupError") = true) (cA : (Value.ref C :: bm).contains (.type "AttributeError") = false) (cN : (Value.ref C :: bm).contains (.type "NameError") = false)
    (cls : hp.get? C = some (excClassObj nm qn C N bs bm hdct sn sub ab col dd k0 k1 k2 k3 k5 "LookupError.__new__")) (lr : rest.length ≤ sizeLine)
    (q : R (.ok (.ret (.ref (hp.objs.size + 1)))) ⟨(hp.push (W.kdv_tup rest)).push (excO C hp.objs.size), gs, dr, tk, os⟩) : codeAny (model prog w) A (.builtin "LookupError.__new__" ⟨.ref C :: rest, []⟩) R ⟨hp, gs, dr, tk, os⟩ := by
  have lf := PySem.F.excBase_LookupError
  have en := lf.ends
  refine codeAny_builtinAt lf.entry ?_
  unfold Builtin.«BaseException.__new__»
  refine wpAt_bind ?_
  show wpAt _ _ _ (stack >>= fun _ => _) _ _ _
  refine wpAt_bind (wpAt_stack fun p b => wpAt_of_wpAny ?_)
  wp_walk
  refine wpAt_of_wpAny ?_
  rw [lf.owner]
  repeat (first
    | with_reducible refine wpAny_loadPart_at cls ?_
    | with_reducible refine wpAny_madeHere_exc lf.canon cls ?_
    | (with_reducible refine wpAny_isSubtype_exc cls ?_
       first
       | rw [cL]
       | rw [cA]
       | rw [cN])
    | wp_step)
  show R _ _
  rw [Heap.size_push]
  exact q
theorem lk_call {E : Value → Shared → Prop} {Q : Fin → Shared → Prop} (cL : (Value.ref C :: bm).contains (.type "LookupError") = true) (cA : (Value.ref C :: bm).contains (.type "AttributeError") = false) (cN : (Value.ref C :: bm).contains (.type "NameError") = false)
    (cls : hp.get? C = some (excClassObj nm qn C N bs bm hdct sn sub ab col dd k0 k1 k2 k3 k5 "LookupError.__new__")) (li : W.Looks (model prog w) hp (typeLookup (.ref C) "__init__") (some (.ref fI)))
    (lb : ∀ self, W.Looks (model prog w) hp (bindSpecial (.ref fI) self) (.ref fI, [self])) (lr : rest.length ≤ sizeLine)
    (q : codeAny (model prog w) A (.call (.ref fI) ⟨.ref (hp.objs.size + 1) :: rest, []⟩) (fun r s' => match r with
      | .ok (.ret v) => v = .none ∧ Q (.done (.ret (.ref (hp.objs.size + 1)))) s'
      | .ok _ => False
      | .error e => E e s') ⟨(hp.push (W.kdv_tup rest)).push (excO C hp.objs.size), gs, dr, tk, os⟩) :
    wpAny (model prog w) A (Builtin.«type.__call__» ⟨.ref C :: rest, []⟩) Q E ⟨hp, gs, dr, tk, os⟩ := by
  repeat (first
    | with_reducible refine wpAny_madeBy_exc cls ?_
    | with_reducible refine wpAny_loadPart_at cls ?_
    | wp_step)
  refine codeAny_call_builtin_code (Code.quiet_builtin _ PySem.F.excBase_LookupError.quiet) (lk_checked cL cls (lk_made cL cA cN cls lr ?_))
  show wpAny _ _ _ _ _ _
  have old : ∀ b o, hp.get? b = some o → ((hp.push (W.kdv_tup rest)).push (excO C hp.objs.size)).get? b = some o := fun b o z => Heap.get?_push_of_some _ (Heap.get?_push_of_some _ z)
  have cls2 := old _ _ cls
  have new : ((hp.push (W.kdv_tup rest)).push (excO C hp.objs.size)).get? (hp.objs.size + 1) = some (excO C hp.objs.size) := by
    heap_get
  have cC : (Value.ref C :: bm).contains (.ref C) = true := by
    simp
  have li2 := li.keeps old
  have lb2 := (lb (.ref (hp.objs.size + 1))).keeps old
  unfold isInstance
  repeat (first
    | with_reducible refine wpAny_loadPart_at new ?_
    | (with_reducible refine wpAny_isSubtype_exc cls2 ?_
       rw [cC])
    | wp_step)
  show wpAny _ _ (typeLookup (.ref C) _) _ _ _
  refine li2.at (wpAny_holding (wpAny_bind (lb2.at (wpAny_bind (wpAny_call (codeAny_mono q fun r s' z => ?_))))))
  match r, z with
  | .error _, z => exact z
  | .ok .next, z => exact z.elim
  | .ok .brk, z => exact z.elim
  | .ok .cont, z => exact z.elim
  | .ok (.ret v), z =>
    obtain ⟨rfl, z⟩ := z
    first
    | exact wpAny_pure (wpAny_pure z)
    | (wp_walk
       exact z)
theorem ke_own (hT : ∀ X : String, bm.contains (.type X) = keT.contains (.type X))
    (cls : hp.get? C = some (excClassObj nm qn C N bs bm hdct sn sub ab col dd k0 k1 k2 k3 k5 "LookupError.__new__")) (li : W.Looks (model prog w) hp (typeLookup (.ref C) "__init__") (some (.ref fI)))
    (lb : ∀ self, W.Looks (model prog w) hp (bindSpecial (.ref fI) self) (.ref fI, [self])) (lr : rest.length ≤ sizeLine)
    (q : codeAny (model prog w) (A.under (.builtin "type.__call__" ⟨.ref C :: rest, []⟩)) (.call (.ref fI) ⟨.ref (hp.objs.size + 1) :: rest, []⟩) (W.InitBack (hp.objs.size + 1) R) ⟨(hp.push (W.kdv_tup rest)).push (excO C hp.objs.size), gs, dr, tk, os⟩) :
    codeAny (model prog w) A (.call (.ref C) ⟨rest, []⟩) R ⟨hp, gs, dr, tk, os⟩ := by
  have cX : ∀ X : String, (Value.ref C :: bm).contains (.type X) = keT.contains (.type X) := fun X => by
    rw [List.contains_cons, hT]
    rfl
  have t1 := tc_lookup
  have t2 := tc_bind (.ref C)
  have ty : (⟨hp, gs, dr, tk, os⟩ : Shared).TypeIs (.ref C) "type" := ⟨_, cls, rfl⟩
  refine codeAny_of_tree ?_
  show wpAny _ _ (callAny (.ref C) ⟨rest, []⟩) _ _ _
  repeat (any_goals (first
    | with_reducible refine wpAny_loadPart_at cls ?_
    | assumption
    | wp_step))
  refine ⟨rfl, codeAny_call_builtin_at (Code.quiet_builtin _ (by decide +kernel)) entry_typeCall (wpAny_check_type_call_sub cls (lk_call ((cX _).trans (by decide +kernel)) ((cX _).trans (by decide +kernel)) ((cX _).trans (by decide +kernel)) cls li lb lr ?_))⟩
  refine codeAny_mono q fun r s' z => ?_
  match r, z with
  | .error _, z => exact z
  | .ok .next, z => exact z
  | .ok .brk, z => exact z
  | .ok .cont, z => exact z
  | .ok (.ret v), z => exact z
end
section
variable {prog : Program} {w : World} {A : Around} {E : Value → Shared → Prop} {s : Shared} {h₀ : Heap} {L : Addr} {m : Str → Option Value} {news : List (Addr × Obj)} {K : Frag} {x C u t : Addr} {dv : Option Addr} {c2 : Value} {rest : List Value} {nws : Obj → List (Addr × Obj)}
theorem ke_sup {Q : Value → Shared → Prop} (f : Fr h₀ L s.heap m) (X : K.In h₀) (n : News h₀ L s.heap news) (ei : excInitIn K C keT "LookupError.__new__" = true) (hu : (u, kxs_mw "KeyError.__init__" x) ∈ news) (up : UpdF x (excObj C t dv c2) news nws)
    (lr : rest.length ≤ sizeLine) (q : ∀ t' h', Fr h₀ L h' m → News h₀ L h' ((t', excTup rest) :: nws (excObj C t' dv c2)) → (∀ p ∈ news, p.1 < t') → Q .none { s with heap := h' }) : wpAny (model prog w) A (call (.ref u) rest) Q E s := by
  obtain ⟨nm, N', qn, bs, bm, hdct, sn, sub, ab, col, dd, k0, k1, k2, k3, k5, cls, _⟩ := excInit_of (X.keeps f.keep) ei
  have gu := (n _ hu).1
  obtain ⟨pre, post, rfl, un, l1, l2⟩ := up.split
  have gx := (n (x, excObj C t dv c2) (List.mem_append_right _ List.mem_cons_self)).1
  have lt : ∀ p ∈ pre ++ (x, excObj C t dv c2) :: post, p.1 < s.heap.objs.size := fun p hp => Heap.lt_size (n p hp).1
  have fin : ∀ h', (∀ b o, b ≠ x → s.heap.get? b = some o → h'.get? b = some o) → h'.get? x = some (excObj C s.heap.objs.size dv c2) → h'.get? s.heap.objs.size = some (excTup rest) → Q .none { s with heap := h' } := by
    intro h' keep gx' gt'
    obtain ⟨oL, es, ep, gL, nsr⟩ := f.ns
    have nx := (n (x, excObj C t dv c2) (List.mem_append_right _ List.mem_cons_self)).2
    have keep0 : ∀ b o, h₀.get? b = some o → h'.get? b = some o := fun b o z => keep b o (fun y => by
      rw [y, nx.2] at z
      cases z) (f.keep b o z)
    refine q s.heap.objs.size h' ⟨⟨oL, es, ep, keep _ _ (fun z => nx.1 z.symm) gL, nsr⟩, keep0, f.above⟩ ?_ lt
    rw [un]
    intro p hp
    have lL := Heap.lt_size (show s.heap.get? L = some oL from gL)
    rcases List.mem_cons.mp hp with rfl | hp
    · refine ⟨gt', fun z => absurd (show s.heap.objs.size < s.heap.objs.size by rw [show s.heap.objs.size = L from z] at lL ⊢; exact lL) (Nat.lt_irrefl _), ?_⟩
      cases z : h₀.get? s.heap.objs.size with
      | none => rfl
      | some o => exact absurd (Heap.lt_size (f.keep _ _ z)) (Nat.lt_irrefl _)
    · rcases List.mem_append.mp hp with hp | hp
      · have y := n p (List.mem_append_left _ hp)
        exact ⟨keep _ _ (l1 p hp) y.1, y.2⟩
      · rcases List.mem_cons.mp hp with rfl | hp
        · exact ⟨gx', nx⟩
        · have y := n p (List.mem_append_right _ (List.mem_cons_of_mem _ hp))
          exact ⟨keep _ _ (l2 p hp) y.1, y.2⟩
  obtain ⟨hp, gs, dr, tk, os⟩ := s
  refine wpAny_call (codeAny_of_tree ?_)
  show wpAny _ A.in1 (callAny (.ref u) ⟨rest, []⟩) _ _ _
  simp only [callAny]
  refine wpAny_bind (wpAny_load gu ?_)
  have mw : (Value.type "method-wrapper" == Value.type "method" || Value.type "method-wrapper" == Value.type "builtin_function_or_method" || Value.type "method-wrapper" == Value.type "method-wrapper") = true := by decide
  simp only [kxs_mw, mw, if_true]
  refine KFB.if_so (by decide) (wpAny_bind (ke_checked cls gx rfl (wpAny_bind (wpAny_pure (wpAny_pure ?_)))))
  exact ⟨plainId_quiet excClass_KeyError.init.plain _, codeAny_builtin excClass_KeyError.initEntry (exc_init_tree (cls := .ref C) (t0 := t) (dv := dv) (c2 := c2) (c3 := .none) (b4 := .bool false) gx lr fin)⟩
end
theorem base_KeyError : BaseX "KeyError" "LookupError.__new__" "KeyError.__init__" keT :=
  ⟨fun hT c li lb lr q => ke_own hT c li lb lr q, fun f X n ei hu up lr q => ke_sup f X n ei hu up lr q, kxs_keyE, keyE_pass, by decide +kernel, (fun _ _ h => nomatch h), (fun h => nomatch h)⟩
end EXV
end PySem

/-! Own layer: repr of nested data. repr asks that no repr is under way around it, so such defs promise only there (FnG). -/
namespace L2
open PySem PySem.Spec PyProof.Rows
/-! ### defs that are called where no repr is under way -/
structure FnG (P : Program) (w : World) (K : PySem.W.Frag) (mg : Str → Option Value) (base : Heap) (CX : CXT) (k : Nat) (f : Addr) (fd : FuncData) (ps : List Str) (sp : Sp) : Prop where
  len : ∀ vs H Q E, sp vs H Q E → vs.length = ps.length
  run : ∀ (A : Around) (outer : List Env) (s : Shared) (H : Hp) (args : Args) (us : List Value) (vs : List V) (Q : VK) (E : XK), Room k A → A.guards = some [] → Env0 P w K mg base A outer s H → BindsTo s fd args (ps.zip us) → Vals vs us → sp vs H Q E →
    codeAny (model P w) A (.call (.ref f) args) (CR CX outer P w H s Q E) s
section
variable {P : Program} {w : World} {K : PySem.W.Frag} {mg : Str → Option Value} {base : Heap} {CX : CXT} {k : Nat} {f : Addr} {fd : FuncData} {ps : List Str} {sp : Sp}
theorem FnOk.toG (F : FnOk P w K mg base CX k f fd ps sp) : FnG P w K mg base CX k f fd ps sp :=
  ⟨F.len, fun A outer s H args us vs Q E hr _ => F.run A outer s H args us vs Q E hr⟩
theorem FnG.mono {j : Nat} (F : FnG P w K mg base CX j f fd ps sp) (h : j ≤ k) : FnG P w K mg base CX k f fd ps sp :=
  ⟨F.len, fun A outer s H args us vs Q E hr => F.run A outer s H args us vs Q E (hr.mono h)⟩
/-- a def, by its body -/
theorem FunD.okG {x qual : Str} {params : Arguments} {body : List Stmt} {scope : Scope} {dvs : List V} {kws : List (Str × V)} {N : List Str} (F : FunD K x qual params body scope dvs kws f fd) (S : FnScope N ps scope) (len : ∀ vs H Q E, sp vs H Q E → vs.length = ps.length)
    (hbody : ∀ (cdv : Value) (A : Around) (outer : List Env) (s : Shared) (H : Hp) (vs : List V) (Q : VK) (E : XK), Room k (A.deeper (envOfC qual scope s.heap.objs.size f cdv)) → A.guards = some [] → sp vs H Q E →
      ∃ t, PSs (cxOf CX P w K mg base N qual scope f cdv A outer s H E) body t ∧ t { nx := fun _ H' => Q .non H', rt := Q } (start N vs) H) : FnG P w K mg base CX (k + 1) f fd ps sp := by
  obtain ⟨oc, od, dV, kV, doc, pm, an, cdv, ct, osl, rfl, lk, hcd, _, _⟩ := F.ex
  refine ⟨len, fun A outer s H args us vs Q E hr hg e0 hb r hsp => ?_⟩
  have hl := len _ _ _ _ hsp
  have KX : K.In s.heap := e0.mod.kin.keeps fun b o e => (e0.bs b o e).1
  have lim : s.heap.NoLimit := e0.mod.nolimit.keeps fun b o e => (e0.bs b o e).1
  refine codeAny_call_function hr.depth (KX _ _ lk) rfl S.co S.gen rfl (PySem.W.codeRec_of KX hcd) (hb _ _ _ _ ?_)
  refine wpAny_newFunctionEnv_cells S.kind (fun ⟨n, v⟩ hy => (S.par n (List.of_mem_zip hy).1).elim .inl fun q => .inr ⟨q, PySem.W.cellsFrom_some _ _ _ (.inl q)⟩) fun env he s1 x => ?_
  subst he
  refine ⟨lim.keeps x.toInCall.keep, codeAny_func ?_⟩
  obtain ⟨t, ht, hq⟩ := hbody cdv A outer s H vs Q E (hr.deeper _) hg hsp
  have I : Inv (cxOf CX P w K mg base N qual scope f cdv A outer s H E) [] (start N vs) H s1 := inv_start S hr.hd e0 hl r x
  refine wpAny_mono (ht.run [] s1 (start N vs) H _ I hq) (fun fl s' hs => ?_) fun e s' hs => hs
  cases fl with
  | ret u =>
    obtain ⟨v, σ', H', J, rv, q⟩ := hs
    exact ⟨v, H', J.os, J.bare, J.base, J.hok, rv, q⟩
  | next =>
    obtain ⟨σ', H', J, q⟩ := hs
    exact ⟨V.non, H', J.os, J.bare, J.base, J.hok, rfl, q⟩
  | brk => exact hs.elim fun _ h => h.elim fun _ h => h.2.elim
  | cont => exact hs.elim fun _ h => h.elim fun _ h => h.2.elim
end
section
variable {X : Cx} {CX : CXT} {k n : Nat} {f : Addr} {fd : FuncData} {ps ks : List Str} {sp : Sp} {dvs : List V} {ds : List Value} {E : XK} {x : Str} {p pos : Pos} {e : Expr} {es : List Expr} {kws : List Keyword} {t tk : TA} {g : List Value → List Value → List Value} {gV : List V → List V → List V}
theorem run_fnG {pins : List (Addr × Obj)} {σ : St} {H : Hp} {s : Shared} {Q : VK} {us : List Value} {vs : List V} (hA : X.A.guards = some []) (F : FnG X.prog X.w X.K X.mg X.base CX k f fd ps sp) (hr : Room k X.A) (hb : Binds X.K fd ps ds) (hd : Vals dvs ds) (hx : Passes CX X E)
    (I : Inv X pins σ H s) (r : Vals vs us) (h : sp (vs ++ dvs) H Q E) : wpAny (model X.prog X.w) X.A (call (.ref f) us) (EP X pins σ Q) X.xe s := by
  have r2 : Vals (vs ++ dvs) (us ++ ds) := r.append hd
  have hl : (us ++ ds).length = ps.length := by rw [← r2.length]; exact F.len _ _ _ _ h
  refine wpAny_call (codeAny_mono (F.run X.A X.stack s H ⟨us, []⟩ (us ++ ds) (vs ++ dvs) Q E hr hA I.env0 (hb s us I.kIn hl) r2 h) fun r s' hq => ?_)
  match r, hq with
  | .error e, hq => exact hx pins σ H s e s' I hq
  | .ok (.ret u), hq => exact I.after hq
  | .ok .next, hq => exact hq.elim
  | .ok .brk, hq => exact hq.elim
  | .ok .cont, hq => exact hq.elim
theorem pe_callG (hA : X.A.guards = some []) (F : FnG X.prog X.w X.K X.mg X.base CX k f fd ps sp) (hr : Room k X.A) (hg : Gl X x) (hm : X.mg x = some (.ref f)) (hk : PySem.W.keepIn X.K (.ref f) = true) (hb : Binds X.K fd ps ds) (hd : Vals dvs ds) (hx : Passes CX X E)
    (ha : PA X (e :: es) t) (hdb : (x == ("__debug__" : Str)) = false := by decide) (he : starEach (e :: es) X.env = (false, eval e X.env) :: starEach es X.env := by rfl) (hpl : (backTo pos (starEach es X.env)).any (·.1) = false := by rfl) :
    PE X (.Call (.Name x p) (e :: es) [] pos) (tCall sp dvs E t) := by
  refine ⟨fun pins s σ H Q I h => wpAny_Call_Name_kw (ld_glob I hg hm ?_ hdb)⟩
  exact PySem.W.callWith_K (h₀ := X.base) I.ok.mod.kin hk (thn (ha.run pos pins s σ H _ I h) fun us s1 ⟨vs, H1, I1, r, q⟩ => ⟨I1.kIn, run_fnG hA F hr hb hd hx I1 r q⟩) he hpl
theorem pe_callG0 (hA : X.A.guards = some []) (F : FnG X.prog X.w X.K X.mg X.base CX k f fd ps sp) (hr : Room k X.A) (hg : Gl X x) (hm : X.mg x = some (.ref f)) (hk : PySem.W.keepIn X.K (.ref f) = true) (hb : Binds X.K fd ps ds) (hd : Vals dvs ds) (hx : Passes CX X E)
    (hdb : (x == ("__debug__" : Str)) = false := by decide) : PE X (.Call (.Name x p) [] [] pos) (tCall sp dvs E tNil) := by
  refine ⟨fun pins s σ H Q I h => wpAny_Call_Name_kw (ld_glob I hg hm ?_ hdb)⟩
  exact PySem.W.callWith_K0 I.kIn hk (run_fnG (us := []) hA F hr hb hd hx I .nil h)
end
/-! ### data with dicts, as repr reads it -/
def keyD : Key → PyData
  | .inl i => .int i
  | .inr x => .str x
mutual
inductive Dx (K : PySem.W.Frag) (H : Hp) : V → PyData → Prop
  | non : Dx K H .non .none
  | bl (b : Bool) : Dx K H (.bl b) (.bool b)
  | int (i : Int) : Dx K H (.int i) (.int i)
  | str (x : Str) : Dx K H (.str x) (.str x)
  | lst {a : Addr} {xs : List V} {ds : List PyData} : SqL K H a xs → DxAll K H xs ds → Dx K H (.ref a) (.list ds)
  | tup {a : Addr} {xs : List V} {ds : List PyData} : SqT K H a xs → DxAll K H xs ds → Dx K H (.ref a) (.tuple ds)
  | dic {a : Addr} {ks : List (Key × V)} {kvs : List (PyData × PyData)} : Rd H a (.dK ks) → kvs.map (·.1) = ks.map (fun p => keyD p.1) → DxAll K H (ks.map (·.2)) (kvs.map (·.2)) → Dx K H (.ref a) (.dict kvs)
inductive DxAll (K : PySem.W.Frag) (H : Hp) : List V → List PyData → Prop
  | nil : DxAll K H [] []
  | cons {v : V} {vs : List V} {d : PyData} {ds : List PyData} : Dx K H v d → DxAll K H vs ds → DxAll K H (v :: vs) (d :: ds)
end
section
variable {X : Cx} {pins : List (Addr × Obj)} {σ : St} {H : Hp} {s : Shared}
theorem keys_read {h : Heap} : ∀ {es : List DictEntry} {vs : List (Key × Value)} {knd : PySem.KeyKind X.prog X.w Key}, knd.is = keyIs → Pairs knd es vs → ReadsAll h (es.map (·.key)) (vs.map fun q => keyD q.1) []
  | _, _, _, _, .nil => .nil
  | e :: es, q :: qs, knd, hk, .cons h1 h2 h3 => by
    have r := keys_read (h := h) hk h3
    rw [hk] at h1
    rcases keyIs_shape h1 with ⟨i, t, e1, e2⟩ | ⟨x, t, e1, e2⟩
    · rw [List.map_cons, List.map_cons, e1, e2]
      exact .cons (as := []) (.int i t) r
    · rw [List.map_cons, List.map_cons, e1, e2]
      exact .cons (as := []) (.str x t) r
theorem pairs_vals {es : List DictEntry} {vs : List (Key × Value)} {knd : PySem.KeyKind X.prog X.w Key} (h : Pairs knd es vs) : es.map (·.val) = vs.map (·.2) := by
  induction h with
  | nil => rfl
  | cons h1 h2 h3 ih => rw [List.map_cons, List.map_cons, h2, ih]
theorem kv_keys {ks : List (Key × V)} {vs : List (Key × Value)} (h : KV ks vs) : vs.map (fun q => keyD q.1) = ks.map (fun p => keyD p.1) := by
  unfold KV at h
  induction h with
  | nil => rfl
  | cons h1 h2 ih => rw [List.map_cons, List.map_cons, ih, h1.1]
theorem kv_vals {ks : List (Key × V)} {vs : List (Key × Value)} (h : KV ks vs) : Vals (ks.map (·.2)) (vs.map (·.2)) := by
  unfold KV at h
  induction h with
  | nil => exact .nil
  | cons h1 h2 ih => exact .cons h1.2 ih
end
end L2

namespace L2
open PySem PySem.Spec PyProof.Rows
section
variable {X : Cx} {pins : List (Addr × Obj)} {σ : St} {H : Hp} {s : Shared}
/-- the module's dict of modules is among the written part's objects -/
def HasSm (K : PySem.W.Frag) : Prop := ∃ o, K.lookup sysModules = some o ∧ o.cls = .type "dict"
mutual
theorem Dx.reads (I : Inv X pins σ H s) (sm : HasSm X.K) : ∀ (d : PyData) (v : V) (u : Value), Dx X.K H v d → RelV v u → ∃ as, Reads s.heap u d as ∧ sysModules ∉ as
  | .none, _, _, h, r => by cases h; cases r; exact ⟨_, Reads.none, by simp⟩
  | .bool b, _, _, h, r => by cases h; cases r; exact ⟨_, Reads.bool b, by simp⟩
  | .int i, _, _, h, r => by cases h; obtain ⟨t, rfl⟩ := r; exact ⟨_, Reads.int i t, by simp⟩
  | .str x, _, _, h, r => by cases h; obtain ⟨t, rfl⟩ := r; exact ⟨_, Reads.str x t, by simp⟩
  | .list ds, _, _, h, r => by
    cases h with
    | lst hs ha =>
      cases r
      obtain ⟨its, rv, ⟨o, n, ho, hc, _, hd⟩, _⟩ := I.list hs
      obtain ⟨as, hr, hn⟩ := Dx.readsAll I sm ds _ its ha rv
      refine ⟨_, Reads.list ho hc hd hr, fun hm => ?_⟩
      rcases List.mem_cons.mp hm with e | hm
      · obtain ⟨o', k1, k2⟩ := sm
        have q := I.kIn _ _ k1
        rw [e, ho] at q
        cases q
        rw [hc] at k2
        exact absurd k2 (by decide)
      · exact hn hm
  | .tuple ds, _, _, h, r => by
    cases h with
    | tup hs ha =>
      cases r
      obtain ⟨its, rv, ⟨o, ho, hc, n, hd⟩, _⟩ := I.tuple hs
      obtain ⟨as, hr, hn⟩ := Dx.readsAll I sm ds _ its ha rv
      exact ⟨_, Reads.tuple ho hc hd hr, hn⟩
  | .dict kvs, _, _, h, r => by
    cases h with
    | dic hs hk ha =>
      cases r
      obtain ⟨_, hsm, vs, rel, o, es, ep, ho, hx, hd, _, hp, _⟩ := dk_rd I.hok hs
      obtain ⟨bs, hr, hn⟩ := Dx.readsKv I sm kvs _ (vs.map (·.2)) ha (kv_vals rel)
      have r1 : ReadsAll s.heap (es.toList.map (·.key)) (kvs.map (·.1)) [] := by
        rw [hk, ← kv_keys rel]
        exact keys_read (X := X) rfl hp
      rw [← pairs_vals hp] at hr
      refine ⟨_, Reads.dict ho hx.1 hd r1 hr, fun hm => ?_⟩
      rcases List.mem_append.mp hm with hm | hm
      · rw [List.mem_singleton.mp hm] at hsm
        simp at hsm
      · exact hn hm
theorem Dx.readsAll (I : Inv X pins σ H s) (sm : HasSm X.K) : ∀ (ds : List PyData) (vs : List V) (us : List Value), DxAll X.K H vs ds → Vals vs us → ∃ as, ReadsAll s.heap us ds as ∧ sysModules ∉ as
  | [], _, _, h, r => by cases h; cases r; exact ⟨_, ReadsAll.nil, by simp⟩
  | d :: ds, _, _, h, r => by
    cases h with
    | cons h1 h2 =>
      cases r with
      | cons r1 r2 =>
        obtain ⟨as, q1, n1⟩ := Dx.reads I sm d _ _ h1 r1
        obtain ⟨bs, q2, n2⟩ := Dx.readsAll I sm ds _ _ h2 r2
        exact ⟨_, ReadsAll.cons q1 q2, fun hm => (List.mem_append.mp hm).elim n1 n2⟩
theorem Dx.readsKv (I : Inv X pins σ H s) (sm : HasSm X.K) : ∀ (kvs : List (PyData × PyData)) (vs : List V) (us : List Value), DxAll X.K H vs (kvs.map (·.2)) → Vals vs us → ∃ as, ReadsAll s.heap us (kvs.map (·.2)) as ∧ sysModules ∉ as
  | [], _, _, h, r => by cases h; cases r; exact ⟨_, ReadsAll.nil, by simp⟩
  | (k, d) :: ds, _, _, h, r => by
    rw [List.map_cons] at h ⊢
    cases h with
    | cons h1 h2 =>
      cases r with
      | cons r1 r2 =>
        obtain ⟨as, q1, n1⟩ := Dx.reads I sm d _ _ h1 r1
        obtain ⟨bs, q2, n2⟩ := Dx.readsKv I sm ds _ _ h2 r2
        exact ⟨_, ReadsAll.cons q1 q2, fun hm => (List.mem_append.mp hm).elim n1 n2⟩
end
/-- what repr may be asked of: ints of less than 1920 bits, nested at most 60 deep, a text that fits -/
def Fine (d : PyData) : Prop := d.showable = true ∧ d.depth ≤ 60 ∧ d.shown.length ≤ sizeLine
def rReprD (K : PySem.W.Frag) : List V → Hp → VK → Prop := fun xs H Q => ∃ x d, xs = [x] ∧ Dx K H x d ∧ Fine d ∧ Q (.str d.shown) H
theorem call_reprD (hA : X.A.guards = some []) (hu : X.A.units + 64 < cLine) (sm : HasSm X.K) : CallR X (.builtin "repr") (rReprD X.K) := by
  intro pins s σ H xs us Q I r h
  obtain ⟨x, d, rfl, hd, ⟨h1, h2, h3⟩, q⟩ := h
  obtain ⟨u, rfl, ru⟩ := vals1 r
  obtain ⟨as, hr, hn⟩ := Dx.reads I sm d x u hd ru
  have fin : ∀ (h' : Heap) (t : Tok) (tk : Nat), (∀ b o, s.heap.get? b = some o → h'.get? b = some o) → EP X pins σ Q (.str d.shown t) { s with heap := h', toks := tk } := fun h' t tk hk =>
    ⟨.str _, H, I.kept (t' := tk) hk, ⟨t, rfl⟩, q⟩
  cases hr with
  | none => exact PySem.P.repr_of_none (fin s.heap _ _ fun _ _ e => e)
  | bool b => exact PySem.P.repr_of_bool (fin s.heap _ _ fun _ _ e => e)
  | int i t => exact PySem.P.repr_of_int (by simpa [PyData.showable] using h1) (fin s.heap _ _ fun _ _ e => e)
  | str y t => exact PySem.P.repr_of_str (fin s.heap _ _ fun _ _ e => e) h3
  | list a1 a2 a3 a4 => exact repr_of_reads' (.list a1 a2 a3 a4) h1 (fun _ => hn) hA (by omega) (fun _ _ e => e) (fun h' u tk hk => fin h' u tk hk) h3
  | tuple a1 a2 a3 a4 => exact repr_of_reads' (.tuple a1 a2 a3 a4) h1 (fun _ => hn) hA (by omega) (fun _ _ e => e) (fun h' u tk hk => fin h' u tk hk) h3
  | dict a1 a2 a3 a4 a5 => exact repr_of_reads' (.dict a1 a2 a3 a4 a5) h1 (fun _ => hn) hA (by omega) (fun _ _ e => e) (fun h' u tk hk => fin h' u tk hk) h3
end
end L2

namespace L2
open PySem PySem.Spec PyProof.Rows
section
variable {P : Program} {w : World} {K : PySem.W.Frag} {mg mb : Str → Option Value} {s₁ : Shared}
/-- the state behind the top, seen with the objects of H tracked: none of them holds names, none is the written part's -/
theorem top_env0 (KX : K.In s₁.heap) (hns : s₁.heap.Ns mainGlobals mg) (hb : s₁.heap.Ns builtinsNs mb) (hbb : ∀ x : Str, x ≠ "__name__" → mb x = bootBuiltins x) (hlim : s₁.heap.NoLimit) (hg : s₁.gens = #[])
    {H : Hp} (hok : HOk P w H s₁.heap) (hA : ∀ b o, H b ≠ none → s₁.heap.get? b = some o → ∀ es ep, o.data ≠ .dict es ep) (hK : ∀ b, H b ≠ none → K.lookup b = none) :
    Env0 P w K mg (hidT s₁.heap H) callerA [] s₁ H ∧ K.In (hidT s₁.heap H) ∧ (hidT s₁.heap H).Ns mainGlobals mg := by
  have keepN : ∀ {b : Addr} {m : Str → Option Value}, s₁.heap.Ns b m → (hidT s₁.heap H).Ns b m := fun {b m} ⟨o, es, ep, e, d, r⟩ =>
    ⟨o, es, ep, hidT_get e (Classical.byContradiction fun z => hA b o z e es ep d), d, r⟩
  have keepK : K.In (hidT s₁.heap H) := fun b o e => hidT_get (KX b o e) (Classical.byContradiction fun z => by rw [hK b z] at e; cases e)
  refine ⟨⟨rfl, ⟨keepK, keepN hns, ⟨mb, keepN hb, hbb⟩, ?_⟩, fun b o e => of_hidT e, Nat.le_of_eq (hidT_size _ _), trivial, fun b hb => ?_, hok, .of_eq hg⟩, keepK, keepN hns⟩
  · obtain ⟨mc, h1, h2⟩ := hlim
    exact ⟨mc, keepN h1, h2⟩
  · exact absurd (show b ∈ ([] : List Addr) from hb) (List.not_mem_nil)
/-- the law's call: its def promises where no repr is under way -/
theorem law_callG {CX : CXT} {k : Nat} {fa a : Addr} {fd : FuncData} {x : Str} {sp : Sp} {vs : List Value} {ns : List Int}
    (KX : K.In s₁.heap) (hns : s₁.heap.Ns mainGlobals mg) (hb : s₁.heap.Ns builtinsNs mb) (hbb : ∀ x : Str, x ≠ "__name__" → mb x = bootBuiltins x) (hlim : s₁.heap.NoLimit) (hg : s₁.gens = #[])
    (ha : s₁.heap.get? a = some { cls := .type "list", data := .seq vs.toArray }) (hi : IntsAre vs ns) (hl : ns.length ≤ sizeLine) (hr : Room k callerA)
    (F : ∀ base : Heap, K.In base → base.Ns mainGlobals mg → FnG P w K mg base CX k fa fd [x] sp) (hbind : ∀ (s : Shared) (u : Value), BindsTo s fd ⟨[u], []⟩ [(x, u)])
    (hsp : ∀ H : Hp, Only H → SqL K H a (ns.map V.int) → sp [.ref a] H (fun v _ => v = .bl true) fun _ _ _ => False)
    (hCX : ∀ H e s', CX [] H s₁ (fun _ _ _ => False) e s' → False) :
    codeAny (model P w) callerA (.call (.ref fa) ⟨[.ref a], []⟩) (fun r s' => r = .ok (.ret (.bool true)) ∧ OldK s₁.heap s'.heap ∧ s'.os = s₁.os ∧ AllBare s'.gens) s₁ := by
  have rv := vals_ints hi
  -- once H is chosen
  have go : ∀ H : Hp, Only H → SqL K H a (ns.map V.int) → HOk P w H s₁.heap → (∀ b, H b ≠ none → b = a ∧ K.lookup b = none) →
      codeAny (model P w) callerA (.call (.ref fa) ⟨[.ref a], []⟩) (fun r s' => r = .ok (.ret (.bool true)) ∧ OldK s₁.heap s'.heap ∧ s'.os = s₁.os ∧ AllBare s'.gens) s₁ := by
    intro H hO hS hok hA
    obtain ⟨e0, b1, b2⟩ := top_env0 (P := P) (w := w) KX hns hb hbb hlim hg hok (fun b o z e es ep d => by
      rw [(hA b z).1, ha] at e
      cases e
      exact Data.noConfusion d) fun b z => (hA b z).2
    refine codeAny_mono ((F _ b1 b2).run callerA [] s₁ H ⟨[.ref a], []⟩ [.ref a] [.ref a] _ _ hr rfl e0 (hbind s₁ (.ref a)) (.cons rfl .nil) (hsp H hO hS)) fun r s' h => ?_
    match r, h with
    | .error e, h => exact (hCX H e s' h).elim
    | .ok .next, h => exact h.elim
    | .ok .brk, h => exact h.elim
    | .ok .cont, h => exact h.elim
    | .ok (.ret u), h =>
      obtain ⟨v, H', os, bare, un, hok', r', q⟩ := h
      have q2 : v = .bl true := q
      subst q2
      obtain rfl : u = Value.bool true := r'
      refine ⟨rfl, OldK.of_keep fun b o e => ?_, os, bare⟩
      rcases hO b with z | ⟨ob, xs, z⟩
      · exact un.keep b o e z (List.not_mem_nil) (List.not_mem_nil)
      · have e1 := (hok b _ z).1
        have e2 := (hok' b _ (un.frzs b ob _ z)).1
        rw [e] at e1
        cases e1
        exact e2
  cases hk : K.lookup a with
  | some o =>
    have e := KX a o hk
    rw [ha] at e
    cases e
    refine go (fun _ => none) (fun _ => .inl rfl) (.inr ⟨_, vs.toArray, _, hk, rfl, rfl, rfl, ?_, by simpa using rv⟩) (fun b u z => nomatch (show (none : Option HO) = some u from z)) fun b z => absurd rfl z
    rw [List.size_toArray, hi.length]
    exact hl
  | none =>
    have at_a : ∀ {b : Addr} {u : HO}, (if b = a then some (HO.frz { cls := .type "list", data := .seq vs.toArray } (.lst (ns.map V.int))) else none) = some u → b = a ∧ u = .frz { cls := .type "list", data := .seq vs.toArray } (.lst (ns.map V.int)) := fun {b u} z => by
      split at z
      · rename_i hb
        cases z
        exact ⟨hb, rfl⟩
      · cases z
    refine go (fun b => if b = a then some (.frz { cls := .type "list", data := .seq vs.toArray } (.lst (ns.map V.int))) else none) (fun b => ?_) (.inl (.inr ⟨{ cls := .type "list", data := .seq vs.toArray }, if_pos rfl⟩)) (fun b u z => ?_) fun b z => ?_
    · by_cases hb : b = a
      · exact .inr ⟨_, _, if_pos hb⟩
      · exact .inl (if_neg hb)
    · obtain ⟨rfl, rfl⟩ := at_a z
      exact ⟨ha, by rw [List.length_map]; exact hl, vs, _, rv, ha⟩
    · obtain ⟨u, hu⟩ := Option.ne_none_iff_exists'.mp z
      obtain ⟨rfl, _⟩ := at_a hu
      exact ⟨rfl, hk⟩
end
/-- a law over a head by facts, its def under no repr -/
theorem walk_ofG {l : PySem.W.OpenLaw} {n k : Nat} {q : Program} {loose : List Str} {XP : (Str → Option Value) → Heap → Prop} {YP : World → Heap → Prop} {d : DefRec} {CX : CXT} {x : Str}
    (hn : l.most = some n) (hn2 : n ≤ sizeLine) (hdf : d.params.defaults = []) (hr : Room k callerA)
    (F : ∀ (w : World) (mg : Str → Option Value) (fa : Addr) (h : Heap), YP w h → h.Ns mainGlobals mg → mg d.name = some (.ref fa) →
      ∃ (K : PySem.W.Frag) (fd : FuncData) (sp : Sp), K.In h ∧ (∀ (s : Shared) (u : Value), BindsTo s fd ⟨[u], []⟩ [(x, u)]) ∧
        (∀ (H : Hp) (a : Addr) (ns : List Int), ns.length ≤ n → Only H → SqL K H a (ns.map V.int) → sp [.ref a] H (fun v _ => v = .bl true) fun _ _ _ => False) ∧
        ∀ base : Heap, K.In base → base.Ns mainGlobals mg → FnG l.prog w K mg base CX k fa fd [x] sp)
    (hCX : ∀ (H : Hp) (s : Shared) (e : Value) (s' : Shared), CX [] H s (fun _ _ _ => False) e s' → False) :
    PySem.W.WalkO q loose XP YP l.row.toRowW d [] (fun f vs => PySem.call f vs) := by
  refine Att.attach_call hn hdf fun w s₀ s₁ mg mb fa o pm cd doc a vs ns G Y ho hd hcd hmg hobj hints hlen hg => ?_
  obtain ⟨K, fd, sp, KX, hb, hsp, hF⟩ := F w mg fa _ Y G.T.g hmg
  exact law_callG KX G.T.g G.T.b G.T.builtins G.T.nolimit hg hobj hints (Nat.le_trans hlen hn2) hr hF hb (fun H => hsp H a ns hlen) fun H e s' => hCX H s₁ e s'
end L2

namespace PySem
namespace EXV
open PySem.W PySem.Calls PyProof.Rows PySem.HandSPX He L2
/-! ### a Hook: facts, defs, any tests of the written part, own error classes -/
abbrev FnC : Type := Option (Str × Str × Arguments × FuncBody × Scope × Addr × List Str × Value × Value × Addr)
def fnC (K : Frag) (a : Addr) : FnC := match K.lookup a with
  | some ⟨_, _, .func fd, _⟩ => some (fd.name, fd.qualname, fd.params, fd.body, fd.scope, fd.globals, fd.closure.map (·.1), fd.defaults, fd.kwdefaults, fd.builtins)
  | _ => none
/-- the text of an own error class: its name, its __init__'s qualified name, the field, the message, the places -/
structure ExD where
  x : Str
  q : Str
  fld : Str
  txt : Str
  k : Nat
  p : Nat → Pos
  p1 : Pos
  p2 : Pos
  b : Nat := 0
/-- the bases: 0 ValueError, 1 LookupError, 2 KeyError -/
def bNm : Nat → String
  | 0 => "ValueError"
  | 1 => "LookupError"
  | _ => "KeyError"
def bNw : Nat → String
  | 0 => "ValueError.__new__"
  | _ => "LookupError.__new__"
def bIn : Nat → String
  | 0 => "ValueError.__init__"
  | 1 => "LookupError.__init__"
  | _ => "KeyError.__init__"
def bTl : Nat → List Value
  | 0 => [.type "ValueError", .type "Exception", .type "BaseException", .type "object"]
  | 1 => [.type "LookupError", .type "Exception", .type "BaseException", .type "object"]
  | _ => keT
theorem b_base : ∀ b : Nat, BaseX (bNm b) (bNw b) (bIn b) (bTl b)
  | 0 => base_ValueError
  | 1 => base_LookupError
  | _ + 2 => base_KeyError
def ExD.val (d : ExD) : FnC := some ("__init__", d.q, xArgs d.fld d.p1 d.p2, .stmts (xBody d.fld d.txt d.k d.p), xScope d.fld, mainGlobals, ["__class__"], .none, .none, builtinsNs)
def clsB (nw : String) (T : List Value) (K : Frag) (C : Addr) : Bool := match K.lookup C with
  | some ⟨.type "type", _, .cls cd, sl⟩ => (match cd.mro, sl.toList with
    | .ref C' :: bm, [_, _, _, _, some (.builtin n), _] => C' == C && n == nw && !cd.hasDel && cd.hasDict && refsT T bm
    | _, _ => false)
  | _ => false
theorem clsB_ok {nw : String} {T : List Value} {K : Frag} {C : Addr} (h : clsB nw T K C = true) :
    ∃ nm q N bs bm sn sub ab col dd k0 k1 k2 k3 k5, K.lookup C = some (excClassObj nm q C N bs bm true sn sub ab col dd k0 k1 k2 k3 k5 nw) ∧ refsT T bm = true := by
  unfold clsB at h
  split at h
  · rename_i dd cd sl ho
    split at h
    · rename_i C' bm k0 k1 k2 k3 n k5 hm hs
      simp only [Bool.and_eq_true, beq_iff_eq, Bool.not_eq_true'] at h
      obtain ⟨⟨⟨⟨rfl, rfl⟩, h1⟩, h2⟩, h3⟩ := h
      obtain ⟨nm, bs, mro, ns, qn, hd, sn, sub, ab, col, del⟩ := cd
      dsimp only at hm h1 h2
      subst hm h1 h2
      obtain ⟨l⟩ := sl
      have hl : l = [k0, k1, k2, k3, some (.builtin n), k5] := hs
      subst hl
      exact ⟨nm, qn, ns, bs, bm, sn, sub, ab, col, dd, k0, k1, k2, k3, k5, ho, h3⟩
    · cases h
  · cases h
def fileB (K : Frag) (cd : Value) (file : Str) : Bool := match cd with
  | .ref c => (match K.lookup c with
    | some (⟨_, _, .fields vs, _⟩ : Obj) => (match (vs[2]? : Option Value) with
      | some (.str f _) => file == f
      | _ => false)
    | _ => false)
  | _ => false
theorem fileB_ok {K : Frag} {c : Addr} {file : Str} (h : fileB K (.ref c) file = true) :
    ∃ ccl cdd vs ccs f tf, K.lookup c = some ⟨ccl, cdd, .fields vs, ccs⟩ ∧ vs[2]? = some (.str f tf) ∧ (file == f) = true := by
  have h1 : (match K.lookup c with
    | some (⟨_, _, .fields vs, _⟩ : Obj) => (match (vs[2]? : Option Value) with
      | some (.str f _) => file == f
      | _ => false)
    | _ => false) = true := h
  split at h1
  · rename_i a b vs d e
    split at h1
    · rename_i f t e2
      exact ⟨_, _, _, _, _, _, e, e2, h1⟩
    · cases h1
  · cases h1
def cellB (K : Frag) (C : Addr) (l : List (Str × Addr)) : Bool := match l with
  | [(_, cc)] => (match K.lookup cc with
    | some ⟨_, _, .cell (some (.ref D)), _⟩ => D == C
    | _ => false)
  | _ => false
theorem cellB_ok {K : Frag} {C cc : Addr} {y : Str} (h : cellB K C [(y, cc)] = true) : ∃ cl cld csl, K.lookup cc = some ⟨cl, cld, .cell (some (.ref C)), csl⟩ := by
  have h1 : (match K.lookup cc with
    | some ⟨_, _, .cell (some (.ref D)), _⟩ => D == C
    | _ => false) = true := h
  split at h1
  · rename_i a b D d e
    rw [beq_iff_eq] at h1
    rw [← h1]
    exact ⟨_, _, _, e⟩
  · cases h1
def initB (K : Frag) (C fI : Addr) (q file : Str) : Bool := match K.lookup fI with
  | some ⟨_, _, .func fd, _⟩ => codeIn K fd.code q && fileB K fd.code file && cellB K C fd.closure
  | _ => false
def fldB (fld : Str) : Bool := (fld == ("self" : Str)) == false && ((("self" : Str) == fld) == false && ((fld == ("__class__" : Str)) == false && ((("__class__" : Str) == fld) == false && ((fld == ("super" : Str)) == false && ((("super" : Str) == fld) == false && (fld == ("__debug__" : Str)) == false)))))
def ExD.ok (file : Str) (K : Frag) (d : ExD) : Bool :=
  let C := ga K d.x
  let fI := ma K C "__init__"
  eqO (nsIn K mainGlobals d.x) (some (some (.ref C))) && (clsB (bNw d.b) (bTl d.b) K C && (eqO (findIn K (.ref C) "__setattr__") (some (some (.builtin "object.__setattr__"))) && (eqO (findIn K (.ref C) "__getattribute__") (some (some (.builtin "BaseException.__getattribute__"))) &&
  (eqO (findIn K (.ref C) "__getattr__") (some none) && (eqO (findIn K (.ref C) d.fld) (some none) && (eqO (findIn K (.ref C) "__init__") (some (some (.ref fI))) && (decide (typeIn K (.ref fI) = some (.type "function")) && (keepIn K (.ref C) &&
  (decide (subIn K (.ref C) (.type "BaseException") = some true) && (decide (subIn K (.ref C) (.type (bNm d.b)) = some true) && (decide (typeIn K (.ref C) = some (.type "type")) && (hasDictIn K C && (eqO (ks_superIn K C C "__init__") (some (some (.builtin (bIn d.b)))) &&
  (excInitIn K C (bTl d.b) (bNw d.b) && (decide (mroIn K C (.ref C) = some true) && (eqO (nsIn K cStatics "thirdparty.any") (some none) && (eqO (nsIn K mainGlobals "super") (some none) &&
  (initB K C fI d.q file && (((d.p 2).endLine == (d.p 4).line) && fldB d.fld)))))))))))))))))))
theorem ExD.toTxt {P : Program} {K : Frag} {h : Heap} {mg : Str → Option Value} {d : ExD} {file : Str} (X : K.In h) (G : h.Ns mainGlobals mg) (e : fnC K (ma K (ga K d.x) "__init__") = d.val) (c : d.ok file K = true) (hf : P.main.file = file)
    (topS : (P.main.scope.names.lookup ("super" : Str)).isSome = false)
    (hb : ∀ (doc pm : Value) (an : Option Addr) (cdv ct : Value) (cc : Addr) (a b : Value), bindArgs (ksFn "__init__" d.q (xArgs d.fld d.p1 d.p2) (xBody d.fld d.txt d.k d.p) (xScope d.fld) .none .none doc pm an cdv ct cc) ⟨[a, b], []⟩ = pure [(("self" : Str), a), (d.fld, b)]) :
    ExcTxt P K mg d.x d.q d.fld (ga K d.x) (ma K (ga K d.x) "__init__") := by
  unfold ExD.ok at c
  simp only [Bool.and_eq_true] at c
  obtain ⟨c1, c2, c3, c4, c5, c6, c7, c8, c9, c10, c11, c12, c13, c14, c15, c16, c17, c18, c19, c20, c21⟩ := c
  refine { gC := mg_of X G (eqO_ok c1), base := ⟨_, _, _, _, b_base d.b, clsB_ok c2, of_decide_eq_true c11, eqO_ok c14, c15⟩, sa := eqO_ok c3, ga := eqO_ok c4, gg := eqO_ok c5, noN := eqO_ok c6, iC := eqO_ok c7, tC := of_decide_eq_true c8, kC := c9, exC := of_decide_eq_true c10,
           tyC := of_decide_eq_true c12, hdC := c13, self := of_decide_eq_true c16, third := eqO_ok c17, noS := eqO_ok c18, fn := ?_, fldOk := ?_, topS := topS }
  · unfold initB at c19
    unfold fnC at e
    split at c19
    · rename_i oc od fd osl ho
      rw [ho] at e
      obtain ⟨n1, n2, n3, n4, n5, n6, n7, n8, n9, n10, n11, n12, n13, n14, n15⟩ := fd
      have e2 : (some (n1, n2, n3, n4, n5, n6, n7.map (·.1), n8, n9, n15) : FnC) = d.val := e
      unfold ExD.val at e2
      simp only [Option.some.injEq, Prod.mk.injEq] at e2
      obtain ⟨h1, h2, h3, h4, h5, h6, h7, h8, h9, h10⟩ := e2
      subst h1 h2 h3 h4 h5 h6 h8 h9 h10
      match n7, h7 with
      | [(y, cc)], h7 =>
        obtain rfl : y = "__class__" := (List.cons.inj h7).1
        simp only [Bool.and_eq_true] at c19
        obtain ⟨⟨k1, k2⟩, k3⟩ := c19
        have k1' : codeIn K n13 d.q = true := k1
        obtain ⟨cda, rfl⟩ : ∃ c, n13 = .ref c := by
          cases n13 with
          | ref c => exact ⟨c, rfl⟩
          | _ => cases k1'
        refine ⟨oc, od, n10, n11, n12, cda, n14, osl, cc, d.txt, d.k, d.p, d.p1, d.p2, ho, k1', ?_, c20, cellB_ok k3, fun a b => hb _ _ _ _ _ _ _ _⟩
        rw [hf]
        exact fileB_ok k2
    · cases c19
  · unfold fldB at c21
    simp only [Bool.and_eq_true, beq_iff_eq] at c21
    exact c21
/-! the Hook -/
abbrev AlX : Type := Bool × List FnW × List FnC
def obsX (file : Str) (bs : List (Frag → Bool)) (fa : List Fa) (fn : List DefD) (ex : List ExD) (K : Frag) : AlX :=
  ((fa.all fun f => f.ok K) && ((fn.all fun d => d.ok K) && ((bs.all fun b => b K) && ex.all fun d => d.ok file K)), fn.map fun d => fnW K d.at_, ex.map fun d => fnC K (ma K (ga K d.x) "__init__"))
def valX (fn : List DefD) (ex : List ExD) : AlX := (true, fn.map DefD.val, ex.map ExD.val)
def SaysX (file : Str) (bs : List (Frag → Bool)) (fa : List Fa) (fn : List DefD) (ex : List ExD) (K : Frag) : Prop := obsX file bs fa fn ex K = valX fn ex
def obsXG (n : Nat) (file : Str) (bs : List (Frag → Bool)) (fa : List Fa) (fn : List DefD) (ex : List ExD) (g : Addr → Option Obj) : AlX := obsX file bs fa fn ex (frG g (asD g n ++ [cStatics, sysModules]))
def hookX (n : Nat) (file : Str) (bs : List (Frag → Bool)) (fa : List Fa) (fn : List DefD) (ex : List ExD) : Hook where
  α := AlX
  obs := fun s => obsXG n file bs fa fn ex s.heap.get?
  val := fun _ => valX fn ex
  says := fun _ h => ∃ K : Frag, K.In h ∧ SaysX file bs fa fn ex K
  of := fun _ _ e => ⟨_, frG_in, e⟩
  keeps := fun _ _ _ ⟨K, hK, c⟩ k => ⟨K, Frag.In.keeps hK k, c⟩
/-- the same over given addresses: no walk through the heap to find them -/
def obsYG (as : List Addr) (file : Str) (bs : List (Frag → Bool)) (fa : List Fa) (fn : List DefD) (ex : List ExD) (g : Addr → Option Obj) : AlX := obsX file bs fa fn ex (frG g as)
def hookY (as : List Addr) (file : Str) (bs : List (Frag → Bool)) (fa : List Fa) (fn : List DefD) (ex : List ExD) : Hook where
  α := AlX
  obs := fun s => obsYG as file bs fa fn ex s.heap.get?
  val := fun _ => valX fn ex
  says := fun _ h => ∃ K : Frag, K.In h ∧ SaysX file bs fa fn ex K
  of := fun _ _ e => ⟨_, frG_in, e⟩
  keeps := fun _ _ _ ⟨K, hK, c⟩ k => ⟨K, Frag.In.keeps hK k, c⟩
theorem obsYG_eq {as : List Addr} {file : Str} {bs : List (Frag → Bool)} {fa : List Fa} {fn : List DefD} {ex : List ExD} {g : Addr → Option Obj} {s : Shared} (h : ∀ a, g a = s.heap.get? a) : obsYG as file bs fa fn ex g = (hookY as file bs fa fn ex).obs s := by
  have e : g = s.heap.get? := funext h
  rw [e] <;> rfl
theorem obsXG_eq {n : Nat} {file : Str} {bs : List (Frag → Bool)} {fa : List Fa} {fn : List DefD} {ex : List ExD} {g : Addr → Option Obj} {s : Shared} (h : ∀ a, g a = s.heap.get? a) : obsXG n file bs fa fn ex g = (hookX n file bs fa fn ex).obs s := by
  have e : g = s.heap.get? := funext h
  rw [e] <;> rfl
section
variable {file : Str} {bs : List (Frag → Bool)} {fa : List Fa} {fn : List DefD} {ex : List ExD} {K : Frag}
theorem SaysX.all (c : SaysX file bs fa fn ex K) : ((fa.all fun f => f.ok K) && ((fn.all fun d => d.ok K) && ((bs.all fun b => b K) && ex.all fun d => d.ok file K))) = true := congrArg (fun z : AlX => z.1) c
theorem SaysX.fact (c : SaysX file bs fa fn ex K) (i : Nat) {f : Fa} (h : fa[i]? = some f := by rfl) : f.ok K = true := List.all_eq_true.mp (ba c.all).1 f (List.mem_of_getElem? h)
theorem SaysX.test (c : SaysX file bs fa fn ex K) (i : Nat) {b : Frag → Bool} (h : bs[i]? = some b := by rfl) : b K = true := List.all_eq_true.mp (ba (ba (ba c.all).2).2).1 b (List.mem_of_getElem? h)
theorem SaysX.def_ (c : SaysX file bs fa fn ex K) (i : Nat) {d : DefD} (h : fn[i]? = some d := by rfl) : ∃ fd, FunD K d.name d.qual d.params d.body d.scope (d.dvs K) (d.kws K) (fAd K d.at_) fd := by
  have c2 := (ba (ba c.all).2).1
  have e : fn.map (fun d => fnW K d.at_) = fn.map DefD.val := congrArg (fun z : AlX => z.2.1) c
  have e2 : (fn.map fun d => fnW K d.at_)[i]? = (fn.map DefD.val)[i]? := by rw [e]
  rw [List.getElem?_map, List.getElem?_map, h] at e2
  exact DefD.funD (Option.some.inj e2) (List.all_eq_true.mp c2 d (List.mem_of_getElem? h))
theorem SaysX.exc (c : SaysX file bs fa fn ex K) {P : Program} {h : Heap} {mg : Str → Option Value} (X : K.In h) (G : h.Ns mainGlobals mg) (hf : P.main.file = file) (topS : (P.main.scope.names.lookup ("super" : Str)).isSome = false) (i : Nat) {d : ExD} (hd : ex[i]? = some d := by rfl)
    (hb : ∀ (doc pm : Value) (an : Option Addr) (cdv ct : Value) (cc : Addr) (a b : Value), bindArgs (ksFn "__init__" d.q (xArgs d.fld d.p1 d.p2) (xBody d.fld d.txt d.k d.p) (xScope d.fld) .none .none doc pm an cdv ct cc) ⟨[a, b], []⟩ = pure [(("self" : Str), a), (d.fld, b)]) :
    ExcTxt P K mg d.x d.q d.fld (ga K d.x) (ma K (ga K d.x) "__init__") := by
  have c2 := (ba (ba (ba c.all).2).2).2
  have e : ex.map (fun d => fnC K (ma K (ga K d.x) "__init__")) = ex.map ExD.val := congrArg (fun z : AlX => z.2.2) c
  have e2 : (ex.map fun d => fnC K (ma K (ga K d.x) "__init__"))[i]? = (ex.map ExD.val)[i]? := by rw [e]
  rw [List.getElem?_map, List.getElem?_map, hd] at e2
  exact ExD.toTxt X G (Option.some.inj e2) (List.all_eq_true.mp c2 d (List.mem_of_getElem? hd)) hf topS hb
end
def smB (K : Frag) : Bool := match K.lookup sysModules with
  | some ⟨.type c, _, _, _⟩ => c == "dict"
  | _ => false
theorem smB_ok {K : Frag} (h : smB K = true) : L2.HasSm K := by
  unfold smB at h
  split at h
  · rename_i c a b d e
    rw [beq_iff_eq] at h
    subst h
    exact ⟨_, e, rfl⟩
  · cases h
end EXV
end PySem

namespace L2
open PySem PySem.Spec PyProof.Rows
/-! ### try with several clauses, each by one name, with or without 'as'; clauses that are never reached may be of any form -/
inductive Cl where
  | one (c : Value) (ts : Addr → Value → Option Addr → TS)
  | as_ (c : Value) (i : Nat) (ts : Addr → Value → Option Addr → TS)
/-- the ends of a suite whose name goes at its end -/
abbrev goneE (i : Nat) (D : Ends) : Ends := { nx := fun σ' H' => D.nx (σ'.set i none) H', rt := D.rt, bk := fun σ' H' => D.bk (σ'.set i none) H', ct := fun σ' H' => D.ct (σ'.set i none) H' }
def wG (K : PySem.W.Frag) (D : Ends) : List Cl → WX
  | [] => fun _ _ _ _ => False
  | .one c ts :: r => fun cls d σ H => ∃ b, PySem.W.exmOne K cls c = some b ∧ (b = true → ∀ a, H a = none → ts a cls d D σ H) ∧ (b = false → wG K D r cls d σ H)
  | .as_ c i ts :: r => fun cls d σ H => ∃ b, PySem.W.exmOne K cls c = some b ∧ (b = true → ∀ a, H a = none → ts a cls d (goneE i D) (σ.set i (some (.ref a))) H) ∧ (b = false → wG K D r cls d σ H)
/-- a suite of a clause -/
abbrev SuOk (X : Cx) (suite : List Stmt) (ts : Addr → Value → Option Addr → TS) : Prop :=
  ∀ (a : Addr) (oe : Obj) (cls : Value) (d : Option Addr) (pn : List (Addr × Obj)), Zc cls d oe → (∃ vs, oe.data = .fields vs) → PSs (X.suite a ((a, oe) :: pn)) suite (ts a cls d)
inductive HdsG (X : Cx) : List ExceptHandler → List Cl → Prop
  | stop {hds : List ExceptHandler} : HdsG X hds []
  | one {x : Str} {c : Value} {ts : Addr → Value → Option Addr → TS} {b₀ : Stmt} {suite : List Stmt} {np pos' : Pos} {hds : List ExceptHandler} {l : List Cl} (hc : Names X x c) (hsu : SuOk X (b₀ :: suite) ts) (r : HdsG X hds l) :
      HdsG X (.ExceptHandler (some (.Name x np)) none (b₀ :: suite) pos' :: hds) (.one c ts :: l)
  | as_ {x n : Str} {c : Value} {i : Nat} {ts : Addr → Value → Option Addr → TS} {b₀ : Stmt} {suite : List Stmt} {np pos' : Pos} {hds : List ExceptHandler} {l : List Cl} (hN : X.N.Nodup) (hi : X.N[i]? = some n) (hln : X.env.kindOf n = some .local) (hc : Names X x c)
      (hsu : SuOk X (b₀ :: suite) ts) (r : HdsG X hds l) : HdsG X (.ExceptHandler (some (.Name x np)) (some n) (b₀ :: suite) pos' :: hds) (.as_ c i ts :: l)
section
variable {X : Cx} {body : List Stmt} {h₀ : ExceptHandler} {hds : List ExceptHandler} {l : List Cl} {pos : Pos} {tb : WX → TS}
theorem ps_tryG (hs : X.stack = X.env :: X.outer) (hf : X.env.frame = some X.env.locals)
    (hb : ∀ (W : WX) (pn : List (Addr × Obj)) (xe : Value → Shared → Prop), Takes (X.tr pn xe) W → PassesOwn (model X.prog X.w) X.A X.env xe → PSs (X.tr pn xe) body (tb W))
    (hh : HdsG X (h₀ :: hds) l) : PS X (.Try body (h₀ :: hds) [] [] pos) (fun D σ H => tb (wG X.K D l) D σ H) := by
  refine ⟨fun pins s σ H D I h => ?_⟩
  have ok := I.ok
  have hfr : X.A.frames = some (X.env :: X.outer) := by rw [ok.frames, hs]
  -- an end of the body, of a suite
  have done : ∀ {f : Flow} {s1 : Shared} {pn : List (Addr × Obj)} {xe : Value → Shared → Prop}, SP (X.tr (X.pn ++ pins) xe) pn D f s1 → SP X pins D f s1 := fun {f s1 pn xe} hsp => by
    cases f with
    | next => obtain ⟨σ', H', J', q⟩ := hsp; exact ⟨σ', H', J'.ofTry ok, q⟩
    | brk => obtain ⟨σ', H', J', q⟩ := hsp; exact ⟨σ', H', J'.ofTry ok, q⟩
    | cont => obtain ⟨σ', H', J', q⟩ := hsp; exact ⟨σ', H', J'.ofTry ok, q⟩
    | ret u => obtain ⟨v, σ', H', J', r, q⟩ := hsp; exact ⟨v, σ', H', J'.ofTry ok, r, q⟩
  refine wpAny_Try_except ?_
  refine wpAny_mono ((hb (wG X.K D l) (X.pn ++ pins) (fun e s₁ => wpAny (model X.prog X.w) X.A (noteFrame e X.env) (fun _ s₂ => wpAny (model X.prog X.w) X.A (setFlight e none) (fun _ s₃ =>
    wpAny (model X.prog X.w) X.A (handleBy e X.env (h₀ :: hds)) (SP X pins D) X.xe s₃) X.xe s₂) X.xe s₁) (fun u s' xx => ?_) PassesOwn.looking).run [] s σ H D (I.toTry _) h) (fun f s1 hsp => ?_) (fun e s1 he => he)
  · obtain ⟨a, B, sI, pins', σ', H', cls, d, rfl, J', nb, up, sky, na, os, ag, w⟩ := xx
    have J : Inv X pins σ' H' sI := J'.ofTry ok
    have sky' : Sky B (X.env :: X.outer) a (Zc cls d) X.env.locals s'.heap := by rw [← hs]; exact sky
    show wpAny (model X.prog X.w) X.A (noteFrame (.ref a) X.env) _ _ _
    refine Sky.land Zc.steady hfr hf sky' fun h3 fl3 up3 => ?_
    have J3 : Inv X pins σ' H' { s' with heap := h3 } := J.landed nb fl3.1 (up.trans up3) os ag
    obtain ⟨oe3, vs3, he3, hz3, hd3⟩ := fl3.there
    have nfr : a ∉ frs (X.env :: X.outer) := fun hm => by
      obtain ⟨_, o', e', hnf⟩ := fl3.2.2.1.mem hm
      rw [he3] at e'
      cases e'
      exact hnf _ hd3
    have nL : a ≠ X.env.locals := fun z => nfr (List.mem_filterMap.mpr ⟨X.env, List.mem_cons_self, by rw [hf, z]⟩)
    have nF : a ∉ X.fs := fun hm => by
      obtain ⟨e, he, q⟩ := List.mem_filterMap.mp hm
      exact nfr (List.mem_filterMap.mpr ⟨e, List.mem_cons_of_mem _ he, q⟩)
    have S3 := J3.suite he3 hd3 na nL nF
    have LT : PySem.W.Looks (model X.prog X.w) h3 (typeOf (.ref a)) cls := fun A Q E s k q => wpAny_typeOf_ref (k _ _ he3) (by rw [hz3.1]; exact q)
    have test : ∀ {x : Str} {np : Pos} {c : Value} {Q E : Value → Shared → Prop}, Names X x c → Q c { s' with heap := h3 } → wpAny (model X.prog X.w) (X.A.mark (some (.ref a))) (eval (.Name x np) X.env) Q E { s' with heap := h3 } := fun hc q => by
      obtain ⟨hg, hdbg, hm | ⟨hm, hv, hnn⟩⟩ := hc
      · exact ld_glob (X := X.suite a ((a, oe3) :: (X.pn ++ pins))) S3 hg hm q hdbg
      · exact ld_blt (X := X.suite a ((a, oe3) :: (X.pn ++ pins))) S3 hg hm hv q hnn hdbg
    have go : ∀ {hds' : List ExceptHandler} {l' : List Cl}, HdsG X hds' l' → wG X.K D l' cls d σ' H' → wpAny (model X.prog X.w) X.A (handleBy (.ref a) X.env hds') (SP X pins D) X.xe { s' with heap := h3 } := by
      intro hds' l' hk
      induction hk with
      | stop => exact fun w => False.elim w
      | one hc hsu r ih =>
        intro w
        obtain ⟨b, hb1, hyes, hno⟩ := w
        refine wpAny_handleBy_cons (codeAny_handlers_test ?_) (by intro q; cases q)
        refine test hc ((PySem.W.exm_one (M := model X.prog X.w) J3.kIn LT hb1).here ?_)
        cases b with
        | false => exact ih (hno rfl)
        | true =>
          refine codeAny_handlers_suite (HandSPX.lands_againZ fl3 fun h4 fl4 up4 => ?_)
          have J4 : Inv X pins σ' H' { s' with heap := h4 } := J.landed nb fl4.1 ((up.trans up3).trans up4) os ag
          obtain ⟨oe4, vs4, he4, hz4, hd4⟩ := fl4.there
          refine wpAny_mono ((hsu a oe4 cls d (X.pn ++ pins) hz4 ⟨_, hd4⟩).run [] _ _ H' _ (J4.suite he4 hd4 na nL nF) (hyes rfl a na)) (fun f s6 hsp => ?_) (fun _ _ z => False.elim z)
          cases f with
          | next => obtain ⟨σ6, H6, S6, q6⟩ := hsp; exact ⟨_, _, S6.unsuite ok, q6⟩
          | brk => obtain ⟨σ6, H6, S6, q6⟩ := hsp; exact ⟨_, _, S6.unsuite ok, q6⟩
          | cont => obtain ⟨σ6, H6, S6, q6⟩ := hsp; exact ⟨_, _, S6.unsuite ok, q6⟩
          | ret u => obtain ⟨v6, σ6, H6, S6, r6, q6⟩ := hsp; exact ⟨_, _, _, S6.unsuite ok, r6, q6⟩
      | as_ hN hi hln hc hsu r ih =>
        intro w
        obtain ⟨b, hb1, hyes, hno⟩ := w
        refine wpAny_handleBy_cons (codeAny_handlers_test ?_) (by intro q; cases q)
        refine test hc ((PySem.W.exm_one (M := model X.prog X.w) J3.kIn LT hb1).here ?_)
        cases b with
        | false => exact ih (hno rfl)
        | true =>
          refine codeAny_handlers_suite_as (HandSPX.lands_againZ fl3 fun h4 fl4 up4 => ?_)
          have J4 : Inv X pins σ' H' { s' with heap := h4 } := J.landed nb fl4.1 ((up.trans up3).trans up4) os ag
          obtain ⟨oe4, vs4, he4, hz4, hd4⟩ := fl4.there
          refine store_ok (X := X.suite a ((a, oe4) :: (X.pn ++ pins))) (v := .ref a) (J4.suite he4 hd4 na nL nF) hN hi (.inl hln) rfl (fun s5 S5 => ?_) (.inr hln)
          refine wpAny_mono ((hsu a oe4 cls d (X.pn ++ pins) hz4 ⟨_, hd4⟩).run [] s5 _ H' _ S5 (hyes rfl a na)) (fun f s6 hsp => ?_) (fun _ _ z => False.elim z)
          cases f with
          | next => obtain ⟨σ6, H6, S6, q6⟩ := hsp; exact gone_ok (S6.unsuite ok) hN hi hln fun s7 J7 => ⟨_, _, J7, q6⟩
          | brk => obtain ⟨σ6, H6, S6, q6⟩ := hsp; exact gone_ok (S6.unsuite ok) hN hi hln fun s7 J7 => ⟨_, _, J7, q6⟩
          | cont => obtain ⟨σ6, H6, S6, q6⟩ := hsp; exact gone_ok (S6.unsuite ok) hN hi hln fun s7 J7 => ⟨_, _, J7, q6⟩
          | ret u => obtain ⟨v6, σ6, H6, S6, r6, q6⟩ := hsp; exact gone_ok (S6.unsuite ok) hN hi hln fun s7 J7 => ⟨_, _, _, J7, r6, q6⟩
    exact go hh w
  · have r := done hsp
    cases f with
    | next => exact wpAny_execs_nil r
    | brk => exact r
    | cont => exact r
    | ret u => exact r
end
end L2

namespace PySem
namespace EXV
open PySem.W PySem.Calls PyProof.Rows PySem.Spec
section
variable {prog : Program} {w : World} {M : Model} {A : Around} {E : Value → Shared → Prop} {s : Shared} {K : Frag} {x C f : Addr} {ox : Obj} {od : Option Obj}
theorem ifBound_B {name : Str} {id : String} {args : List Value} {Q : Option Value → Shared → Prop} (X : K.In s.heap) (I : InstAt s.heap x ox C od) (hs : findIn K (.ref C) name = some (some (.builtin id)))
    (hb : ∀ self, bindSpecial (.builtin id) self = pure (.builtin id, [self])) (h : wpAny M A (call (.builtin id) (.ref x :: args)) (fun v => Q (some v)) E s) : wpAny M A (callSpecialIfBound? (.ref x) name args) Q E s := by
  simp only [callSpecialIfBound?, bindSpecialIfBound?]
  refine wpAny_holding (wpAny_bind (wpAny_bind (wpAny_bind (I.type.here ((looks_findIn X hs).here ?_)))))
  refine wpAny_bind (wpAny_askSetting (wpAny_ite ?_))
  have fin : wpAny M A (call (.builtin id) ([.ref x] ++ args) >>= fun v => pure (some v)) Q E s := wpAny_bind (wpAny_mono h (fun v s' h' => wpAny_pure h') fun _ _ h' => h')
  split
  · exact wpAny_bind ((Looks.of_pure (hb _)).here (wpAny_pure (by exact fin)))
  · exact wpAny_tryCatch (wpAny_bind ((Looks.of_pure (hb _)).here (wpAny_pure (by exact fin))))
open Builtin in
/-- x != b, x's class has its own __eq__, object's __ne__ -/
theorem ne_K {b tb : Value} {Q : Value → Shared → Prop} (hu : A.units + 1 < cLine) (X : K.In s.heap) (I : InstAt s.heap x ox C od) (hb : Looks (model prog w) s.heap (typeOf b) tb) (hn : notFirst K C tb = true)
    (hne : findIn K (.ref C) "__ne__" = some (some (.builtin "object.__ne__"))) (hm : mroIn K C (.type "object") = some true) (hs : findIn K (.ref C) "__eq__" = some (some (.ref f))) (hf : isFn K (.ref f) = true)
    (h : wpAny (model prog w) A.in1 (call (.ref f) [.ref x, b]) (fun v s' => ∃ r, v = .bool r ∧ Q (.bool (!r)) s') E s) : wpAny (model prog w) A (richCompare .NotEq (.ref x) b) Q E s := by
  have entry : wpAny (model prog w) A.in1 (Builtin.«object.__ne__» ⟨[.ref x, b], []⟩) (fun fin s' => ∃ v, fin = .done (.ret v) ∧ ∃ r, v = .bool (!r) ∧ Q (.bool (!r)) s') E s := by
    unfold Builtin.«object.__ne__»
    repeat (first
      | with_reducible refine wpAny_cRoomFor (by show A.units + 1 < cLine; exact hu) ?_
      | (refine wpAny_bind (m := callSpecialIfBound? (.ref x) (Str.ofString "__eq__") [b])
          (ifBound_K X I hs hf (wpAny_mono h (fun r s' hr => by
            obtain ⟨r, rfl, hq⟩ := hr
            repeat (first | exact ⟨_, rfl, _, rfl, hq⟩ | exact wpAny_pure ⟨_, rfl, _, rfl, hq⟩ | exact wpAny_truthy_bool ⟨_, rfl, _, rfl, hq⟩ | (refine wpAny_bind (m := truthy (.bool _)) (wpAny_truthy_bool ?_)) | wp_step)) fun _ _ e => e)))
      | wp_step)
  have one : wpAny (model prog w) A (tryCompare (.ref x) "__ne__" b) (fun r s' => ∃ v, r = some v ∧ Q v s') E s := by
    unfold tryCompare
    refine wpAny_bind (ifBound_B X I hne PySem.F.slot_object_ne.bind (wpAny_call (codeAny_call_builtin PySem.F.slot_object_ne.plain PySem.F.entry_object_ne
      (check_slot (i := "object.__ne__") (owner := "object") (n := "__ne__") (by decide +kernel) (by decide +kernel) (I.type.andThen (looks_mroIn X hm)) (PySem.F.args_object_ne_2 _ _) (wpAny_mono entry (fun fin s' z => ?_) fun _ _ z => z)))))
    obtain ⟨v, rfl, r, rfl, q⟩ := z
    first | exact wpAny_pure ⟨_, rfl, q⟩ | (show wpAny _ _ _ _ _ _; exact wpAny_pure ⟨_, rfl, q⟩)
  unfold richCompare
  simp only [oneThing_ref]
  refine wpAny_holding (wpAny_bind (wpAny_cRoomFor (Nat.lt_of_succ_lt hu) ?_))
  rw [cmpInfo_NotEq]
  dsimp only
  refine wpAny_bind (I.type.here (wpAny_bind (hb.here ?_)))
  split
  · rename_i q
    have e : subIn K tb (.ref C) = some false := by
      rcases Bool.or_eq_true_iff.mp hn with e | e
      · rw [beq_iff_eq.mp e] at q; simp at q
      · exact beq_iff_eq.mp e
    refine wpAny_bind ((looks_subIn X e).here ?_)
    simp only [Bool.false_eq_true, if_false]
    refine wpAny_bind (wpAny_mono one (fun r s' z => ?_) fun _ _ e => e)
    obtain ⟨v, rfl, hq⟩ := z
    exact wpAny_pure hq
  · refine wpAny_bind (wpAny_pure ?_)
    simp only [Bool.false_eq_true, if_false]
    refine wpAny_bind (wpAny_mono one (fun r s' z => ?_) fun _ _ e => e)
    obtain ⟨v, rfl, hq⟩ := z
    exact wpAny_pure hq
end
end EXV
end PySem
namespace L2
open PySem PySem.Spec PyProof.Rows
section
variable {X : Cx} {CX : CXT} {k : Nat} {C f : Addr} {fd : FuncData} {ps : List Str} {sp : Sp} {E : XK}
/-- the callee runs at another depth of the same frames -/
theorem run_fnAt {A' : Around} {pins : List (Addr × Obj)} {σ : St} {H : Hp} {s : Shared} {Q : VK} {us : List Value} {vs : List V} (hfr : A'.frames = X.A.frames) (F : FnOk X.prog X.w X.K X.mg X.base CX k f fd ps sp) (hr : Room k A') (hb : Binds X.K fd ps []) (hx : Passes CX X E)
    (I : Inv X pins σ H s) (r : Vals vs us) (h : sp vs H Q E) : wpAny (model X.prog X.w) A' (call (.ref f) us) (EP X pins σ Q) X.xe s := by
  have e := I.env0
  have e0 : Env0 X.prog X.w X.K X.mg X.base A' X.stack s H := ⟨by rw [hfr]; exact e.frames, e.mod, e.bs, e.bsz, e.funs, e.frf, e.hok, e.bare⟩
  have b := hb s us I.kIn (by rw [List.append_nil, ← r.length]; exact F.len _ _ _ _ h)
  rw [List.append_nil] at b
  refine wpAny_call (codeAny_mono (F.run A' X.stack s H ⟨us, []⟩ us vs Q E hr e0 b r h) fun r s' hq => ?_)
  match r, hq with
  | .error e, hq => exact hx pins σ H s e s' I hq
  | .ok (.ret u), hq => exact I.after hq
  | .ok .next, hq => exact hq.elim
  | .ok .brk, hq => exact hq.elim
  | .ok .cont, hq => exact hq.elim
/-! ### own ==, != and str, with both answers, the other operand of any type -/
def rEqX (K : PySem.W.Frag) (C : Addr) (sp : Sp) (E : XK) : R2 := fun x y H Q => ∃ a dx fs t, x = .ref a ∧ H a = some (.ins C dx fs) ∧ TyX K H y t ∧ PySem.W.notFirst K C t = true ∧ sp [x, y] H (fun v H' => ∃ b, v = .bl b ∧ Q (.bl b) H') E
def rNeX (K : PySem.W.Frag) (C : Addr) (sp : Sp) (E : XK) : R2 := fun x y H Q => ∃ a dx fs t, x = .ref a ∧ H a = some (.ins C dx fs) ∧ TyX K H y t ∧ PySem.W.notFirst K C t = true ∧ sp [x, y] H (fun v H' => ∃ b, v = .bl b ∧ Q (.bl (!b)) H') E
def rStrX (C : Addr) (sp : Sp) (E : XK) : List V → Hp → VK → Prop := fun xs H Q => ∃ a dx fs, xs = [.ref a] ∧ H a = some (.ins C dx fs) ∧ sp [.ref a] H (fun v H' => ∃ b, v = .str b ∧ Q (.str b) H') E
theorem op_eqX (F : FnOk X.prog X.w X.K X.mg X.base CX k f fd ps sp) (hr : Room k X.A) (hb : Binds X.K fd ps []) (hx : Passes CX X E) (hs : PySem.W.findIn X.K (.ref C) "__eq__" = some (some (.ref f))) (hf : PySem.W.isFn X.K (.ref f) = true) :
    OpR X (compareOp .Eq) (rEqX X.K C sp E) := by
  intro pins s σ H x y v u Q I rx ry h
  obtain ⟨a, dx, fs, t, rfl, ha, ty, hn, hsp⟩ := h
  cases rx
  obtain ⟨mA, J, _⟩ := ins_get I.hok ha
  obtain ⟨od, J, _⟩ := J.look
  obtain ⟨m, hF⟩ := I.fr
  obtain ⟨P, Z, p, _⟩ := kit_of I ry ty
  refine PySem.W.cmp_K (op := .Eq) (tb := t) hr.units0 hF I.ok.mod.kin J (Z.ty _ _ I.kIn p) hn hs hf ?_
  refine wpAny_mono (run_fnAt (vs := [.ref a, y]) rfl F hr hb hx I (.cons rfl (.cons ry .nil)) hsp) (fun w s' z => ?_) fun _ _ z => z
  obtain ⟨v', H', I', rv, b, rfl, q⟩ := z
  obtain rfl : w = .bool b := rv
  exact ⟨.bl b, H', I', rfl, q⟩
theorem op_neX (F : FnOk X.prog X.w X.K X.mg X.base CX k f fd ps sp) (hr : Room (k + 1) X.A) (hb : Binds X.K fd ps []) (hx : Passes CX X E) (hne : PySem.W.findIn X.K (.ref C) "__ne__" = some (some (.builtin "object.__ne__"))) (hm : PySem.W.mroIn X.K C (.type "object") = some true)
    (hs : PySem.W.findIn X.K (.ref C) "__eq__" = some (some (.ref f))) (hf : PySem.W.isFn X.K (.ref f) = true) : OpR X (compareOp .NotEq) (rNeX X.K C sp E) := by
  intro pins s σ H x y v u Q I rx ry h
  obtain ⟨a, dx, fs, t, rfl, ha, ty, hn, hsp⟩ := h
  cases rx
  obtain ⟨mA, J, _⟩ := ins_get I.hok ha
  obtain ⟨od, J, _⟩ := J.look
  obtain ⟨P, Z, p, _⟩ := kit_of I ry ty
  refine PySem.EXV.ne_K (by have := hr.un; omega) I.kIn J (Z.ty _ _ I.kIn p) hn hne hm hs hf ?_
  refine wpAny_mono (run_fnAt (vs := [.ref a, y]) rfl F hr.in1 hb hx I (.cons rfl (.cons ry .nil)) hsp) (fun w s' z => ?_) fun _ _ z => z
  obtain ⟨v', H', I', rv, b, rfl, q⟩ := z
  obtain rfl : w = .bool b := rv
  exact ⟨b, rfl, .bl (!b), H', I', rfl, q⟩
theorem call_strX (F : FnOk X.prog X.w X.K X.mg X.base CX k f fd ps sp) (hr : Room (k + 2) X.A) (hb : Binds X.K fd ps []) (hx : Passes CX X E) (hs : PySem.W.findIn X.K (.ref C) "__str__" = some (some (.ref f))) (hf : PySem.W.isFn X.K (.ref f) = true) :
    CallR X (.type "str") (rStrX C sp E) := by
  intro pins s σ H xs us Q I r h
  obtain ⟨a, dx, fs, rfl, ha, hsp⟩ := h
  obtain ⟨u, rfl, ru⟩ := vals1 r
  cases ru
  obtain ⟨mA, J, _⟩ := ins_get I.hok ha
  obtain ⟨od, J, _⟩ := J.look
  refine PySem.W.kso_call hr.in1.in1.units0 I.kIn J hs hf ?_
  refine wpAny_mono (run_fnAt (vs := [.ref a]) rfl F hr.in1.in1 hb hx I (.cons rfl .nil) hsp) (fun w s' z => ?_) fun _ _ z => z
  obtain ⟨v', H', I', rv, b, rfl, q⟩ := z
  obtain ⟨t, rfl⟩ := rv
  exact ⟨.str b, H', I', ⟨t, rfl⟩, q⟩
end
end L2

namespace PySem
namespace EXV
open L2
/-- an own error class's text, read off its __init__ -/
def exdOf (x q fld txt : Str) (st : Stmt) (b : Nat := 0) : ExD :=
  match defBody st, (defArgs st).args with
  | [.Expr (.Call (.Attribute (.Call (.Name _ a0) _ _ a1) _ a2) [.Constant _ k a3] _ a4) a5, .Assign [.Attribute (.Name _ a6) _ a7] (.Name _ a8) a9], [u, v] =>
    ⟨x, q, fld, txt, k, fun i => [a0, a1, a2, a3, a4, a5, a6, a7, a8, a9].getD i a0, u.pos, v.pos, b⟩
  | _, _ => ⟨x, q, fld, txt, 0, fun _ => ⟨0, 0, 0, 0⟩, ⟨0, 0, 0, 0⟩, ⟨0, 0, 0, 0⟩, b⟩
end EXV
end PySem
namespace L2
open PySem PySem.Spec PyProof.Rows
/-! ### making an instance, the wish of what is raised at the caller's slots -/
def tMakeS (C : Addr) (sp : Sp) (dvs : List V) (E : St → XK) (t : TA) : TE := fun σ H Q => t σ H fun vs H1 => ∀ x dx, H1 x = none → H1 dx = none → dx ≠ x →
  sp (.ref x :: (vs ++ dvs)) (upd (upd H1 dx (.own x)) x (.ins C dx [])) (fun v H2 => v = .non ∧ Q (.ref x) H2) (E σ)
section
variable {X : Cx} {CX : CXT} {k : Nat} {f C : Addr} {fd : FuncData} {ps : List Str} {sp : Sp} {dvs : List V} {ds : List Value} {E : St → XK} {x : Str} {p pos : Pos} {e : Expr} {es : List Expr} {t : TA}
theorem run_makeS {pins : List (Addr × Obj)} {σ : St} {H : Hp} {s : Shared} {Q : VK} {us : List Value} {vs : List V} (M : Mk X.K C f) (F : FnOk X.prog X.w X.K X.mg X.base CX k f fd ps sp) (hr : Room (k + 1) X.A) (hb : Binds X.K fd ps ds) (hd : Vals dvs ds)
    (hx : PassesAt CX X σ (E σ)) (I : Inv X pins σ H s) (r : Vals vs us)
    (h : ∀ x dx, H x = none → H dx = none → dx ≠ x → sp (.ref x :: (vs ++ dvs)) (upd (upd H dx (.own x)) x (.ins C dx [])) (fun v H2 => v = .non ∧ Q (.ref x) H2) (E σ)) :
    wpAny (model X.prog X.w) X.A (call (.ref C) us) (EP X pins σ Q) X.xe s := by
  have hq := h (s.heap.objs.size + 1) s.heap.objs.size (I.hok.fresh (Nat.le_succ _)) (I.hok.fresh (Nat.le_refl _)) (Nat.ne_of_lt (Nat.lt_succ_self _))
  have I2 := Inv.made (C := C) I
  have r2 : Vals (V.ref (s.heap.objs.size + 1) :: (vs ++ dvs)) (Value.ref (s.heap.objs.size + 1) :: (us ++ ds)) := .cons rfl (r.append hd)
  have hl : (Value.ref (s.heap.objs.size + 1) :: us ++ ds).length = ps.length := (r2.length.symm.trans (F.len _ _ _ _ hq))
  refine wpAny_call (make_map (f := f) I.kIn M.makes M.init (beq_iff_eq.mp M.fn) (codeAny_mono (F.run _ X.stack _ _ ⟨Value.ref (s.heap.objs.size + 1) :: us, []⟩ (Value.ref (s.heap.objs.size + 1) :: (us ++ ds)) _ _ (E σ) (hr.make C us [])
    (I2.env0.make C us []) (hb _ (Value.ref (s.heap.objs.size + 1) :: us) I2.kIn hl) r2 hq) fun r s' hq' => ?_))
  match r, hq' with
  | .error e, hq' => exact hx pins _ _ e s' I2 hq'
  | .ok (.ret u), hq' =>
    obtain ⟨v, H', I3, rv, rfl, q3⟩ := I2.after hq'
    exact ⟨rv, ⟨V.ref (s.heap.objs.size + 1), H', I3, rfl, q3⟩⟩
  | .ok .next, hq' => exact hq'.elim
  | .ok .brk, hq' => exact hq'.elim
  | .ok .cont, hq' => exact hq'.elim
theorem pe_makeS (M : Mk X.K C f) (F : FnOk X.prog X.w X.K X.mg X.base CX k f fd ps sp) (hr : Room (k + 1) X.A) (hg : Gl X x) (hm : X.mg x = some (.ref C)) (hb : Binds X.K fd ps ds) (hd : Vals dvs ds) (hx : ∀ σ, PassesAt CX X σ (E σ))
    (ha : PA X (e :: es) t) (hdb : (x == ("__debug__" : Str)) = false := by decide) (he : starEach (e :: es) X.env = (false, eval e X.env) :: starEach es X.env := by rfl) (hpl : (backTo pos (starEach es X.env)).any (·.1) = false := by rfl) :
    PE X (.Call (.Name x p) (e :: es) [] pos) (tMakeS C sp dvs E t) := by
  refine ⟨fun pins s σ H Q I h => wpAny_Call_Name_kw (ld_glob I hg hm ?_ hdb)⟩
  exact PySem.W.callWith_K (h₀ := X.base) I.ok.mod.kin M.kp (thn (ha.run pos pins s σ H _ I h) fun us s1 ⟨vs, H1, I1, r, q⟩ => ⟨I1.kIn, run_makeS M F hr hb hd (hx σ) I1 r q⟩) he hpl
end
/-- nothing is raised there -/
abbrev E0S : St → XK := fun _ => E0
theorem passS {X : Cx} : ∀ σ, PassesAt (L2.CX X.prog X.w) X σ (E0S σ) := fun _ pins H s e s' I h => passL pins _ H s e s' I h
theorem passS0 {X : Cx} : ∀ σ, PassesAt CX0 X σ (E0S σ) := fun _ _ _ _ _ _ _ h => h.elim
/-! ### an own class among the types -/
def tyNames : List String := ["NoneType", "int", "str", "bool", "list", "tuple", "dict"]
structure OwnC (K : PySem.W.Frag) (C : Addr) : Prop where
  cl : Cls K C
  ia : PySem.W.findIn K (.ref C) "__class__" = some (some (.builtin "object.__class__"))
  ig : PySem.W.specialIn K (.builtin "object.__class__") "__get__" = some (some (.builtin "getset_descriptor.__get__"))
  it : PySem.W.takesIn K (.builtin "object.__class__") = some true
  ob : PySem.W.mroIn K C (.type "object") = some true
  ne : PySem.W.findIn K (.ref C) "__ne__" = some (some (.builtin "object.__ne__"))
  to : ∀ n ∈ ["int", "str", "bool", "list", "tuple", "dict"], PySem.W.kitOne K (.ref C) (.type n) = some false
  fr : ∀ n ∈ tyNames, PySem.W.kitOne K (.type n) (.ref C) = some false
  nf : ∀ n ∈ tyNames, PySem.W.notFirst K C (.type n) = true
  me : PySem.W.kitOne K (.ref C) (.ref C) = some true
  nm : PySem.W.notFirst K C (.ref C) = true
def ownB (K : PySem.W.Frag) (x : Str) : Bool :=
  let C := He.ga K x
  (He.Fa.cls x).ok K && (He.eqO (PySem.W.findIn K (.ref C) "__class__") (some (some (.builtin "object.__class__"))) && (He.eqO (PySem.W.specialIn K (.builtin "object.__class__") "__get__") (some (some (.builtin "getset_descriptor.__get__"))) &&
  (decide (PySem.W.takesIn K (.builtin "object.__class__") = some true) && (decide (PySem.W.mroIn K C (.type "object") = some true) && (He.eqO (PySem.W.findIn K (.ref C) "__ne__") (some (some (.builtin "object.__ne__"))) &&
  ((["int", "str", "bool", "list", "tuple", "dict"].all fun n => decide (PySem.W.kitOne K (.ref C) (.type n) = some false)) && ((tyNames.all fun n => decide (PySem.W.kitOne K (.type n) (.ref C) = some false)) && ((tyNames.all fun n => PySem.W.notFirst K C (.type n)) &&
  (decide (PySem.W.kitOne K (.ref C) (.ref C) = some true) && PySem.W.notFirst K C (.ref C))))))))))
theorem ownB_ok {K : PySem.W.Frag} {x : Str} (h : ownB K x = true) : OwnC K (He.ga K x) := by
  unfold ownB at h
  simp only [Bool.and_eq_true] at h
  obtain ⟨h1, h2, h3, h4, h5, h6, h7, h8, h9, h10, h11⟩ := h
  exact ⟨He.cls_ok h1, He.eqO_ok h2, He.eqO_ok h3, of_decide_eq_true h4, of_decide_eq_true h5, He.eqO_ok h6, fun n hn => of_decide_eq_true (List.all_eq_true.mp h7 n hn), fun n hn => of_decide_eq_true (List.all_eq_true.mp h8 n hn), fun n hn => List.all_eq_true.mp h9 n hn, of_decide_eq_true h10, h11⟩
theorem OwnC.ty {K : PySem.W.Frag} {C : Addr} (O : OwnC K C) {H : Hp} {a dx : Addr} {fs : List (Str × V)} (e : H a = some (.ins C dx fs)) : TyX K H (.ref a) (.ref C) := .base (.ins e O.cl O.ia O.ig O.it O.ob)
theorem Meth.found {X : PySem.W.Frag} {C f : Addr} {m : Str} (h : Meth X C m f) : PySem.W.findIn X (.ref C) m = some (some (.ref f)) := h.1
end L2

/-! module constants, an empty tuple as a default, room for tests of membership -/
namespace PySem
namespace EXV
open PySem.W L2
def conB (x : Str) (i : Int) (K : Frag) : Bool := match nsIn K mainGlobals x with
  | some (some (.int j _)) => decide (j = i)
  | _ => false
theorem conB_ok {K : Frag} {h : Heap} {mg : Str → Option Value} {x : Str} {i : Int} (X : K.In h) (G : h.Ns mainGlobals mg) (c : conB x i K = true) : ∃ t, mg x = some (.int i t) := by
  unfold conB at c
  split at c
  · rename_i j t e
    exact ⟨t, by rw [mg_of X G e, of_decide_eq_true c]⟩
  · cases c
/-- an empty tuple of the written part -/
def IsE (K : Frag) (a : Addr) : Prop := ∃ (o : Obj) (n : Nat), K.lookup a = some o ∧ o.cls = .type "tuple" ∧ o.data = .seq #[] n
theorem IsE.sq {K : Frag} {a : Addr} (h : IsE K a) (H : Hp) : SqT K H a [] := by
  obtain ⟨o, n, h1, h2, h3⟩ := h
  exact .inr ⟨o, #[], n, h1, h2, h3, Nat.zero_le _, .nil⟩
def isEB (K : Frag) (a : Addr) : Bool := match K.lookup a with
  | some ⟨.type c, _, .seq its _, _⟩ => c == "tuple" && its.isEmpty
  | _ => false
theorem isEB_ok {K : Frag} {a : Addr} (h : isEB K a = true) : IsE K a := by
  unfold isEB at h
  split at h
  · rename_i c d its n sl e
    obtain ⟨h1, h2⟩ := Bool.and_eq_true_iff.mp h
    rw [beq_iff_eq] at h1
    have h3 : its = #[] := by simpa using h2
    subst h1 h3
    exact ⟨_, n, e, rfl, rfl⟩
  · cases h
end EXV
end PySem
namespace L2
open PySem
theorem hu65 {A : Around} {k : Nat} (hr : Room k A) : A.units + 65 < cLine := by have := hr.un; omega
def rLenSeq (K : PySem.W.Frag) : List V → Hp → VK → Prop := fun xs H Q => ∃ p ys, xs = [.ref p] ∧ (SqL K H p ys ∨ SqT K H p ys) ∧ Q (.int ys.length) H
def rListOf (K : PySem.W.Frag) : List V → Hp → VK → Prop := fun xs H Q => ∃ p ys, xs = [.ref p] ∧ (SqL K H p ys ∨ SqT K H p ys) ∧ ∀ l, H l = none → Q (.ref l) (upd H l (.lst ys))
def rTupOf (K : PySem.W.Frag) : List V → Hp → VK → Prop := fun xs H Q => ∃ p ys, xs = [.ref p] ∧ ((SqL K H p ys ∧ ∀ l, H l = none → Q (.ref l) (upd H l (.tup ys))) ∨ (SqT K H p ys ∧ Q (.ref p) H))
theorem popP {α : Type} : ∀ {l : List α} {k : Nat} {y : α}, l[k]? = some y → (y :: l.eraseIdx k).Perm l
  | [], _, _, h => by simp at h
  | a :: r, 0, y, h => by
    simp at h
    subst h
    exact List.Perm.refl _
  | a :: r, k + 1, y, h => by
    have h2 := popP (l := r) (k := k) (y := y) (by simpa using h)
    exact (List.Perm.swap a y _).trans (h2.cons a)
end L2

namespace K38
open PySem PySem.Spec PyProof.Rows L2 TL
def top (i : Nat) : Stmt := PySem.Challenge.pw_resampler_k38_independent_sets_listed.main.body.getD i (.Pass ⟨0, 0, 0, 0⟩)
abbrev s_is_list : Stmt := top 12
abbrev N_is_list : List Str := ["value", "low", "high"]
theorem sc_is_list : FnScope N_is_list ["value", "low", "high"] (defScope s_is_list) := ⟨rfl, rfl, rfl, by decide +kernel, rfl, by decide +kernel, by decide +kernel⟩
abbrev s_check_distinct : Stmt := top 13
abbrev N_check_distinct : List Str := ["names", "seen", "name"]
theorem sc_check_distinct : FnScope N_check_distinct ["names"] (defScope s_check_distinct) := ⟨rfl, rfl, rfl, by decide +kernel, rfl, by decide +kernel, by decide +kernel⟩
abbrev s_is_name : Stmt := top 15
abbrev N_is_name : List Str := ["value", "letter"]
theorem sc_is_name : FnScope N_is_name ["value"] (defScope s_is_name) := ⟨rfl, rfl, rfl, by decide +kernel, rfl, by decide +kernel, by decide +kernel⟩
abbrev s_is_any_integer : Stmt := top 16
abbrev N_is_any_integer : List Str := ["value"]
theorem sc_is_any_integer : FnScope N_is_any_integer ["value"] (defScope s_is_any_integer) := ⟨rfl, rfl, rfl, by decide +kernel, rfl, by decide +kernel, by decide +kernel⟩
abbrev s_is_integer : Stmt := top 17
abbrev N_is_integer : List Str := ["value", "low", "high"]
theorem sc_is_integer : FnScope N_is_integer ["value", "low", "high"] (defScope s_is_integer) := ⟨rfl, rfl, rfl, by decide +kernel, rfl, by decide +kernel, by decide +kernel⟩
abbrev s_Problem_init : Stmt := inClass (top 21) 0
abbrev N_Problem_init : List Str := ["self", "variables", "events", "name", "size", "place", "scope", "bad_tuples", "_"]
theorem sc_Problem_init : FnScope N_Problem_init ["self", "variables", "events"] (defScope s_Problem_init) := ⟨rfl, rfl, rfl, by decide +kernel, rfl, by decide +kernel, by decide +kernel⟩
abbrev s_Problem_events : Stmt := inClass (top 21) 5
abbrev N_Problem_events : List Str := ["self"]
theorem sc_Problem_events : FnScope N_Problem_events ["self"] (defScope s_Problem_events) := ⟨rfl, rfl, rfl, by decide +kernel, rfl, by decide +kernel, by decide +kernel⟩
abbrev s_Problem_neighbors : Stmt := inClass (top 21) 10
abbrev N_Problem_neighbors : List Str := ["self", "event"]
theorem sc_Problem_neighbors : FnScope N_Problem_neighbors ["self", "event"] (defScope s_Problem_neighbors) := ⟨rfl, rfl, rfl, by decide +kernel, rfl, by decide +kernel, by decide +kernel⟩
abbrev s_Problem_is_event : Stmt := inClass (top 21) 16
abbrev N_Problem_is_event : List Str := ["self", "value"]
theorem sc_Problem_is_event : FnScope N_Problem_is_event ["self", "value"] (defScope s_Problem_is_event) := ⟨rfl, rfl, rfl, by decide +kernel, rfl, by decide +kernel, by decide +kernel⟩
abbrev s_Problem_check_event : Stmt := inClass (top 21) 19
abbrev N_Problem_check_event : List Str := ["self", "value"]
theorem sc_Problem_check_event : FnScope N_Problem_check_event ["self", "value"] (defScope s_Problem_check_event) := ⟨rfl, rfl, rfl, by decide +kernel, rfl, by decide +kernel, by decide +kernel⟩
abbrev s_check_problem : Stmt := top 22
abbrev N_check_problem : List Str := ["value"]
theorem sc_check_problem : FnScope N_check_problem ["value"] (defScope s_check_problem) := ⟨rfl, rfl, rfl, by decide +kernel, rfl, by decide +kernel, by decide +kernel⟩
abbrev s__neighbors_of : Stmt := top 23
abbrev N__neighbors_of : List Str := ["event", "scopes", "found", "other", "scope", "variable"]
theorem sc__neighbors_of : FnScope N__neighbors_of ["event", "scopes"] (defScope s__neighbors_of) := ⟨rfl, rfl, rfl, by decide +kernel, rfl, by decide +kernel, by decide +kernel⟩
abbrev s__are_values : Stmt := top 24
abbrev N__are_values : List Str := ["value", "sizes", "item", "size"]
theorem sc__are_values : FnScope N__are_values ["value", "sizes"] (defScope s__are_values) := ⟨rfl, rfl, rfl, by decide +kernel, rfl, by decide +kernel, by decide +kernel⟩
abbrev s__check_variables : Stmt := top 25
abbrev N__check_variables : List Str := ["variables", "name", "_", "row"]
theorem sc__check_variables : FnScope N__check_variables ["variables"] (defScope s__check_variables) := ⟨rfl, rfl, rfl, by decide +kernel, rfl, by decide +kernel, by decide +kernel⟩
abbrev s__is_variable_row : Stmt := top 26
abbrev N__is_variable_row : List Str := ["row"]
theorem sc__is_variable_row : FnScope N__is_variable_row ["row"] (defScope s__is_variable_row) := ⟨rfl, rfl, rfl, by decide +kernel, rfl, by decide +kernel, by decide +kernel⟩
abbrev s__check_events : Stmt := top 27
abbrev N__check_events : List Str := ["events", "sizes", "names", "name", "scope", "bad_tuples", "row", "variable"]
theorem sc__check_events : FnScope N__check_events ["events", "sizes"] (defScope s__check_events) := ⟨rfl, rfl, rfl, by decide +kernel, rfl, by decide +kernel, by decide +kernel⟩
abbrev s__is_event_row : Stmt := top 28
abbrev N__is_event_row : List Str := ["row"]
theorem sc__is_event_row : FnScope N__is_event_row ["row"] (defScope s__is_event_row) := ⟨rfl, rfl, rfl, by decide +kernel, rfl, by decide +kernel, by decide +kernel⟩
abbrev s__check_scope : Stmt := top 29
abbrev N__check_scope : List Str := ["scope", "sizes", "item"]
theorem sc__check_scope : FnScope N__check_scope ["scope", "sizes"] (defScope s__check_scope) := ⟨rfl, rfl, rfl, by decide +kernel, rfl, by decide +kernel, by decide +kernel⟩
abbrev s__check_variable : Stmt := top 30
abbrev N__check_variable : List Str := ["value", "sizes"]
theorem sc__check_variable : FnScope N__check_variable ["value", "sizes"] (defScope s__check_variable) := ⟨rfl, rfl, rfl, by decide +kernel, rfl, by decide +kernel, by decide +kernel⟩
abbrev s__are_bad_tuples : Stmt := top 31
abbrev N__are_bad_tuples : List Str := ["bad_tuples", "sizes", "known", "values"]
theorem sc__are_bad_tuples : FnScope N__are_bad_tuples ["bad_tuples", "sizes"] (defScope s__are_bad_tuples) := ⟨rfl, rfl, rfl, by decide +kernel, rfl, by decide +kernel, by decide +kernel⟩
abbrev s_independent_tuples : Stmt := top 33
abbrev N_independent_tuples : List Str := ["names", "neighbors", "found", "level", "chosen", "rest", "longer", "_"]
theorem sc_independent_tuples : FnScope N_independent_tuples ["names", "neighbors"] (defScope s_independent_tuples) := ⟨rfl, rfl, rfl, by decide +kernel, rfl, by decide +kernel, by decide +kernel⟩
abbrev s__with_one_more : Stmt := top 34
abbrev N__with_one_more : List Str := ["chosen", "rest", "neighbors", "found", "place", "name", "later", "other"]
theorem sc__with_one_more : FnScope N__with_one_more ["chosen", "rest", "neighbors"] (defScope s__with_one_more) := ⟨rfl, rfl, rfl, by decide +kernel, rfl, by decide +kernel, by decide +kernel⟩
abbrev s_independent_sets : Stmt := top 36
abbrev N_independent_sets : List Str := ["problem", "event"]
theorem sc_independent_sets : FnScope N_independent_sets ["problem"] (defScope s_independent_sets) := ⟨rfl, rfl, rfl, by decide +kernel, rfl, by decide +kernel, by decide +kernel⟩
abbrev s_l_cell : Stmt := top 38
abbrev N_l_cell : List Str := ["_law_script", "_law_k"]
theorem sc_l_cell : FnScope N_l_cell ["_law_script", "_law_k"] (defScope s_l_cell) := ⟨rfl, rfl, rfl, by decide +kernel, rfl, by decide +kernel, by decide +kernel⟩
abbrev s_l_box : Stmt := top 39
abbrev N_l_box : List Str := ["_law_cell_here"]
theorem sc_l_box : FnScope N_l_box ["_law_cell_here"] (defScope s_l_box) := ⟨rfl, rfl, rfl, by decide +kernel, rfl, by decide +kernel, by decide +kernel⟩
abbrev s_l_take : Stmt := top 40
abbrev N_l_take : List Str := ["_law_box_here", "_law_many", "_law_digit", "_law_mixed"]
theorem sc_l_take : FnScope N_l_take ["_law_box_here", "_law_many"] (defScope s_l_take) := ⟨rfl, rfl, rfl, by decide +kernel, rfl, by decide +kernel, by decide +kernel⟩
abbrev s_l_names : Stmt := top 41
abbrev N_l_names : List Str := ["_law_box_here", "_law_many", "_law_letters", "_law_names_here", "_law_k", "_law_stem", "_law_word", "_law_spare", "_law_letter", "_law_j"]
theorem sc_l_names : FnScope N_l_names ["_law_box_here", "_law_many"] (defScope s_l_names) := ⟨rfl, rfl, rfl, by decide +kernel, rfl, by decide +kernel, by decide +kernel⟩
abbrev s_l_data : Stmt := top 42
abbrev N_l_data : List Str := ["_law_box_here", "_law_many", "_law_top", "_law_variables", "_law_events", "_law_title", "_law_left", "_law_scope", "_law_turn", "_law_bad", "_law_values", "_law_name", "_law_size"]
theorem sc_l_data : FnScope N_l_data ["_law_box_here", "_law_many", "_law_top"] (defScope s_l_data) := ⟨rfl, rfl, rfl, by decide +kernel, rfl, by decide +kernel, by decide +kernel⟩
abbrev s_l_meet : Stmt := top 43
abbrev N_l_meet : List Str := ["_law_one", "_law_other", "_law_name"]
theorem sc_l_meet : FnScope N_l_meet ["_law_one", "_law_other"] (defScope s_l_meet) := ⟨rfl, rfl, rfl, by decide +kernel, rfl, by decide +kernel, by decide +kernel⟩
abbrev s_l_search : Stmt := top 44
abbrev N_l_search : List Str := ["_law_events", "_law_groups", "_law_at", "_law_group", "_law_found", "_law_clashes", "_law_one", "_law_size", "_law_other"]
theorem sc_l_search : FnScope N_l_search ["_law_events"] (defScope s_l_search) := ⟨rfl, rfl, rfl, by decide +kernel, rfl, by decide +kernel, by decide +kernel⟩
abbrev s_l_caught : Stmt := top 45
abbrev N_l_caught : List Str := ["_law_thing", "e"]
theorem sc_l_caught : FnScope N_l_caught ["_law_thing"] (defScope s_l_caught) := ⟨rfl, rfl, rfl, by decide +kernel, rfl, by decide +kernel, by decide +kernel⟩
abbrev s_law : Stmt := top 46
abbrev N_law : List Str := ["_law_script", "_law_k", "_law_box_here", "_law_variables", "_law_events", "_law_made", "_law_rows", "_law_same", "_law_expected", "_law_problem", "_law_found", "_law_thing", "_law_name", "_law_size", "_law_title", "_law_scope", "_law_bad"]
theorem sc_law : FnScope N_law ["_law_script"] (defScope s_law) := ⟨rfl, rfl, rfl, by decide +kernel, rfl, by decide +kernel, by decide +kernel⟩
structure Txt (P : Program) (K : PySem.W.Frag) (mg : Str → Option Value) where
  e0 : Addr
  t_e0 : PySem.EXV.IsE K e0
  C_Problem : Addr
  g_Problem : mg "Problem" = some (.ref C_Problem)
  f_is_list : Addr
  fd_is_list : FuncData
  F_is_list : FunD K "is_list" "is_list" (defArgs s_is_list) (defBody s_is_list) (defScope s_is_list) [] [] f_is_list fd_is_list
  g_is_list : mg "is_list" = some (.ref f_is_list)
  f_check_distinct : Addr
  fd_check_distinct : FuncData
  F_check_distinct : FunD K "check_distinct" "check_distinct" (defArgs s_check_distinct) (defBody s_check_distinct) (defScope s_check_distinct) [] [] f_check_distinct fd_check_distinct
  g_check_distinct : mg "check_distinct" = some (.ref f_check_distinct)
  f_is_name : Addr
  fd_is_name : FuncData
  F_is_name : FunD K "is_name" "is_name" (defArgs s_is_name) (defBody s_is_name) (defScope s_is_name) [] [] f_is_name fd_is_name
  g_is_name : mg "is_name" = some (.ref f_is_name)
  f_is_any_integer : Addr
  fd_is_any_integer : FuncData
  F_is_any_integer : FunD K "is_any_integer" "is_any_integer" (defArgs s_is_any_integer) (defBody s_is_any_integer) (defScope s_is_any_integer) [] [] f_is_any_integer fd_is_any_integer
  g_is_any_integer : mg "is_any_integer" = some (.ref f_is_any_integer)
  f_is_integer : Addr
  fd_is_integer : FuncData
  F_is_integer : FunD K "is_integer" "is_integer" (defArgs s_is_integer) (defBody s_is_integer) (defScope s_is_integer) [] [] f_is_integer fd_is_integer
  g_is_integer : mg "is_integer" = some (.ref f_is_integer)
  f_Problem_init : Addr
  fd_Problem_init : FuncData
  F_Problem_init : FunD K "__init__" "Problem.__init__" (defArgs s_Problem_init) (defBody s_Problem_init) (defScope s_Problem_init) [.ref e0] [] f_Problem_init fd_Problem_init
  f_Problem_events : Addr
  fd_Problem_events : FuncData
  F_Problem_events : FunD K "events" "Problem.events" (defArgs s_Problem_events) (defBody s_Problem_events) (defScope s_Problem_events) [] [] f_Problem_events fd_Problem_events
  m_Problem_events : Meth K C_Problem "events" f_Problem_events
  f_Problem_neighbors : Addr
  fd_Problem_neighbors : FuncData
  F_Problem_neighbors : FunD K "neighbors" "Problem.neighbors" (defArgs s_Problem_neighbors) (defBody s_Problem_neighbors) (defScope s_Problem_neighbors) [] [] f_Problem_neighbors fd_Problem_neighbors
  m_Problem_neighbors : Meth K C_Problem "neighbors" f_Problem_neighbors
  f_Problem_is_event : Addr
  fd_Problem_is_event : FuncData
  F_Problem_is_event : FunD K "is_event" "Problem.is_event" (defArgs s_Problem_is_event) (defBody s_Problem_is_event) (defScope s_Problem_is_event) [] [] f_Problem_is_event fd_Problem_is_event
  m_Problem_is_event : Meth K C_Problem "is_event" f_Problem_is_event
  f_Problem_check_event : Addr
  fd_Problem_check_event : FuncData
  F_Problem_check_event : FunD K "check_event" "Problem.check_event" (defArgs s_Problem_check_event) (defBody s_Problem_check_event) (defScope s_Problem_check_event) [] [] f_Problem_check_event fd_Problem_check_event
  m_Problem_check_event : Meth K C_Problem "check_event" f_Problem_check_event
  f_check_problem : Addr
  fd_check_problem : FuncData
  F_check_problem : FunD K "check_problem" "check_problem" (defArgs s_check_problem) (defBody s_check_problem) (defScope s_check_problem) [] [] f_check_problem fd_check_problem
  g_check_problem : mg "check_problem" = some (.ref f_check_problem)
  f__neighbors_of : Addr
  fd__neighbors_of : FuncData
  F__neighbors_of : FunD K "_neighbors_of" "_neighbors_of" (defArgs s__neighbors_of) (defBody s__neighbors_of) (defScope s__neighbors_of) [] [] f__neighbors_of fd__neighbors_of
  g__neighbors_of : mg "_neighbors_of" = some (.ref f__neighbors_of)
  f__are_values : Addr
  fd__are_values : FuncData
  F__are_values : FunD K "_are_values" "_are_values" (defArgs s__are_values) (defBody s__are_values) (defScope s__are_values) [] [] f__are_values fd__are_values
  g__are_values : mg "_are_values" = some (.ref f__are_values)
  f__check_variables : Addr
  fd__check_variables : FuncData
  F__check_variables : FunD K "_check_variables" "_check_variables" (defArgs s__check_variables) (defBody s__check_variables) (defScope s__check_variables) [] [] f__check_variables fd__check_variables
  g__check_variables : mg "_check_variables" = some (.ref f__check_variables)
  f__is_variable_row : Addr
  fd__is_variable_row : FuncData
  F__is_variable_row : FunD K "_is_variable_row" "_is_variable_row" (defArgs s__is_variable_row) (defBody s__is_variable_row) (defScope s__is_variable_row) [] [] f__is_variable_row fd__is_variable_row
  g__is_variable_row : mg "_is_variable_row" = some (.ref f__is_variable_row)
  f__check_events : Addr
  fd__check_events : FuncData
  F__check_events : FunD K "_check_events" "_check_events" (defArgs s__check_events) (defBody s__check_events) (defScope s__check_events) [] [] f__check_events fd__check_events
  g__check_events : mg "_check_events" = some (.ref f__check_events)
  f__is_event_row : Addr
  fd__is_event_row : FuncData
  F__is_event_row : FunD K "_is_event_row" "_is_event_row" (defArgs s__is_event_row) (defBody s__is_event_row) (defScope s__is_event_row) [] [] f__is_event_row fd__is_event_row
  g__is_event_row : mg "_is_event_row" = some (.ref f__is_event_row)
  f__check_scope : Addr
  fd__check_scope : FuncData
  F__check_scope : FunD K "_check_scope" "_check_scope" (defArgs s__check_scope) (defBody s__check_scope) (defScope s__check_scope) [] [] f__check_scope fd__check_scope
  g__check_scope : mg "_check_scope" = some (.ref f__check_scope)
  f__check_variable : Addr
  fd__check_variable : FuncData
  F__check_variable : FunD K "_check_variable" "_check_variable" (defArgs s__check_variable) (defBody s__check_variable) (defScope s__check_variable) [] [] f__check_variable fd__check_variable
  g__check_variable : mg "_check_variable" = some (.ref f__check_variable)
  f__are_bad_tuples : Addr
  fd__are_bad_tuples : FuncData
  F__are_bad_tuples : FunD K "_are_bad_tuples" "_are_bad_tuples" (defArgs s__are_bad_tuples) (defBody s__are_bad_tuples) (defScope s__are_bad_tuples) [] [] f__are_bad_tuples fd__are_bad_tuples
  g__are_bad_tuples : mg "_are_bad_tuples" = some (.ref f__are_bad_tuples)
  f_independent_tuples : Addr
  fd_independent_tuples : FuncData
  F_independent_tuples : FunD K "independent_tuples" "independent_tuples" (defArgs s_independent_tuples) (defBody s_independent_tuples) (defScope s_independent_tuples) [] [] f_independent_tuples fd_independent_tuples
  g_independent_tuples : mg "independent_tuples" = some (.ref f_independent_tuples)
  f__with_one_more : Addr
  fd__with_one_more : FuncData
  F__with_one_more : FunD K "_with_one_more" "_with_one_more" (defArgs s__with_one_more) (defBody s__with_one_more) (defScope s__with_one_more) [] [] f__with_one_more fd__with_one_more
  g__with_one_more : mg "_with_one_more" = some (.ref f__with_one_more)
  f_independent_sets : Addr
  fd_independent_sets : FuncData
  F_independent_sets : FunD K "independent_sets" "independent_sets" (defArgs s_independent_sets) (defBody s_independent_sets) (defScope s_independent_sets) [] [] f_independent_sets fd_independent_sets
  g_independent_sets : mg "independent_sets" = some (.ref f_independent_sets)
  f_l_cell : Addr
  fd_l_cell : FuncData
  F_l_cell : FunD K "_law_cell" "_law_cell" (defArgs s_l_cell) (defBody s_l_cell) (defScope s_l_cell) [] [] f_l_cell fd_l_cell
  g_l_cell : mg "_law_cell" = some (.ref f_l_cell)
  f_l_box : Addr
  fd_l_box : FuncData
  F_l_box : FunD K "_law_box" "_law_box" (defArgs s_l_box) (defBody s_l_box) (defScope s_l_box) [] [] f_l_box fd_l_box
  g_l_box : mg "_law_box" = some (.ref f_l_box)
  f_l_take : Addr
  fd_l_take : FuncData
  F_l_take : FunD K "_law_take" "_law_take" (defArgs s_l_take) (defBody s_l_take) (defScope s_l_take) [] [] f_l_take fd_l_take
  g_l_take : mg "_law_take" = some (.ref f_l_take)
  f_l_names : Addr
  fd_l_names : FuncData
  F_l_names : FunD K "_law_names" "_law_names" (defArgs s_l_names) (defBody s_l_names) (defScope s_l_names) [] [] f_l_names fd_l_names
  g_l_names : mg "_law_names" = some (.ref f_l_names)
  f_l_data : Addr
  fd_l_data : FuncData
  F_l_data : FunD K "_law_data" "_law_data" (defArgs s_l_data) (defBody s_l_data) (defScope s_l_data) [] [] f_l_data fd_l_data
  g_l_data : mg "_law_data" = some (.ref f_l_data)
  f_l_meet : Addr
  fd_l_meet : FuncData
  F_l_meet : FunD K "_law_meet" "_law_meet" (defArgs s_l_meet) (defBody s_l_meet) (defScope s_l_meet) [] [] f_l_meet fd_l_meet
  g_l_meet : mg "_law_meet" = some (.ref f_l_meet)
  f_l_search : Addr
  fd_l_search : FuncData
  F_l_search : FunD K "_law_search" "_law_search" (defArgs s_l_search) (defBody s_l_search) (defScope s_l_search) [] [] f_l_search fd_l_search
  g_l_search : mg "_law_search" = some (.ref f_l_search)
  f_l_caught : Addr
  fd_l_caught : FuncData
  F_l_caught : FunD K "_law_caught" "_law_caught" (defArgs s_l_caught) (defBody s_l_caught) (defScope s_l_caught) [] [] f_l_caught fd_l_caught
  g_l_caught : mg "_law_caught" = some (.ref f_l_caught)
  f_law : Addr
  fd_law : FuncData
  F_law : FunD K "law" "law" (defArgs s_law) (defBody s_law) (defScope s_law) [] [] f_law fd_law
  g_law : mg "law" = some (.ref f_law)
  C_InvalidProblem : Addr
  I_InvalidProblem : Addr
  x_InvalidProblem : PySem.EXV.ExcTxt P K mg "InvalidProblem" "InvalidProblem.__init__" "value" C_InvalidProblem I_InvalidProblem
  cl_Problem : Cls K C_Problem
  mk_Problem : Mk K C_Problem f_Problem_init
  na_Problem__variables : NoAttr K C_Problem "_variables"
  na_Problem__sizes : NoAttr K C_Problem "_sizes"
  na_Problem__places : NoAttr K C_Problem "_places"
  na_Problem__events : NoAttr K C_Problem "_events"
  na_Problem__scopes : NoAttr K C_Problem "_scopes"
  na_Problem__bad_tuples : NoAttr K C_Problem "_bad_tuples"
  na_Problem__neighbors : NoAttr K C_Problem "_neighbors"
  ow_Problem : OwnC K C_Problem
  exm_InvalidProblem_InvalidProblem : PySem.W.exmOne K (.ref C_InvalidProblem) (.ref C_InvalidProblem) = some true
  sm : HasSm K
  n_all : mg "all" = none
  n_any : mg "any" = none
  n_bool : mg "bool" = none
  n_enumerate : mg "enumerate" = none
  n_int : mg "int" = none
  n_isinstance : mg "isinstance" = none
  n_len : mg "len" = none
  n_list : mg "list" = none
  n_max : mg "max" = none
  n_min : mg "min" = none
  n_range : mg "range" = none
  n_repr : mg "repr" = none
  n_sorted : mg "sorted" = none
  n_str : mg "str" = none
  n_tuple : mg "tuple" = none
  n_zip : mg "zip" = none
  c_MOST_EVENTS : ∃ t, mg "MOST_EVENTS" = some (.int 8 t)
  c_MOST_VARIABLES : ∃ t, mg "MOST_VARIABLES" = some (.int 8 t)
theorem b_is_list {P : Program} {K : PySem.W.Frag} {mg : Str → Option Value} (T : Txt P K mg) : Binds K T.fd_is_list ["value", "low", "high"] [] := T.F_is_list.bindsN fun _ _ _ _ _ _ us hl => match us, hl with | [_, _, _], _ => rfl
theorem b_check_distinct {P : Program} {K : PySem.W.Frag} {mg : Str → Option Value} (T : Txt P K mg) : Binds K T.fd_check_distinct ["names"] [] := T.F_check_distinct.bindsN fun _ _ _ _ _ _ us hl => match us, hl with | [_], _ => rfl
theorem b_is_name {P : Program} {K : PySem.W.Frag} {mg : Str → Option Value} (T : Txt P K mg) : Binds K T.fd_is_name ["value"] [] := T.F_is_name.bindsN fun _ _ _ _ _ _ us hl => match us, hl with | [_], _ => rfl
theorem b_is_any_integer {P : Program} {K : PySem.W.Frag} {mg : Str → Option Value} (T : Txt P K mg) : Binds K T.fd_is_any_integer ["value"] [] := T.F_is_any_integer.bindsN fun _ _ _ _ _ _ us hl => match us, hl with | [_], _ => rfl
theorem b_is_integer {P : Program} {K : PySem.W.Frag} {mg : Str → Option Value} (T : Txt P K mg) : Binds K T.fd_is_integer ["value", "low", "high"] [] := T.F_is_integer.bindsN fun _ _ _ _ _ _ us hl => match us, hl with | [_, _, _], _ => rfl
theorem b_Problem_init_1 {P : Program} {K : PySem.W.Frag} {mg : Str → Option Value} (T : Txt P K mg) : ∃ ds, Vals (([.ref T.e0] : List V).drop 0) ds ∧ Binds K T.fd_Problem_init ["self", "variables", "events"] ds := T.F_Problem_init.binds1 (ps := ["self", "variables", "events"]) 2 0 (by simp) (by rfl) fun _ _ _ _ _ _ _ us its h1 h2 => match us, its, h1, h2 with | [_, _], [_], _, _ => ⟨_, rfl, rfl⟩
theorem b_Problem_init {P : Program} {K : PySem.W.Frag} {mg : Str → Option Value} (T : Txt P K mg) : Binds K T.fd_Problem_init ["self", "variables", "events"] [] := by
  obtain ⟨ds, v, b⟩ := T.F_Problem_init.binds1 (ps := ["self", "variables", "events"]) 3 1 (by simp) (by rfl) fun _ _ _ _ _ _ _ us its h1 h2 => match us, its, h1, h2 with | [_, _, _], [_], _, _ => ⟨_, rfl, rfl⟩
  cases v
  exact b
theorem b_Problem_events {P : Program} {K : PySem.W.Frag} {mg : Str → Option Value} (T : Txt P K mg) : Binds K T.fd_Problem_events ["self"] [] := T.F_Problem_events.bindsN fun _ _ _ _ _ _ us hl => match us, hl with | [_], _ => rfl
theorem b_Problem_neighbors {P : Program} {K : PySem.W.Frag} {mg : Str → Option Value} (T : Txt P K mg) : Binds K T.fd_Problem_neighbors ["self", "event"] [] := T.F_Problem_neighbors.bindsN fun _ _ _ _ _ _ us hl => match us, hl with | [_, _], _ => rfl
theorem b_Problem_is_event {P : Program} {K : PySem.W.Frag} {mg : Str → Option Value} (T : Txt P K mg) : Binds K T.fd_Problem_is_event ["self", "value"] [] := T.F_Problem_is_event.bindsN fun _ _ _ _ _ _ us hl => match us, hl with | [_, _], _ => rfl
theorem b_Problem_check_event {P : Program} {K : PySem.W.Frag} {mg : Str → Option Value} (T : Txt P K mg) : Binds K T.fd_Problem_check_event ["self", "value"] [] := T.F_Problem_check_event.bindsN fun _ _ _ _ _ _ us hl => match us, hl with | [_, _], _ => rfl
theorem b_check_problem {P : Program} {K : PySem.W.Frag} {mg : Str → Option Value} (T : Txt P K mg) : Binds K T.fd_check_problem ["value"] [] := T.F_check_problem.bindsN fun _ _ _ _ _ _ us hl => match us, hl with | [_], _ => rfl
theorem b__neighbors_of {P : Program} {K : PySem.W.Frag} {mg : Str → Option Value} (T : Txt P K mg) : Binds K T.fd__neighbors_of ["event", "scopes"] [] := T.F__neighbors_of.bindsN fun _ _ _ _ _ _ us hl => match us, hl with | [_, _], _ => rfl
theorem b__are_values {P : Program} {K : PySem.W.Frag} {mg : Str → Option Value} (T : Txt P K mg) : Binds K T.fd__are_values ["value", "sizes"] [] := T.F__are_values.bindsN fun _ _ _ _ _ _ us hl => match us, hl with | [_, _], _ => rfl
theorem b__check_variables {P : Program} {K : PySem.W.Frag} {mg : Str → Option Value} (T : Txt P K mg) : Binds K T.fd__check_variables ["variables"] [] := T.F__check_variables.bindsN fun _ _ _ _ _ _ us hl => match us, hl with | [_], _ => rfl
theorem b__is_variable_row {P : Program} {K : PySem.W.Frag} {mg : Str → Option Value} (T : Txt P K mg) : Binds K T.fd__is_variable_row ["row"] [] := T.F__is_variable_row.bindsN fun _ _ _ _ _ _ us hl => match us, hl with | [_], _ => rfl
theorem b__check_events {P : Program} {K : PySem.W.Frag} {mg : Str → Option Value} (T : Txt P K mg) : Binds K T.fd__check_events ["events", "sizes"] [] := T.F__check_events.bindsN fun _ _ _ _ _ _ us hl => match us, hl with | [_, _], _ => rfl
theorem b__is_event_row {P : Program} {K : PySem.W.Frag} {mg : Str → Option Value} (T : Txt P K mg) : Binds K T.fd__is_event_row ["row"] [] := T.F__is_event_row.bindsN fun _ _ _ _ _ _ us hl => match us, hl with | [_], _ => rfl
theorem b__check_scope {P : Program} {K : PySem.W.Frag} {mg : Str → Option Value} (T : Txt P K mg) : Binds K T.fd__check_scope ["scope", "sizes"] [] := T.F__check_scope.bindsN fun _ _ _ _ _ _ us hl => match us, hl with | [_, _], _ => rfl
theorem b__check_variable {P : Program} {K : PySem.W.Frag} {mg : Str → Option Value} (T : Txt P K mg) : Binds K T.fd__check_variable ["value", "sizes"] [] := T.F__check_variable.bindsN fun _ _ _ _ _ _ us hl => match us, hl with | [_, _], _ => rfl
theorem b__are_bad_tuples {P : Program} {K : PySem.W.Frag} {mg : Str → Option Value} (T : Txt P K mg) : Binds K T.fd__are_bad_tuples ["bad_tuples", "sizes"] [] := T.F__are_bad_tuples.bindsN fun _ _ _ _ _ _ us hl => match us, hl with | [_, _], _ => rfl
theorem b_independent_tuples {P : Program} {K : PySem.W.Frag} {mg : Str → Option Value} (T : Txt P K mg) : Binds K T.fd_independent_tuples ["names", "neighbors"] [] := T.F_independent_tuples.bindsN fun _ _ _ _ _ _ us hl => match us, hl with | [_, _], _ => rfl
theorem b__with_one_more {P : Program} {K : PySem.W.Frag} {mg : Str → Option Value} (T : Txt P K mg) : Binds K T.fd__with_one_more ["chosen", "rest", "neighbors"] [] := T.F__with_one_more.bindsN fun _ _ _ _ _ _ us hl => match us, hl with | [_, _, _], _ => rfl
theorem b_independent_sets {P : Program} {K : PySem.W.Frag} {mg : Str → Option Value} (T : Txt P K mg) : Binds K T.fd_independent_sets ["problem"] [] := T.F_independent_sets.bindsN fun _ _ _ _ _ _ us hl => match us, hl with | [_], _ => rfl
theorem b_l_cell {P : Program} {K : PySem.W.Frag} {mg : Str → Option Value} (T : Txt P K mg) : Binds K T.fd_l_cell ["_law_script", "_law_k"] [] := T.F_l_cell.bindsN fun _ _ _ _ _ _ us hl => match us, hl with | [_, _], _ => rfl
theorem b_l_box {P : Program} {K : PySem.W.Frag} {mg : Str → Option Value} (T : Txt P K mg) : Binds K T.fd_l_box ["_law_cell_here"] [] := T.F_l_box.bindsN fun _ _ _ _ _ _ us hl => match us, hl with | [_], _ => rfl
theorem b_l_take {P : Program} {K : PySem.W.Frag} {mg : Str → Option Value} (T : Txt P K mg) : Binds K T.fd_l_take ["_law_box_here", "_law_many"] [] := T.F_l_take.bindsN fun _ _ _ _ _ _ us hl => match us, hl with | [_, _], _ => rfl
theorem b_l_names {P : Program} {K : PySem.W.Frag} {mg : Str → Option Value} (T : Txt P K mg) : Binds K T.fd_l_names ["_law_box_here", "_law_many"] [] := T.F_l_names.bindsN fun _ _ _ _ _ _ us hl => match us, hl with | [_, _], _ => rfl
theorem b_l_data {P : Program} {K : PySem.W.Frag} {mg : Str → Option Value} (T : Txt P K mg) : Binds K T.fd_l_data ["_law_box_here", "_law_many", "_law_top"] [] := T.F_l_data.bindsN fun _ _ _ _ _ _ us hl => match us, hl with | [_, _, _], _ => rfl
theorem b_l_meet {P : Program} {K : PySem.W.Frag} {mg : Str → Option Value} (T : Txt P K mg) : Binds K T.fd_l_meet ["_law_one", "_law_other"] [] := T.F_l_meet.bindsN fun _ _ _ _ _ _ us hl => match us, hl with | [_, _], _ => rfl
theorem b_l_search {P : Program} {K : PySem.W.Frag} {mg : Str → Option Value} (T : Txt P K mg) : Binds K T.fd_l_search ["_law_events"] [] := T.F_l_search.bindsN fun _ _ _ _ _ _ us hl => match us, hl with | [_], _ => rfl
theorem b_l_caught {P : Program} {K : PySem.W.Frag} {mg : Str → Option Value} (T : Txt P K mg) : Binds K T.fd_l_caught ["_law_thing"] [] := T.F_l_caught.bindsN fun _ _ _ _ _ _ us hl => match us, hl with | [_], _ => rfl
theorem b_law {P : Program} {K : PySem.W.Frag} {mg : Str → Option Value} (T : Txt P K mg) : Binds K T.fd_law ["_law_script"] [] := T.F_law.bindsN fun _ _ _ _ _ _ us hl => match us, hl with | [_], _ => rfl

end K38
namespace K38
open PySem PySem.Spec PyProof.Rows L2 TL
def d_is_list : He.DefD := ⟨("is_list", none), "is_list", "is_list", defArgs s_is_list, defBody s_is_list, defScope s_is_list, [], []⟩
def d_check_distinct : He.DefD := ⟨("check_distinct", none), "check_distinct", "check_distinct", defArgs s_check_distinct, defBody s_check_distinct, defScope s_check_distinct, [], []⟩
def d_is_name : He.DefD := ⟨("is_name", none), "is_name", "is_name", defArgs s_is_name, defBody s_is_name, defScope s_is_name, [], []⟩
def d_is_any_integer : He.DefD := ⟨("is_any_integer", none), "is_any_integer", "is_any_integer", defArgs s_is_any_integer, defBody s_is_any_integer, defScope s_is_any_integer, [], []⟩
def d_is_integer : He.DefD := ⟨("is_integer", none), "is_integer", "is_integer", defArgs s_is_integer, defBody s_is_integer, defScope s_is_integer, [], []⟩
def d_Problem_init : He.DefD := ⟨("Problem", some "__init__"), "__init__", "Problem.__init__", defArgs s_Problem_init, defBody s_Problem_init, defScope s_Problem_init, [.adr (He.dflAt ("Problem", some "__init__") 0)], []⟩
def d_Problem_events : He.DefD := ⟨("Problem", some "events"), "events", "Problem.events", defArgs s_Problem_events, defBody s_Problem_events, defScope s_Problem_events, [], []⟩
def d_Problem_neighbors : He.DefD := ⟨("Problem", some "neighbors"), "neighbors", "Problem.neighbors", defArgs s_Problem_neighbors, defBody s_Problem_neighbors, defScope s_Problem_neighbors, [], []⟩
def d_Problem_is_event : He.DefD := ⟨("Problem", some "is_event"), "is_event", "Problem.is_event", defArgs s_Problem_is_event, defBody s_Problem_is_event, defScope s_Problem_is_event, [], []⟩
def d_Problem_check_event : He.DefD := ⟨("Problem", some "check_event"), "check_event", "Problem.check_event", defArgs s_Problem_check_event, defBody s_Problem_check_event, defScope s_Problem_check_event, [], []⟩
def d_check_problem : He.DefD := ⟨("check_problem", none), "check_problem", "check_problem", defArgs s_check_problem, defBody s_check_problem, defScope s_check_problem, [], []⟩
def d__neighbors_of : He.DefD := ⟨("_neighbors_of", none), "_neighbors_of", "_neighbors_of", defArgs s__neighbors_of, defBody s__neighbors_of, defScope s__neighbors_of, [], []⟩
def d__are_values : He.DefD := ⟨("_are_values", none), "_are_values", "_are_values", defArgs s__are_values, defBody s__are_values, defScope s__are_values, [], []⟩
def d__check_variables : He.DefD := ⟨("_check_variables", none), "_check_variables", "_check_variables", defArgs s__check_variables, defBody s__check_variables, defScope s__check_variables, [], []⟩
def d__is_variable_row : He.DefD := ⟨("_is_variable_row", none), "_is_variable_row", "_is_variable_row", defArgs s__is_variable_row, defBody s__is_variable_row, defScope s__is_variable_row, [], []⟩
def d__check_events : He.DefD := ⟨("_check_events", none), "_check_events", "_check_events", defArgs s__check_events, defBody s__check_events, defScope s__check_events, [], []⟩
def d__is_event_row : He.DefD := ⟨("_is_event_row", none), "_is_event_row", "_is_event_row", defArgs s__is_event_row, defBody s__is_event_row, defScope s__is_event_row, [], []⟩
def d__check_scope : He.DefD := ⟨("_check_scope", none), "_check_scope", "_check_scope", defArgs s__check_scope, defBody s__check_scope, defScope s__check_scope, [], []⟩
def d__check_variable : He.DefD := ⟨("_check_variable", none), "_check_variable", "_check_variable", defArgs s__check_variable, defBody s__check_variable, defScope s__check_variable, [], []⟩
def d__are_bad_tuples : He.DefD := ⟨("_are_bad_tuples", none), "_are_bad_tuples", "_are_bad_tuples", defArgs s__are_bad_tuples, defBody s__are_bad_tuples, defScope s__are_bad_tuples, [], []⟩
def d_independent_tuples : He.DefD := ⟨("independent_tuples", none), "independent_tuples", "independent_tuples", defArgs s_independent_tuples, defBody s_independent_tuples, defScope s_independent_tuples, [], []⟩
def d__with_one_more : He.DefD := ⟨("_with_one_more", none), "_with_one_more", "_with_one_more", defArgs s__with_one_more, defBody s__with_one_more, defScope s__with_one_more, [], []⟩
def d_independent_sets : He.DefD := ⟨("independent_sets", none), "independent_sets", "independent_sets", defArgs s_independent_sets, defBody s_independent_sets, defScope s_independent_sets, [], []⟩
def d_l_cell : He.DefD := ⟨("_law_cell", none), "_law_cell", "_law_cell", defArgs s_l_cell, defBody s_l_cell, defScope s_l_cell, [], []⟩
def d_l_box : He.DefD := ⟨("_law_box", none), "_law_box", "_law_box", defArgs s_l_box, defBody s_l_box, defScope s_l_box, [], []⟩
def d_l_take : He.DefD := ⟨("_law_take", none), "_law_take", "_law_take", defArgs s_l_take, defBody s_l_take, defScope s_l_take, [], []⟩
def d_l_names : He.DefD := ⟨("_law_names", none), "_law_names", "_law_names", defArgs s_l_names, defBody s_l_names, defScope s_l_names, [], []⟩
def d_l_data : He.DefD := ⟨("_law_data", none), "_law_data", "_law_data", defArgs s_l_data, defBody s_l_data, defScope s_l_data, [], []⟩
def d_l_meet : He.DefD := ⟨("_law_meet", none), "_law_meet", "_law_meet", defArgs s_l_meet, defBody s_l_meet, defScope s_l_meet, [], []⟩
def d_l_search : He.DefD := ⟨("_law_search", none), "_law_search", "_law_search", defArgs s_l_search, defBody s_l_search, defScope s_l_search, [], []⟩
def d_l_caught : He.DefD := ⟨("_law_caught", none), "_law_caught", "_law_caught", defArgs s_l_caught, defBody s_l_caught, defScope s_l_caught, [], []⟩
def d_law : He.DefD := ⟨("law", none), "law", "law", defArgs s_law, defBody s_law, defScope s_law, [], []⟩
def fn : List He.DefD := [d_is_list, d_check_distinct, d_is_name, d_is_any_integer, d_is_integer, d_Problem_init, d_Problem_events, d_Problem_neighbors, d_Problem_is_event, d_Problem_check_event, d_check_problem, d__neighbors_of, d__are_values, d__check_variables, d__is_variable_row, d__check_events, d__is_event_row, d__check_scope, d__check_variable, d__are_bad_tuples, d_independent_tuples, d__with_one_more, d_independent_sets, d_l_cell, d_l_box, d_l_take, d_l_names, d_l_data, d_l_meet, d_l_search, d_l_caught, d_law]
def fa : List He.Fa := [.glo "is_list", .glo "check_distinct", .glo "is_name", .glo "is_any_integer", .glo "is_integer", .glo "check_problem", .glo "_neighbors_of", .glo "_are_values", .glo "_check_variables", .glo "_is_variable_row", .glo "_check_events", .glo "_is_event_row", .glo "_check_scope", .glo "_check_variable", .glo "_are_bad_tuples", .glo "independent_tuples", .glo "_with_one_more", .glo "independent_sets", .glo "_law_cell", .glo "_law_box", .glo "_law_take", .glo "_law_names", .glo "_law_data", .glo "_law_meet", .glo "_law_search", .glo "_law_caught", .glo "law", .glo "Problem", .meth "Problem" "events", .meth "Problem" "neighbors", .meth "Problem" "is_event", .meth "Problem" "check_event", .free "all", .free "any", .free "bool", .free "enumerate", .free "int", .free "isinstance", .free "len", .free "list", .free "max", .free "min", .free "range", .free "repr", .free "sorted", .free "str", .free "tuple", .free "zip", .cls "Problem", .mkr "Problem", .noat "Problem" "_variables", .noat "Problem" "_sizes", .noat "Problem" "_places", .noat "Problem" "_events", .noat "Problem" "_scopes", .noat "Problem" "_bad_tuples", .noat "Problem" "_neighbors", .exm "InvalidProblem" "InvalidProblem" true]
abbrev R : PySem.W.OpenRow := PySem.W.OpenLaw.row PySem.Challenge.rw_resampler_k38_independent_sets_listed
def x_InvalidProblem : PySem.EXV.ExD := PySem.EXV.exdOf "InvalidProblem" "InvalidProblem.__init__" "value" "not a problem" (inClass (top 7) 0) 0
def exs : List PySem.EXV.ExD := [x_InvalidProblem]
def tests : List (PySem.W.Frag → Bool) := [(fun K => ownB K "Problem"), PySem.EXV.smB, (PySem.EXV.conB "MOST_EVENTS" 8), (PySem.EXV.conB "MOST_VARIABLES" 8), (fun K => PySem.EXV.isEB K (He.dflAt ("Problem", some "__init__") 0 K))]
def file : Str := PySem.Challenge.pw_resampler_k38_independent_sets_listed.main.file
def asv : List PySem.Addr := [3, 390, 389, 121, 120, 193, 192, 200, 199, 205, 204, 212, 211, 219, 218, 233, 232, 228, 268, 267, 303, 302, 345, 344, 366, 365, 401, 400, 406, 405, 411, 410, 416, 415, 423, 422, 428, 427, 435, 434, 442, 441, 449, 448, 456, 455, 461, 460, 466, 465, 471, 470, 478, 477, 485, 484, 492, 491, 497, 496, 502, 501, 507, 506, 512, 511, 519, 518, 524, 523, 227, 31, 30, 118, 117, 106, 1, 2]
abbrev hk : PySem.W.Hook := PySem.EXV.hookY asv file tests fa fn exs
def ob (s : PySem.W.SharedT) : PySem.EXV.AlX := PySem.EXV.obsYG asv file tests fa fn exs (HandSHeadRun.getT s)
theorem ob_eq (s : PySem.W.SharedT) : ob s = hk.obs s.abs := PySem.EXV.obsYG_eq (HandSHeadRun.getT_eq s)
def loose : List Str := [("_wall" : Str), ("ResampleError" : Str), ("MissingError" : Str), ("StateError" : Str), ("InvalidVariables" : Str), ("InvalidEvents" : Str), ("InvalidProblem" : Str), ("DuplicateName" : Str), ("UnknownVariable" : Str), ("UnknownEvent" : Str), ("is_list" : Str), ("check_distinct" : Str), ("is_name" : Str), ("is_any_integer" : Str), ("is_integer" : Str), ("Problem" : Str), ("check_problem" : Str), ("_neighbors_of" : Str), ("_are_values" : Str), ("_check_variables" : Str), ("_is_variable_row" : Str), ("_check_events" : Str), ("_is_event_row" : Str), ("_check_scope" : Str), ("_check_variable" : Str), ("_are_bad_tuples" : Str), ("independent_tuples" : Str), ("_with_one_more" : Str), ("independent_sets" : Str), ("_law_cell" : Str), ("_law_box" : Str), ("_law_take" : Str), ("_law_names" : Str), ("_law_data" : Str), ("_law_meet" : Str), ("_law_search" : Str), ("_law_caught" : Str), ("MOST_VARIABLES" : Str), ("MOST_EVENTS" : Str)]
theorem run (w : World) : HandSHeadRun.RunEq R (PySem.W.view R.prog [46]) hk ob 8000 loose w := by
  intro os
  kernel_rfl


end K38
namespace L2
open PySem PySem.Spec PyProof.Rows
/-! ### data whose repr fits -/
def CpOk (x : Str) : Prop := ∀ c ∈ x.cps.toList, c < 16 ^ 8
theorem cpOk_of (s : String) : CpOk (Str.ofString s) := by
  intro c hc
  rw [Str.ofString_eq_toList] at hc
  obtain ⟨ch, _, rfl⟩ := List.mem_map.mp (show c ∈ s.toList.map Char.toNat by simpa using hc)
  have h : ch.toNat < 4294967296 := ch.val.toNat_lt
  exact h
theorem cpOk_app {x y : Str} (hx : CpOk x) (hy : CpOk y) : CpOk (x ++ y) := by
  intro c hc
  have e : (x ++ y).cps.toList = x.cps.toList ++ y.cps.toList := by show (x.cps ++ y.cps).toList = _; simp
  rw [e] at hc
  exact (List.mem_append.mp hc).elim (hx c) (hy c)
theorem cpOk_empty : CpOk Str.empty := fun c hc => by cases hc
/-- repr fits in B signs, nested at most k deep -/
structure OkD (B k : Nat) (d : PyData) : Prop where
  sh : d.showable = true
  dp : d.depth ≤ k
  ln : d.shown.length ≤ B
theorem OkD.mono {B B' k k' : Nat} {d : PyData} (h : OkD B k d) (hB : B ≤ B') (hk : k ≤ k') : OkD B' k' d := ⟨h.sh, Nat.le_trans h.dp hk, Nat.le_trans h.ln hB⟩
theorem OkD.fine {B k : Nat} {d : PyData} (h : OkD B k d) (hB : B ≤ 16777216) (hk : k ≤ 60) : Fine d := ⟨h.sh, Nat.le_trans h.dp hk, by rw [sizeLine_eq]; exact Nat.le_trans h.ln hB⟩
theorem okd_none : OkD 4 0 .none := ⟨rfl, Nat.le_refl _, Nat.le_refl _⟩
theorem okd_bool (b : Bool) : OkD 5 0 (.bool b) := ⟨rfl, Nat.le_refl _, by cases b <;> decide⟩
theorem okd_int {i : Int} (h : i.natAbs < 10 ^ 500) : OkD 501 0 (.int i) := by
  refine ⟨?_, Nat.le_refl _, ?_⟩
  · have e : i.natAbs.log2 < 1900 := PySem.Flt.log2_lt_of (k := 1900) (by decide) (Nat.lt_of_lt_of_le h (by decide +kernel))
    simp only [PyData.showable, decide_eq_true_eq]
    omega
  · show (Str.ofString (toString i)).length ≤ 501
    rw [PySem.ofString_length]
    exact int_text_length_le10 (k := 500) (by decide) h
theorem okd_str {x : Str} {n : Nat} (h : CpOk x) (l : x.length ≤ n) : OkD (10 * n + 2) 0 (.str x) := by
  refine ⟨rfl, Nat.le_refl _, ?_⟩
  have := StrLaws.reprText_len x h
  simp only [PyData.shown]
  omega
theorem showableAll_of : ∀ {ds : List PyData}, (∀ d ∈ ds, d.showable = true) → PyData.showableAll ds = true
  | [], _ => rfl
  | d :: ds, h => by
    simp only [PyData.showableAll, Bool.and_eq_true]
    exact ⟨h d List.mem_cons_self, showableAll_of fun x hx => h x (List.mem_cons_of_mem _ hx)⟩
theorem depthAll_of {k : Nat} : ∀ {ds : List PyData}, (∀ d ∈ ds, d.depth ≤ k) → PyData.depthAll ds ≤ k
  | [], _ => Nat.zero_le _
  | d :: ds, h => by
    simp only [PyData.depthAll]
    exact Nat.max_le.mpr ⟨h d List.mem_cons_self, depthAll_of fun x hx => h x (List.mem_cons_of_mem _ hx)⟩
theorem shownAll_sum {B : Nat} : ∀ {ds : List PyData}, (∀ d ∈ ds, d.shown.length ≤ B) → ((PyData.shownAll ds).map (·.length)).sum ≤ ds.length * B
  | [], _ => Nat.zero_le _
  | d :: ds, h => by
    have h1 := h d List.mem_cons_self
    have h2 := shownAll_sum (ds := ds) fun x hx => h x (List.mem_cons_of_mem _ hx)
    simp only [PyData.shownAll, List.map_cons, List.sum_cons, List.length_cons, Nat.add_mul, Nat.one_mul]
    omega
theorem okd_list {B k m : Nat} {ds : List PyData} (h : ∀ d ∈ ds, OkD B k d) (hm : ds.length ≤ m) : OkD (m * (B + 2) + 3) (k + 1) (.list ds) := by
  refine ⟨?_, ?_, ?_⟩
  · simp only [PyData.showable]; exact showableAll_of fun d hd => (h d hd).sh
  · simp only [PyData.depth]; exact Nat.succ_le_succ (depthAll_of fun d hd => (h d hd).dp)
  · have h1 := shownAll_sum fun d hd => (h d hd).ln
    have h2 := listText_len_le (PyData.shownAll ds)
    have h3 := PyData.shownAll_length ds
    have h4 : ds.length * (B + 2) ≤ m * (B + 2) := Nat.mul_le_mul_right _ hm
    rw [Nat.mul_add] at h4
    simp only [PyData.shown]
    omega
theorem okd_tuple {B k m : Nat} {ds : List PyData} (h : ∀ d ∈ ds, OkD B k d) (hm : ds.length ≤ m) : OkD (m * (B + 2) + 3) (k + 1) (.tuple ds) := by
  refine ⟨?_, ?_, ?_⟩
  · simp only [PyData.showable]; exact showableAll_of fun d hd => (h d hd).sh
  · simp only [PyData.depth]; exact Nat.succ_le_succ (depthAll_of fun d hd => (h d hd).dp)
  · have h1 := shownAll_sum fun d hd => (h d hd).ln
    have h2 := tupleText_len_le (PyData.shownAll ds)
    have h3 := PyData.shownAll_length ds
    have h4 : ds.length * (B + 2) ≤ m * (B + 2) := Nat.mul_le_mul_right _ hm
    rw [Nat.mul_add] at h4
    simp only [PyData.shown]
    omega
theorem all1 {P : PyData → Prop} {a : PyData} (ha : P a) : ∀ d ∈ [a], P d := fun d hd => by
  rw [List.mem_singleton.mp hd]; exact ha
theorem allC {P : PyData → Prop} {a : PyData} {l : List PyData} (ha : P a) (hl : ∀ d ∈ l, P d) : ∀ d ∈ a :: l, P d := fun d hd => (List.mem_cons.mp hd).elim (fun e => e ▸ ha) (hl d)
theorem all0 {P : PyData → Prop} : ∀ d ∈ ([] : List PyData), P d := fun d hd => by cases hd
/-! ### data that stays -/
mutual
theorem Dx.same {K : PySem.W.Frag} {H H' : Hp} (s : ∀ a o, H a = some o → H' a = some o) : ∀ {d : PyData} {v : V}, Dx K H v d → Dx K H' v d
  | .none, _, h => by cases h; exact .non
  | .bool b, _, h => by cases h; exact .bl b
  | .int i, _, h => by cases h; exact .int i
  | .str x, _, h => by cases h; exact .str x
  | .list ds, _, h => by
    cases h with
    | lst hs ha => exact .lst (hs.ext s) (DxAll.same s ha)
  | .tuple ds, _, h => by
    cases h with
    | tup hs ha => exact .tup (hs.ext s) (DxAll.same s ha)
  | .dict kvs, _, h => by
    cases h with
    | dic hs hk ha => exact .dic (hs.elim (fun h => .inl (s _ _ h)) fun ⟨o, h⟩ => .inr ⟨o, s _ _ h⟩) hk (DxKv.same s ha)
theorem DxAll.same {K : PySem.W.Frag} {H H' : Hp} (s : ∀ a o, H a = some o → H' a = some o) : ∀ {ds : List PyData} {vs : List V}, DxAll K H vs ds → DxAll K H' vs ds
  | [], _, h => by cases h; exact .nil
  | d :: ds, _, h => by
    cases h with
    | cons h1 h2 => exact .cons (Dx.same s h1) (DxAll.same s h2)
theorem DxKv.same {K : PySem.W.Frag} {H H' : Hp} (s : ∀ a o, H a = some o → H' a = some o) : ∀ {kvs : List (PyData × PyData)} {vs : List V}, DxAll K H vs (kvs.map (·.2)) → DxAll K H' vs (kvs.map (·.2))
  | [], _, h => by cases h; exact .nil
  | (k, d) :: ds, _, h => by
    rw [List.map_cons] at h ⊢
    cases h with
    | cons h1 h2 => exact .cons (Dx.same s h1) (DxKv.same s h2)
end
end L2

/-! enumerate(a dict): its keys by turns. -/
namespace PySem
open Sem (wp)
section
variable {prog : Program} {w : World} {A : Around} {E : Value → Shared → Prop} {st : Shared}
theorem ekey_item {jt dd : Addr} {j n ep : Nat} {ob : Obj} {es : Array DictEntry} {en : DictEntry} {P : Value → Shared → Prop} (g : st.heap.IsKeyIter jt dd j n ep) (gd : st.heap.get? dd = some ob) (cd : ob.data = .dict es ep)
    (zs : es.size = n) (hx : es[j]? = some en) (hQ : ∀ h', h'.IsKeyIter jt dd (j + 1) n ep → Heap.SameBut jt st.heap h' → P en.key { st with heap := h' }) :
    wpAny (model prog w) A (Builtin.SmallTypes.nextOf (.ref jt)) P E st := by
  obtain ⟨oi, gi, ci, di⟩ := id g
  unfold Builtin.SmallTypes.nextOf
  refine wpAny_bind (wpAny_callSpecial?_slot (name := Str.ofString "__next__") g.typeIs F.slot_dict_keyiterator_next (wpAny_call_entry F.slot_dict_keyiterator_next g.typeIs F.entry_dict_keyiterator_next ?_ (F.args_dict_keyiterator_next_1 _)))
  refine wpAny_bind <| wpAny_pure ?_
  refine wpAny_bind (wpAny_bind ?_)
  first | refine wpAny_bind (wpAny_typeNameOfWhole_keyiter g.typeIs (wpAny_pure ?_)) | refine wpAny_bind (wpAny_typeNameOf_keyiter g.typeIs (wpAny_pure ?_))
  refine wpAny_bind (wpAny_fieldsOf gi di ?_)
  have ow : Builtin.Dict_items.ownsTuple "dict_keyiterator" = false := by decide
  simp only [ow, Bool.false_eq_true, if_false]
  show wpAny _ _ (if (Value.ref dd == Value.none) = true then _ else _) _ _ st
  rw [if_neg (show ¬ ((Value.ref dd == Value.none) = true) from Bool.false_ne_true)]
  refine wpAny_bind (wpAny_pure (wpAny_bind (wpAny_dictEntries gd cd ?_)))
  rw [if_neg (by rw [zs]; simp)]
  refine wpAny_bind (wpAny_pure (wpAny_bind (wpAny_dictEpoch gd cd ?_)))
  rw [if_neg (by simp)]
  refine wpAny_pure ?_
  obtain ⟨lt, hen⟩ := Array.getElem?_eq_some_iff.mp hx
  simp only [show ¬ ((j : Int) < 0) from by omega, if_false, Int.toNat_natCast, Array.getElem?_eq_getElem lt]
  refine wpAny_bind ?_
  first | refine wpAny_bind (wpAny_typeNameOfWhole_keyiter g.typeIs (wpAny_pure ?_)) | refine wpAny_bind (wpAny_typeNameOf_keyiter g.typeIs (wpAny_pure ?_))
  refine wpAny_bind (wpAny_isOneOf_keyiter g.typeIs ?_)
  show wpAny _ _ (setField (.ref jt) 1 (rawInt ((j : Int) + 1)) >>= _) _ _ st
  refine wpAny_bind (wpAny_setField gi di (by simp) ?_)
  have g' : (st.heap.update jt (Obj.mapFields (·.setIfInBounds 1 (rawInt ((j : Int) + 1))))).IsKeyIter jt dd (j + 1) n ep :=
    ⟨_, Heap.get?_update_self _ gi (Obj.isFreed_of_fields (Obj.data_mapFields di _)), (Obj.cls_mapFields ..).trans ci, by rw [Obj.data_mapFields di]; simp [rawInt]⟩
  refine wpAny_bind (wpAny_holding (wpAny_bind (wpAny_isOneOf_keyiter (s := { st with heap := st.heap.update jt (Obj.mapFields (·.setIfInBounds 1 (rawInt ((j : Int) + 1)))) }) g'.typeIs ?_)))
  show wpAny _ _ (pure es[j].key) _ _ _
  rw [hen]
  exact wpAny_pure (wpAny_pure ⟨_, rfl, wpAny_pure (hQ _ g' (Heap.SameBut.update ..))⟩)
theorem ekey_end {jt dd : Addr} {j n ep : Nat} {ob : Obj} {es : Array DictEntry} {P : Value → Shared → Prop} (hh : A.handled = none) (g : st.heap.IsKeyIter jt dd j n ep) (gd : st.heap.get? dd = some ob) (cd : ob.data = .dict es ep)
    (zs : es.size = n) (ge : n ≤ j) (hE : ∀ h' e, Heap.ExtBut jt st.heap h' → (∃ o, h'.get? e = some o ∧ o.cls = .type "StopIteration") → E (.ref e) { st with heap := h' }) :
    wpAny (model prog w) A (Builtin.SmallTypes.nextOf (.ref jt)) P E st := by
  obtain ⟨oi, gi, ci, di⟩ := id g
  unfold Builtin.SmallTypes.nextOf
  refine wpAny_bind (wpAny_callSpecial?_slot (name := Str.ofString "__next__") g.typeIs F.slot_dict_keyiterator_next (wpAny_call_entry F.slot_dict_keyiterator_next g.typeIs F.entry_dict_keyiterator_next ?_ (F.args_dict_keyiterator_next_1 _)))
  refine wpAny_bind <| wpAny_pure ?_
  refine wpAny_bind (wpAny_bind ?_)
  first | refine wpAny_bind (wpAny_typeNameOfWhole_keyiter g.typeIs (wpAny_pure ?_)) | refine wpAny_bind (wpAny_typeNameOf_keyiter g.typeIs (wpAny_pure ?_))
  refine wpAny_bind (wpAny_fieldsOf gi di ?_)
  have ow : Builtin.Dict_items.ownsTuple "dict_keyiterator" = false := by decide
  simp only [ow, Bool.false_eq_true, if_false]
  show wpAny _ _ (if (Value.ref dd == Value.none) = true then _ else _) _ _ st
  rw [if_neg (show ¬ ((Value.ref dd == Value.none) = true) from Bool.false_ne_true)]
  refine wpAny_bind (wpAny_pure (wpAny_bind (wpAny_dictEntries gd cd ?_)))
  rw [if_neg (by rw [zs]; simp)]
  refine wpAny_bind (wpAny_pure (wpAny_bind (wpAny_dictEpoch gd cd ?_)))
  rw [if_neg (by simp)]
  refine wpAny_pure ?_
  have ge' : es.size ≤ j := by rw [zs]; exact ge
  simp only [show ¬ ((j : Int) < 0) from by omega, if_false, Int.toNat_natCast, Array.getElem?_eq_none ge']
  refine wpAny_bind ?_
  first | refine wpAny_bind (wpAny_typeNameOfWhole_keyiter g.typeIs (wpAny_pure ?_)) | refine wpAny_bind (wpAny_typeNameOf_keyiter g.typeIs (wpAny_pure ?_))
  show wpAny _ _ (setField (.ref jt) 0 .none >>= _) _ _ st
  refine wpAny_bind (wpAny_setField gi di (by simp) ?_)
  show wpAny _ _ (newExc (.type "StopIteration") [] >>= fun x => raiseNew x) _ _ _
  refine wpAny_bind (by
    simp only [newExc, newTuple]
    refine wpAny_bind (wpAny_newObj_type ?_ (by size_fits))
    refine wpAny_bind (m := firstArgMember _ _) (wpAny_of_eq (a := Value.none) (by first | rfl | (simp only [firstArgMember]; rfl)) (wpAny_newObj_type ?_ (by size_fits)))
    simp only [raiseNew]
    refine wpAny_bind (wpAny_handled ?_)
    rw [show A.in1.handled = none from hh]
    exact wpAny_bind (wpAny_pure (wpAny_throw (hE _ _ (((Heap.SameBut.update ..).extBut.push _).push _) ⟨_, Heap.get?_push_size _ rfl, rfl⟩))))
/-- the keys' iterator drawn, over a dict that stands -/
theorem ekey_draws (hh : A.handled = none) (jt dd : Addr) (ne : dd ≠ jt) (ob : Obj) (es : Array DictEntry) (ep : Nat) (cd : ob.data = .dict es ep) :
    Draws prog w A jt [jt, dd] es.size (fun j v => ∃ en, es[j]? = some en ∧ v = en.key) (fun j h => h.IsKeyIter jt dd j es.size ep ∧ h.get? dd = some ob) where
  live := fun _ _ s => let ⟨o, ho, _⟩ := s.1; ⟨o, ho⟩
  frame := fun _ _ _ s hk => ⟨s.1.at fun o e => hk jt (by simp) o e, hk dd (by simp) _ s.2⟩
  item := fun j s Q E hj g hQ => ekey_item g.1 g.2 cd rfl (Array.getElem?_eq_getElem hj) fun h' g' sb => hQ _ h' s.toks ⟨_, Array.getElem?_eq_getElem hj, rfl⟩ ⟨g', (sb.2 dd ne).trans g.2⟩ sb
  done := fun s Q E g hE => ekey_end hh g.1 g.2 cd rfl (Nat.le_refl _) hE
end
end PySem
namespace PySem
open Sem (wp)
section
theorem begins_keys {dd : Addr} {ob : Obj} {es : Array DictEntry} {ep : Nat} (sys : (dd == sysModules) = false) (cx : ob.ExactDict) (cd : ob.data = .dict es ep) :
    Begins (.ref dd) { cls := .type "dict_keyiterator", data := .fields #[.ref dd, .int 0 0, .int es.size 0, .int ep 0] } fun h => h.get? dd = some ob where
  iter := fun _ _ _ _ _ _ gd h => L2.iter_keys sys gd cx cd h
  keeps := fun _ _ x hk => hk _ _ x
  free := rfl
theorem meets_enum1 {v : Value} {o : Obj} {H : Heap → Prop} (B : Begins v o H) :
    Meets (Builtin.«enumerate.__new__» ⟨[.type "enumerate", v], []⟩) (fun _ R z => H z.heap ∧
      R (.ok (.ret (.ref (z.heap.push o).objs.size))) { z with heap := (z.heap.push o).push { cls := .type "enumerate", data := .fields #[.none, .bool false, .ref z.heap.objs.size, rawInt 0, .none, .none] } }) :=
  .of_wp fun prog w A R z h => by
    obtain ⟨hp, g, d, tk, os⟩ := z; obtain ⟨h1, h⟩ := h
    have hsub := sub_enumerate
    have q1 : ∀ {A' : Around} {E : Value → Shared → Prop} {Q : Value → Shared → Prop}, Q (.ref hp.objs.size) ⟨hp.push o, g, d, tk, os⟩ → wpAny (model prog w) A' (pyIter v) Q E ⟨hp, g, d, tk, os⟩ := fun q => B.iter prog w _ _ ⟨hp, g, d, tk, os⟩ _ h1 q
    wp_walk using q1
    refine wpAny_stack_any fun ss => wpAny_pure ?_
    split
    · rename_i c _ _ _ _ _
      cases (c == Value.type "enumerate") <;> (wp_walk using q1; exact ⟨_, rfl, h⟩)
    · wp_walk using q1
      exact ⟨_, rfl, h⟩
variable {prog : Program} {w : World} {A : Around} {E : Value → Shared → Prop} {st : Shared}
theorem enum1_begins {v : Value} {o : Obj} {H : Heap → Prop} {Q : Value → Shared → Prop} (B : Begins v o H) (h1 : H st.heap)
    (h : ∀ h', IsEnum h' (st.heap.objs.size + 1) st.heap.objs.size 0 .none → h'.get? st.heap.objs.size = some o → (∀ b o, st.heap.get? b = some o → h'.get? b = some o) → Q (.ref (st.heap.objs.size + 1)) { st with heap := h' }) :
    wpAny (model prog w) A (call (.type "enumerate") [v]) Q E st := by
  refine callType_new F.called_enumerate (by decide) (F.typeCall_enumerate_1 _) (F.newCall_enumerate_1 _) (fun obj => F.args_object_init_2 obj _) F.entry_enumerate_new (meets_enum1 B) ⟨h1, ?_⟩
  have z1 : (st.heap.push o).objs.size = st.heap.objs.size + 1 := Heap.size_push ..
  show _ ∧ _
  rw [z1]
  have g : IsEnum ((st.heap.push o).push { cls := .type "enumerate", data := .fields #[.none, .bool false, .ref st.heap.objs.size, rawInt 0, .none, .none] }) (st.heap.objs.size + 1) st.heap.objs.size 0 .none := by
    have q := Heap.get?_push_size (st.heap.push o) (o := { cls := .type "enumerate", data := .fields #[.none, .bool false, .ref st.heap.objs.size, rawInt 0, .none, .none] }) rfl
    rw [z1] at q; exact q
  exact ⟨⟨_, g, rfl⟩, h _ g (Heap.get?_push_of_some _ (Heap.get?_push_size _ B.free)) fun b o x => Heap.get?_push_of_some _ (Heap.get?_push_of_some _ x)⟩
end
end PySem
namespace L2
open PySem PySem.Spec PyProof.Rows
/-- the keys of a locked dict, numbered, each in a new pair -/
def Ited (d : Addr) (o : Obj) (kvs : List (Key × V)) : It :=
  ⟨fun i H => H d = some (.frz o (.dK kvs)) ∧ i < kvs.length, fun i H x H' => ∃ T k v, kvs[i]? = some (k, v) ∧ x = .ref T ∧ H T = none ∧ H' = upd H T (.tup [.int (i : Nat), kV k]), fun i H => H d = some (.frz o (.dK kvs)) ∧ kvs.length ≤ i⟩
theorem turn_enumD {P : Program} {w : World} {K : PySem.W.Frag} {elts : List Expr} {kk : Nat} {tpos : Pos} {d : Addr} {o : Obj} {es : Array DictEntry} {ep : Nat} {kvs : List (Key × V)} (e it : Addr) (hod : o.data = .dict es ep) :
    Turn P w K (.Tuple elts kk tpos) (Ited d o kvs) [e, it] e (fun i h => (∃ old, IsEnum h e it ((i : Nat) : Int) old) ∧ h.IsKeyIter it d i es.size ep ∧ e ≠ it ∧ i ≤ es.size) where
  mem := by simp
  obj := fun i h sx b hb => by
    obtain ⟨⟨old, he⟩, ⟨o, ho, hc, hd⟩, _⟩ := sx
    rcases (by simpa using hb : b = e ∨ b = it) with z | z
    · rw [z]; exact ⟨_, he, fun v q => nomatch q⟩
    · rw [z]; exact ⟨o, ho, fun v q => by rw [hd] at q; cases q⟩
  keep := fun i h h' sx k => let ⟨⟨old, he⟩, hi, hne⟩ := sx; ⟨⟨old, k e (by simp) _ he⟩, hi.at fun o q => k it (by simp) o q, hne⟩
  item := by
    intro X hP hw hK hc i pins s σ H E I hf sx hg
    subst hP hw hK
    obtain ⟨⟨old, he⟩, hit, hne, hle⟩ := sx
    obtain ⟨hd, hi⟩ := hg
    obtain ⟨hs, hgd, hx, es', ep', vs, hdt, hsz, kv, hm⟩ := I.frzK hd
    obtain ⟨rfl, rfl⟩ := dict_ep hod hdt
    obtain ⟨⟨k, v⟩, hkv⟩ : ∃ p, kvs[i]? = some p := ⟨kvs[i], List.getElem?_eq_getElem hi⟩
    obtain ⟨u, hu, ru⟩ := kv_get kv hkv
    have hel : e < s.heap.objs.size := Heap.lt_size he
    have hil : it < s.heap.objs.size := by obtain ⟨_, q, _⟩ := hit; exact Heap.lt_size q
    have ned : ∀ b ∈ [e, it], b ≠ d := fun b hb z => by have q := (hf b hb).1; rw [z, hd] at q; cases q
    refine wpAny_pyNext_enum_itemD (ekey_draws (A := X.A.in1) (I.ok.hd hc) it d (ned it (by simp)).symm o es' ep' hdt) he ⟨hit, hgd⟩ (by rw [hsz]; exact hi) hne (by simp; exact ⟨hne, ned e (by simp)⟩) fun x h' tk hen ho hit' hT hz hk => ?_
    obtain ⟨en, hen, rfl⟩ := hen
    have hkey : keyIs k en.key = true := by
      obtain ⟨o2, es2, g2, c2, d2, ko, ps, nd⟩ := hm
      rw [hgd] at g2
      cases g2
      obtain ⟨rfl, _⟩ := dict_ep hdt d2
      exact (Pairs.get? ps (by rw [Array.getElem?_toList]; exact hen) hu).1
    refine ⟨_, rfl, wpAny_letOwnedTupleGo_enum (s := { s with heap := h', toks := tk + 1 }) ho fun h'' he' sb => ?_⟩
    have hT2 : h''.get? s.heap.objs.size = some { cls := .type "tuple", data := .seq #[.int i tk, en.key] } := (sb.2 _ (Nat.ne_of_gt hel)).trans hT
    have new : ObjOk X.prog X.w (upd H s.heap.objs.size (.tup [.int (i : Nat), kV k])) h'' s.heap.objs.size (.tup [.int (i : Nat), kV k]) :=
      ⟨by show 2 ≤ sizeLine; decide, [.int i tk, en.key], .cons ⟨_, rfl⟩ (.cons (relV_key hkey) .nil), ⟨_, hT2, rfl, _, rfl⟩⟩
    have I1 : Inv X pins σ (upd H s.heap.objs.size (.tup [.int (i : Nat), kV k])) { s with heap := h'', toks := tk + 1 } :=
      I.turnedNew (ch := [e, it]) (fun b ob hb q => (sb.2 b (fun z => hb (by simp [z]))).trans (hk b ob (fun z => hb (by simp [z])) (fun z => hb (by simp [z])) q)) hf (Nat.le_refl _) new
    have he3 : IsEnum h'' e it (((i + 1 : Nat) : Int)) en.key := by
      have e1 : ((i + 1 : Nat) : Int) = (i : Int) + 1 := by omega
      rw [e1]; exact he'
    have fz : ∀ b ∈ [e, it], upd H s.heap.objs.size (.tup [.int (i : Nat), kV k]) b = none := fun b hb => by
      have hb' : b < s.heap.objs.size := by
        rcases (by simpa using hb : b = e ∨ b = it) with z | z
        · rw [z]; exact hel
        · rw [z]; exact hil
      rw [upd_ne (Nat.ne_of_lt hb')]
      exact (hf b hb).1
    exact ⟨.ref s.heap.objs.size, _, I1, rfl, ⟨_, k, v, hkv, rfl, I.hok.fresh (Nat.le_refl _), rfl⟩, ⟨⟨en.key, he3⟩, hit'.1.at fun o q => (sb.2 it (Ne.symm hne)).trans q, hne, by rw [hsz]; exact hi⟩, fz⟩
  done := by
    intro X hP hw hK hc i pins s σ H E I hf sx hg
    subst hP hw hK
    obtain ⟨⟨old, he⟩, hit, hne, hle⟩ := sx
    obtain ⟨hd, hi⟩ := hg
    obtain ⟨hs, hgd, hx, es', ep', vs, hdt, hsz, kv, hm⟩ := I.frzK hd
    obtain ⟨rfl, rfl⟩ := dict_ep hod hdt
    obtain ⟨f0, f1, f2, f3, f4, f5⟩ := hf it (by simp)
    have ned : it ≠ d := fun z => by rw [z, hd] at f0; cases f0
    have ei : i = es'.size := Nat.le_antisymm hle (by rw [hsz]; exact hi)
    subst ei
    exact wpAny_pyNext_enum_endD (ekey_draws (A := X.A.in1) (I.ok.hd hc) it d ned.symm o es' ep' hdt) he ⟨hit, hgd⟩ fun h' eb => ⟨rfl, I.turned (t' := s.toks) (fun b o hb q => eb b o hb q) f0 f1 f3 f4 f5⟩
  self := fun A i s Q E sx h => let ⟨⟨_, he⟩, _⟩ := sx; wpAny_pyIter_enum he h
def iEnumD (td : TA) : TI := fun σ H R => td σ H fun vs H1 => ∃ d o kvs, vs = [.ref d] ∧ H1 d = some (.frz o (.dK kvs)) ∧ R (Ited d o kvs) H1
theorem pi_enumD {X : Cx} {e : Expr} {ta : TA} {p pos tpos : Pos} {elts : List Expr} {kk : Nat} (hg : Gl X "enumerate") (hm : X.mg "enumerate" = none) (ha : PA X [e] ta) (hs : starEach [e] X.env = [(false, eval e X.env)] := by rfl) :
    PI X (.Tuple elts kk tpos) (.Call (.Name "enumerate" p) [e] [] pos) (iEnumD ta) := by
  refine ⟨fun pins s σ H R I h => ?_⟩
  refine Call_ (ld_blt I hg hm boot_enumerate (PyProof.Rows.callWith_type1 (thn (ha.run pos pins s σ H _ I h) fun us s1 ⟨vs, H1, I1, r1, d, o, kvs, ex, hd, q⟩ => ?_) hs rfl))
  subst ex
  cases r1 with
  | cons r rr =>
    cases rr
    cases r
    obtain ⟨sys, hgd, hx, es, ep, ws, hdt, hsz, kv, hm⟩ := I1.frzK hd
    refine enum1_begins (begins_keys sys hx hdt) hgd fun h' he hit hk => wpAny_pyIter_enum he ?_
    have I2 : Inv X pins σ H1 { s1 with heap := h' } := I1.kept (t' := s1.toks) hk
    refine ⟨s1.heap.objs.size + 1, [s1.heap.objs.size + 1, s1.heap.objs.size], _, _, H1, rfl, I2, turn_enumD (s1.heap.objs.size + 1) s1.heap.objs.size hdt, ⟨⟨.none, he⟩, ⟨_, hit, rfl, rfl⟩, Nat.succ_ne_self _, Nat.zero_le _⟩, fun b hb => ?_, q⟩
    have le : s1.heap.objs.size ≤ b := by
      rcases (by simpa using hb : b = s1.heap.objs.size + 1 ∨ b = s1.heap.objs.size) with z | z
      · rw [z]; exact Nat.le_add_right _ _
      · rw [z]; exact Nat.le_refl _
    exact I1.fpOk le (I1.hok.fresh le)
/-- walked by one rule or by another, as the value is -/
theorem pi_or {X : Cx} {tg e : Expr} {w1 w2 : TI} (h1 : PI X tg e w1) (h2 : PI X tg e w2) : PI X tg e fun σ H R => w1 σ H R ∨ w2 σ H R :=
  ⟨fun pins s σ H R I h => h.elim (h1.run pins s σ H R I) (h2.run pins s σ H R I)⟩
end L2

/-! sorted(xs), xs a list or a tuple of tuples of small ints, all of one length. -/
namespace STT
open PySem PyProof.Rows TS
section
variable {prog : Program} {w : World} {A : Around} {E : Value → Shared → Prop} {st : Shared}
theorem coll_seq {l : Addr} {o : Obj} {vs : List Value} {n : Nat} {Q : List Value → Shared → Prop} (gl : st.heap.get? l = some o) (cl : o.cls = .type "list" ∨ o.cls = .type "tuple") (dl : o.data = .seq vs.toArray n) (z : vs.length ≤ sizeLine)
    (h : Q vs { st with heap := (st.heap.push (seqObj "list" #[] 0)).update st.heap.objs.size (Obj.mapSeq (· ++ vs.toArray)) }) : wpAny (model prog w) A (collect (.ref l)) Q E st := by
  rcases cl with cl | cl
  · exact collect_list ⟨o, gl, cl, n, dl⟩ h z
  · unfold collect
    refine wpAny_bind (wpAny_runValue (codeAny_builtin entry_proto_collect' ?_))
    show wpAny _ _ (do again (.builtin "list.__iadd__" ⟨[← newList [], .ref l], []⟩)) _ _ st
    refine wpAny_bind (wpAny_newList (wpAny_pure ⟨Code.quiet_builtin _ (by decide +kernel), codeAny_builtin entry_list_iadd' ?_⟩))
    show wpAny _ _ (Builtin.List.listExtendWith (.ref st.heap.objs.size) (.ref l) (.ref st.heap.objs.size)) _ _ { st with heap := st.heap.push (seqObj "list" #[] 0) }
    unfold Builtin.List.listExtendWith
    have gl' : (st.heap.push (seqObj "list" #[] 0)).get? l = some o := Heap.get?_push_of_some _ gl
    refine wpAny_bind (wpAny_typeOf (T := "tuple") ⟨o, gl', cl⟩ ?_)
    rw [if_pos (by rw [show (Value.type "tuple" == Value.type "tuple") = true from rfl]; simp)]
    refine wpAny_bind (listItems_at gl' dl (wpAny_bind (listItems_at (xs := #[]) (n := 0) (Heap.get?_push_size _ rfl) rfl ?_)))
    rw [if_neg (by simp)]
    refine wpAny_bind (listUpdate_at (xs := #[]) (n := 0) (Heap.get?_push_size _ rfl) rfl ?_ (Nat.zero_le _) (by show (#[] ++ vs.toArray).size ≤ sizeLine + 1; simp only [Array.size_append, List.size_toArray, List.length_nil]; omega))
    refine wpAny_pure ?_
    show wpAny (model prog w) A (do
        let oo ← load st.heap.objs.size
        match oo.data with
        | .seq xs _ => pure xs.toList
        | _ => unsupported "internal:collect") Q E { st with heap := (st.heap.push (seqObj "list" #[] 0)).update st.heap.objs.size (Obj.mapSeq (· ++ vs.toArray)) }
    refine wpAny_bind (wpAny_load (get?_update_seq (Heap.get?_push_size _ rfl) _) ?_)
    show wpAny _ _ (pure ((#[] : Array Value) ++ vs.toArray).toList) Q E _
    rw [show ((#[] : Array Value) ++ vs.toArray).toList = vs by simp]
    exact wpAny_pure h
theorem sorted_tt {l : Addr} {o : Obj} {vs : List Value} {n d : Nat} {B : Int} {Q : Value → Shared → Prop} (gl : st.heap.get? l = some o) (cl : o.cls = .type "list" ∨ o.cls = .type "tuple") (dl : o.data = .seq vs.toArray n) (lt : vs.length < 64) (hd : 1 ≤ d) (x : TupsOk st.heap d B vs)
    (h : ∀ out : Array Value, out.toList.Perm vs → out.toList.Pairwise (fun u v => code B (intsOf st.heap u) ≤ code B (intsOf st.heap v)) → Q (.ref (st.heap.objs.size + 1)) { st with heap := sortedAll st.heap vs out }) :
    wpAny (model prog w) A (call (.builtin "sorted") [.ref l]) Q E st := by
  refine Calls.call_function_entry kind_sorted plain_sorted entry_sorted (args_sorted1 _) ?_
  unfold Builtin.«sorted»
  refine wpAny_bind (m := checkCount "sorted" 1 1 _) (wpAny_pure (wpAny_bind (coll_seq gl cl dl (by rw [sizeLine_eq]; omega) (wpAny_bind (wpAny_newList ?_ (by rw [sizeLine_eq]; omega))))))
  have zz : ((st.heap.push (seqObj "list" #[] 0)).update st.heap.objs.size (Obj.mapSeq (· ++ vs.toArray))).objs.size = st.heap.objs.size + 1 := by rw [Heap.size_update, size_push']
  have gN : (((st.heap.push (seqObj "list" #[] 0)).update st.heap.objs.size (Obj.mapSeq (· ++ vs.toArray))).push (seqObj "list" vs.toArray 0)).get? (st.heap.objs.size + 1) = some (seqObj "list" vs.toArray 0) := by rw [← zz]; exact Heap.get?_push_size _ rfl
  have keep : ∀ b o, st.heap.get? b = some o → o.cls = .type "tuple" → (((st.heap.push (seqObj "list" #[] 0)).update st.heap.objs.size (Obj.mapSeq (· ++ vs.toArray))).push (seqObj "list" vs.toArray 0)).get? b = some o := fun b o q _ => by
    have lb : b < st.heap.objs.size := Heap.lt_size q
    rw [Heap.get?_push_ne _ _ _ (by rw [zz]; exact Nat.ne_of_lt (Nat.lt_succ_of_lt lb)), Heap.get?_update_ne _ _ _ _ (Nat.ne_of_lt lb), Heap.get?_push_ne _ _ _ (Nat.ne_of_lt lb)]
    exact q
  show wpAny _ _ _ _ _ { st with heap := ((st.heap.push (seqObj "list" #[] 0)).update st.heap.objs.size (Obj.mapSeq (· ++ vs.toArray))).push (seqObj "list" vs.toArray 0) }
  rw [zz]
  refine wpAny_bind (wpAny_holding (wpAny_call_entry slot_list_sort ⟨_, gN, rfl⟩ entry_list_sort (sort_tups gN lt hd (x.keeps keep) (fun v => code B (intsOf st.heap v)) (fun v hv ns t => ?_) fun out a1 a2 => ⟨_, rfl, ?_⟩) (args_list_sort _)))
  · obtain ⟨ns0, t0, _⟩ := x v hv
    rw [show ns = ns0 from t.ints.symm.trans (t0.keeps keep).ints]
    show code B (intsOf st.heap v) = code B ns0
    rw [t0.ints]
  · exact wpAny_pure ⟨_, rfl, h out a1 a2⟩
end
end STT
namespace L2
open PySem PySem.Spec PyProof.Rows
section
variable {X : Cx}
/-- sorted(xs), xs a list or a tuple of tuples of ints, d each, within [0, B) -/
def rSortTT (K : PySem.W.Frag) : List V → Hp → VK → Prop := fun vs H Q => ∃ (a : Addr) (xs : List V) (f : V → List Int) (d : Nat) (B : Int), vs = [V.ref a] ∧ (SqL K H a xs ∨ SqT K H a xs) ∧ xs.length < 64 ∧ 1 ≤ d ∧
  (∀ x ∈ xs, ∃ t, x = V.ref t ∧ SqT K H t ((f x).map V.int) ∧ (f x).length = d ∧ TS.Bd B (f x)) ∧
  ∀ ys p, ys.Perm xs → ys.Pairwise (fun x y => TS.code B (f x) ≤ TS.code B (f y)) → H p = none → Q (.ref p) (upd H p (.lst ys))
theorem cr_sortTT : CallR X (.builtin "sorted") (rSortTT X.K) := by
  intro pins s σ H vs us Q I r h
  obtain ⟨a, xs, f, d, B, rfl, hs, lt, hd, hx, q⟩ := h
  obtain ⟨u, rfl, ru⟩ := vals1 r
  obtain rfl : u = Value.ref a := ru
  obtain ⟨its, rv, o, n, gl, cl, dl⟩ : ∃ its : List Value, Vals xs its ∧ ∃ o n, s.heap.get? a = some o ∧ (o.cls = .type "list" ∨ o.cls = .type "tuple") ∧ o.data = .seq its.toArray n := by
    rcases hs with hs | hs
    · obtain ⟨its, rv, pl, _⟩ := I.list hs
      obtain ⟨o, go, co, n, dn⟩ := pl.isList
      exact ⟨its, rv, o, n, go, .inl co, dn⟩
    · obtain ⟨its, rv, ⟨o, go, co, n, dn⟩, _⟩ := I.tuple hs
      exact ⟨its, rv, o, n, go, .inr co, dn⟩
  obtain ⟨e1, e2⟩ := refs_back rv fun x m => by
    obtain ⟨t, e, _⟩ := hx x m
    exact ⟨t, e⟩
  have tups : ∀ v ∈ its, TS.TupInts s.heap v (f (backV v)) ∧ (f (backV v)).length = d ∧ TS.Bd B (f (backV v)) := fun v hv => by
    obtain ⟨t, rfl⟩ := e2 v hv
    have hm : V.ref t ∈ xs := by rw [e1]; exact List.mem_map.mpr ⟨_, hv, rfl⟩
    obtain ⟨t', e, sq, l, b⟩ := hx _ hm
    cases e
    obtain ⟨us, r2, tp, _⟩ := I.tuple sq
    exact ⟨⟨t, _, rfl, tp, by rw [List.toList_toArray]; exact intsAre_of r2⟩, l, b⟩
  refine STT.sorted_tt gl cl dl (by rw [← rv.length]; exact lt) hd (fun v hv => ⟨_, tups v hv⟩) fun out pm pw => ?_
  obtain ⟨e, ge⟩ := sortedAll_at s.heap its out
  have h3 : ∀ u ∈ out.toList, ∃ a, u = Value.ref a := fun u hu => e2 u (pm.mem_iff.mp hu)
  have lo : (out.toList.map backV).length ≤ sizeLine := by
    rw [List.length_map, pm.length_eq, ← rv.length, sizeLine_eq]; omega
  have hp : s.heap.objs.size ≤ s.heap.objs.size + 1 := Nat.le_succ _
  refine ⟨.ref (s.heap.objs.size + 1), upd H (s.heap.objs.size + 1) (.lst (out.toList.map backV)), I.laid (t' := s.toks) (fun b o q => sortedAll_old q) hp ⟨lo, out.toList, e, vals_back h3, by simpa using ge⟩, rfl, q _ _ ?_ ?_ (I.hok.fresh hp)⟩
  · rw [e1]; exact pm.map backV
  · rw [List.pairwise_map]
    refine pw.imp_of_mem fun {u v} hu hv l => ?_
    rw [(tups u (pm.mem_iff.mp hu)).1.ints, (tups v (pm.mem_iff.mp hv)).1.ints] at l
    exact l
end
end L2

/-! len(o), repr(o) of an own instance with __len__, __repr__; {x!r} of nested data. -/
namespace PySem
namespace EXV
open PySem.W PySem.Calls PyProof.Rows PySem.Spec
section
variable {prog : Program} {w : World} {A : Around} {E : Value → Shared → Prop} {st : Shared} {K : Frag} {x C f : Addr} {ox : Obj} {od : Option Obj}
theorem own_len {Q : Value → Shared → Prop} (X : K.In st.heap) (I : InstAt st.heap x ox C od) (hl : findIn K (.ref C) "__len__" = some (some (.ref f))) (hf : typeIn K (.ref f) = some (.type "function"))
    (h : wpAny (model prog w) A.in1 (call (.ref f) [.ref x]) (fun v s' => ∃ (n : Nat) (t : Tok), v = .int n t ∧ n < 2 ^ 62 ∧ ∀ t', Q (.int n t') { s' with toks := s'.toks + 1 }) E st) : wpAny (model prog w) A (call (.builtin "len") [.ref x]) Q E st := by
  refine Calls.call_function_entry kind_len plain_len entry_len (args_len1 _) ?_
  unfold Builtin.«len»
  refine wpAny_bind (m := oneArg "len" _) (wpAny_pure (wpAny_bind (m := callSpecial? (.ref x) (Str.ofString "__len__")) (special_fn X I hl hf (wpAny_mono h (fun r s' z => ?_) fun _ _ z => z))))
  obtain ⟨n, t, rfl, lt, q⟩ := z
  refine wpAny_bind (wpAny_holding (wpAny_pure (wpAny_bind (wpAny_letGo ?_))))
  show wpAny _ _ (if ((n : Nat) : Int) < 0 then _ else _) _ _ _
  rw [if_neg (by omega)]
  show wpAny _ _ (if ((n : Nat) : Int) ≥ 2 ^ 63 then _ else _) _ _ _
  rw [if_neg (by omega)]
  exact wpAny_bind (wpAny_mkInt (wpAny_pure ⟨_, rfl, q _⟩))
theorem own_repr {Q : Value → Shared → Prop} (hu : A.units + 1 < cLine) (X : K.In st.heap) (I : InstAt st.heap x ox C od) (hs : findIn K (.ref C) "__repr__" = some (some (.ref f))) (hf : isFn K (.ref f) = true)
    (h : wpAny (model prog w) A.in1 (call (.ref f) [.ref x]) (fun r s₁ => ∃ y t, r = .str y t ∧ Q r s₁) E st) : wpAny (model prog w) A (call (.builtin "repr") [.ref x]) Q E st := by
  refine Calls.call_function_entry PySem.F.kind_repr PySem.F.plain_repr PySem.F.entry_repr (PySem.F.args_repr1 _) ?_
  unfold Builtin.«repr»
  refine wpAny_bind (m := oneArg "repr" _) (wpAny_pure (wpAny_bind (m := cRoomFor _ _) (wpAny_cRoomFor (by show A.units + 1 < cLine; exact hu) ?_)))
  have sp : ∀ {Q' : Option Value → Shared → Prop}, Q' (some (.ref f)) st → wpAny (model prog w) A.in1 (specialOf (.ref x) "__repr__") Q' E st := fun q => by
    unfold specialOf
    exact wpAny_bind (I.type.here ((PySem.W.looks_findIn X hs).here q))
  refine wpAny_bind (sp ?_)
  refine wpAny_bind (m := callSpecialIfBound? (.ref x) (Str.ofString "__repr__")) (ifBound_K X I hs hf (wpAny_mono h (fun r s₁ z => ?_) fun _ _ z => z))
  obtain ⟨y, t, rfl, q⟩ := z
  refine wpAny_bind (wpAny_isInstance (T := "str") (b := true) rfl isSubtype_str_str ?_)
  exact wpAny_pure ⟨_, rfl, q⟩
end
end EXV
end PySem
namespace L2
open PySem PySem.Spec PyProof.Rows
section
variable {X : Cx} {CX : CXT} {k : Nat} {C f : Addr} {fd : FuncData} {ps : List Str} {sp : Sp} {E : XK}
def rLenX (C : Addr) (sp : Sp) (E : XK) : List V → Hp → VK → Prop := fun xs H Q => ∃ a dx fs, xs = [.ref a] ∧ H a = some (.ins C dx fs) ∧ sp [.ref a] H (fun v H' => ∃ n : Nat, v = .int n ∧ n < 2 ^ 62 ∧ Q (.int n) H') E
theorem call_lenX (F : FnOk X.prog X.w X.K X.mg X.base CX k f fd ps sp) (hr : Room (k + 1) X.A) (hb : Binds X.K fd ps []) (hx : Passes CX X E) (hs : PySem.W.findIn X.K (.ref C) "__len__" = some (some (.ref f))) (hf : PySem.W.isFn X.K (.ref f) = true) :
    CallR X (.builtin "len") (rLenX C sp E) := by
  intro pins s σ H xs us Q I r h
  obtain ⟨a, dx, fs, rfl, ha, hsp⟩ := h
  obtain ⟨u, rfl, ru⟩ := vals1 r
  cases ru
  obtain ⟨mA, J, _⟩ := ins_get I.hok ha
  obtain ⟨od, J, _⟩ := J.look
  refine PySem.EXV.own_len I.kIn J hs (beq_iff_eq.mp hf) ?_
  refine wpAny_mono (run_fnAt (vs := [.ref a]) rfl F hr.in1 hb hx I (.cons rfl .nil) hsp) (fun w s' z => ?_) fun _ _ z => z
  obtain ⟨v', H', I', rv, n, rfl, lt, q⟩ := z
  obtain ⟨t, rfl⟩ := rv
  exact ⟨n, t, rfl, lt, fun t' => ⟨.int n, H', I'.tok _, ⟨t', rfl⟩, q⟩⟩
/-- the callee, where no repr is under way, at another depth of the same frames -/
theorem run_fnGAt {A' : Around} {pins : List (Addr × Obj)} {σ : St} {H : Hp} {s : Shared} {Q : VK} {us : List Value} {vs : List V} (hfr : A'.frames = X.A.frames) (hA : A'.guards = some []) (F : FnG X.prog X.w X.K X.mg X.base CX k f fd ps sp) (hr : Room k A') (hb : Binds X.K fd ps []) (hx : Passes CX X E)
    (I : Inv X pins σ H s) (r : Vals vs us) (h : sp vs H Q E) : wpAny (model X.prog X.w) A' (call (.ref f) us) (EP X pins σ Q) X.xe s := by
  have e := I.env0
  have e0 : Env0 X.prog X.w X.K X.mg X.base A' X.stack s H := ⟨by rw [hfr]; exact e.frames, e.mod, e.bs, e.bsz, e.funs, e.frf, e.hok, e.bare⟩
  have b := hb s us I.kIn (by rw [List.append_nil, ← r.length]; exact F.len _ _ _ _ h)
  rw [List.append_nil] at b
  refine wpAny_call (codeAny_mono (F.run A' X.stack s H ⟨us, []⟩ us vs Q E hr hA e0 b r h) fun r s' hq => ?_)
  match r, hq with
  | .error e, hq => exact hx pins σ H s e s' I hq
  | .ok (.ret u), hq => exact I.after hq
  | .ok .next, hq => exact hq.elim
  | .ok .brk, hq => exact hq.elim
  | .ok .cont, hq => exact hq.elim
theorem call_reprX (hA : X.A.guards = some []) (F : FnG X.prog X.w X.K X.mg X.base CX k f fd ps sp) (hr : Room (k + 1) X.A) (hb : Binds X.K fd ps []) (hx : Passes CX X E) (hs : PySem.W.findIn X.K (.ref C) "__repr__" = some (some (.ref f))) (hf : PySem.W.isFn X.K (.ref f) = true) :
    CallR X (.builtin "repr") (rStrX C sp E) := by
  intro pins s σ H xs us Q I r h
  obtain ⟨a, dx, fs, rfl, ha, hsp⟩ := h
  obtain ⟨u, rfl, ru⟩ := vals1 r
  cases ru
  obtain ⟨mA, J, _⟩ := ins_get I.hok ha
  obtain ⟨od, J, _⟩ := J.look
  refine PySem.EXV.own_repr (by have := hr.un; omega) I.kIn J hs hf ?_
  refine wpAny_mono (run_fnGAt (vs := [.ref a]) rfl hA F hr.in1 hb hx I (.cons rfl .nil) hsp) (fun w s' z => ?_) fun _ _ z => z
  obtain ⟨v', H', I', rv, b, rfl, q⟩ := z
  obtain ⟨t, rfl⟩ := rv
  exact ⟨b, t, rfl, .str b, H', I', ⟨t, rfl⟩, q⟩
/-- {x!r} of nested data -/
def tFmtD (K : PySem.W.Frag) (te : TE) : TE := fun σ H Q => te σ H fun x H1 => ∃ (a : Addr) (d : PyData), x = .ref a ∧ Dx K H1 x d ∧ Fine d ∧ Q (.str d.shown) H1
theorem pe_fmtD {e : Expr} {te : TE} {pos : Pos} (hA : X.A.guards = some []) (hu : X.A.units + 64 < cLine) (sm : HasSm X.K) (he : PE X e te) : PE X (.FormattedValue e 114 none pos) (tFmtD X.K te) := by
  refine ⟨fun pins s σ H Q I h => ?_⟩
  refine wpAny_FormattedValue_repr (thn (he.run pins s σ H _ I h) fun v s1 hv => ?_)
  obtain ⟨x, H1, I1, r1, a, d, rfl, hd, ⟨h1, h2, h3⟩, q⟩ := hv
  obtain ⟨as, hr, hn⟩ := Dx.reads I1 sm d _ v hd r1
  cases r1
  refine pyReprObj_of_reads hr h1 (fun _ => hn) hA (by omega) (fun _ _ e => e) (fun h' u tk hk => ?_) h3
  have I2 : Inv X pins σ H1 { s1 with heap := h', toks := tk } := I1.kept (t' := tk) hk
  exact wpAny_formatField_str ⟨.str d.shown, H1, I2, ⟨_, rfl⟩, q⟩ ⟨.str d.shown, H1, I2.tok _, ⟨_, rfl⟩, q⟩ h3
end
end L2

/-! zip(a tuple, a list). -/
namespace L2
open PySem PySem.Spec PyProof.Rows
def Itzm (K : PySem.W.Frag) (a b : Addr) (xs ys : List V) : It :=
  ⟨fun i H => (SqT K H a xs ∧ SqL K H b ys) ∧ i < min xs.length ys.length, fun i H v H' => ∃ T x y, v = .ref T ∧ H T = none ∧ H' = upd H T (.tup [x, y]) ∧ xs[i]? = some x ∧ ys[i]? = some y,
    fun i H => (SqT K H a xs ∧ SqL K H b ys) ∧ min xs.length ys.length ≤ i⟩
theorem turn_zipM {P : Program} {w : World} {K : PySem.W.Frag} {elts : List Expr} {kk : Nat} {tpos : Pos} {a b z TI TO i1 i2 : Addr} {xs ys : List V} (D : ZipSep2 z TI TO i1 i2 [i1, a] [i2, b]) :
    Turn P w K (.Tuple elts kk tpos) (Itzm K a b xs ys) [z, TI, TO, i1, i2] z (fun i h => IsZip h z TI TO .none ∧ IsTupOf2 h TI (.ref i1) (.ref i2) ∧ (∃ x y, IsTupOf2 h TO x y) ∧ h.IsTupleIter i1 a i ∧ h.IsListIter i2 b i ∧ i ≤ xs.length ∧ i ≤ ys.length) where
  mem := by simp
  obj := fun i h st c hc => by
    obtain ⟨hz, hTI, ⟨x, y, hTO⟩, ⟨o1, e1, _, d1⟩, ⟨o2, e2, _, d2⟩, _⟩ := st
    rcases (by simpa using hc : c = z ∨ c = TI ∨ c = TO ∨ c = i1 ∨ c = i2) with q | q | q | q | q
    · rw [q]; exact ⟨_, hz, fun v q => nomatch q⟩
    · rw [q]; exact ⟨_, hTI, fun v q => nomatch q⟩
    · rw [q]; exact ⟨_, hTO, fun v q => nomatch q⟩
    · rw [q]; exact ⟨o1, e1, fun v q => by rw [d1] at q; cases q⟩
    · rw [q]; exact ⟨o2, e2, fun v q => by rw [d2] at q; cases q⟩
  keep := fun i h h' st k => by
    obtain ⟨hz, hTI, ⟨x, y, hTO⟩, h1, h2, l⟩ := st
    exact ⟨k z (by simp) _ hz, k TI (by simp) _ hTI, ⟨x, y, k TO (by simp) _ hTO⟩, h1.at fun o q => k i1 (by simp) o q, h2.at fun o q => k i2 (by simp) o q, l⟩
  item := by
    intro X hP hw hK hc i pins s σ H E I hf st hg
    subst hP hw hK
    obtain ⟨hz, hTI, ⟨x0, y0, hTO⟩, h1, h2, l1, l2⟩ := st
    obtain ⟨⟨hqx, hqy⟩, hi⟩ := hg
    obtain ⟨its, rv, tp, _⟩ := I.tuple hqx
    obtain ⟨its2, rv2, p2, _⟩ := I.list hqy
    have hx : xs[i]? = some (xs[i]'(by omega)) := List.getElem?_eq_getElem _
    have hy : ys[i]? = some (ys[i]'(by omega)) := List.getElem?_eq_getElem _
    obtain ⟨u, hu, ru⟩ := rv.get hx
    obtain ⟨u2, hu2, ru2⟩ := rv2.get hy
    have hzl : z < s.heap.objs.size := Heap.lt_size hz
    have n1 := rv.length
    have n2 := rv2.length
    have hd1 : X.A.in1.handled = none := I.ok.hd hc
    have nea : a ≠ i1 := fun q => by
      obtain ⟨o, ho, hc1, _⟩ := id tp
      obtain ⟨o', ho', hc2, _⟩ := id h1
      rw [q, ho'] at ho; cases ho; rw [hc2] at hc1; exact absurd (Value.type.inj hc1) (by decide)
    have neb : b ≠ i2 := fun q => by
      obtain ⟨o, ho, hc1, _⟩ := id p2.isList
      obtain ⟨o', ho', hc2, _⟩ := id h2
      rw [q, ho'] at ho; cases ho; rw [hc2] at hc1; exact absurd (Value.type.inj hc1) (by decide)
    refine wpAny_pyNext_zipD2_item D (Draws.tuple hd1 i1 a nea its.toArray) (Draws.list hd1 i2 b neb its2.toArray) hz hTI hTO ⟨h1, tp⟩ ⟨h2, p2.isList⟩ (by simp; omega) (by simp; omega) fun v1 v2 h' tk e1 e2 z' TO' s1 s2 hT hsz hk => ?_
    have w1 : v1 = u := by rw [show its.toArray[i]? = some u by simpa using hu] at e1; exact (Option.some.inj e1).symm
    have w2 : v2 = u2 := by rw [show its2.toArray[i]? = some u2 by simpa using hu2] at e2; exact (Option.some.inj e2).symm
    subst w1 w2
    refine ⟨_, rfl, wpAny_letOwnedTupleGo_zip (s := { s with heap := h', toks := tk }) z' fun h'' z'' sb => ?_⟩
    have hT2 : h''.get? s.heap.objs.size = some { cls := .type "tuple", data := .seq #[v1, v2] } := (sb.2 _ (Nat.ne_of_gt hzl)).trans hT
    have new : ObjOk X.prog X.w (upd H s.heap.objs.size (.tup [xs[i]'(by omega), ys[i]'(by omega)])) h'' s.heap.objs.size (.tup [xs[i]'(by omega), ys[i]'(by omega)]) :=
      ⟨by show 2 ≤ sizeLine; decide, [v1, v2], .cons ru (.cons ru2 .nil), ⟨_, hT2, rfl, _, rfl⟩⟩
    have kk5 : ∀ c o, c ∉ [z, TI, TO, i1, i2] → s.heap.get? c = some o → h''.get? c = some o := fun c o hb q => (sb.2 c (fun q' => hb (by simp [q']))).trans (hk c o (fun q' => hb (by simp [q'])) (fun q' => hb (by simp [q'])) (fun q' => hb (by simp [q'])) (fun q' => hb (by simp [q'])) q)
    have I1 : Inv X pins σ (upd H s.heap.objs.size (.tup [xs[i]'(by omega), ys[i]'(by omega)])) { s with heap := h'', toks := tk } := I.turnedNew (t' := tk) (ch := [z, TI, TO, i1, i2]) kk5 hf (Nat.le_refl _) new
    have fz : ∀ c ∈ [z, TI, TO, i1, i2], upd H s.heap.objs.size (.tup [xs[i]'(by omega), ys[i]'(by omega)]) c = none := fun c hcm => by
      have hlt : c < s.heap.objs.size := by
        rcases (by simpa using hcm : c = z ∨ c = TI ∨ c = TO ∨ c = i1 ∨ c = i2) with q | q | q | q | q
        · rw [q]; exact hzl
        · rw [q]; exact Heap.lt_size hTI
        · rw [q]; exact Heap.lt_size hTO
        · rw [q]; obtain ⟨_, e1, _⟩ := h1; exact Heap.lt_size e1
        · rw [q]; obtain ⟨_, e2, _⟩ := h2; exact Heap.lt_size e2
      rw [upd_ne (Nat.ne_of_lt hlt)]
      exact (hf c hcm).1
    have tI : h''.get? TI = some { cls := .type "tuple", data := .seq #[.ref i1, .ref i2] } := (sb.2 _ D.TIz).trans (hk _ _ D.TIz D.TITO D.TIi1 D.TIi2 hTI)
    have nn : i + 1 ≤ xs.length ∧ i + 1 ≤ ys.length := by omega
    exact ⟨.ref s.heap.objs.size, _, I1, rfl, ⟨_, _, _, rfl, I.hok.fresh (Nat.le_refl _), rfl, hx, hy⟩, ⟨z'', tI, ⟨_, _, (sb.2 _ D.TOz).trans TO'⟩, s1.1.at fun o q => (sb.2 _ D.zi1.symm).trans q, s2.1.at fun o q => (sb.2 _ D.zi2.symm).trans q, nn⟩, fz⟩
  done := by
    intro X hP hw hK hc i pins s σ H E I hf st hg
    subst hP hw hK
    obtain ⟨hz, hTI, ⟨x0, y0, hTO⟩, h1, h2, l1, l2⟩ := st
    obtain ⟨⟨hqx, hqy⟩, hi⟩ := hg
    obtain ⟨its, rv, tp, _⟩ := I.tuple hqx
    obtain ⟨its2, rv2, p2, _⟩ := I.list hqy
    have n1 := rv.length
    have n2 := rv2.length
    have hd1 : X.A.in1.handled = none := I.ok.hd hc
    have nea : a ≠ i1 := fun q => by
      obtain ⟨o, ho, hc1, _⟩ := id tp
      obtain ⟨o', ho', hc2, _⟩ := id h1
      rw [q, ho'] at ho; cases ho; rw [hc2] at hc1; exact absurd (Value.type.inj hc1) (by decide)
    have neb : b ≠ i2 := fun q => by
      obtain ⟨o, ho, hc1, _⟩ := id p2.isList
      obtain ⟨o', ho', hc2, _⟩ := id h2
      rw [q, ho'] at ho; cases ho; rw [hc2] at hc1; exact absurd (Value.type.inj hc1) (by decide)
    exact wpAny_pyNext_zipD2_end D (Draws.tuple hd1 i1 a nea its.toArray) (Draws.list hd1 i2 b neb its2.toArray) hz hTI hTO ⟨h1, tp⟩ ⟨h2, p2.isList⟩ (by simp; omega) (by simp; omega) (by simp; omega) fun h' tk hk => ⟨rfl, I.turnedL (t' := tk) (ch := [z, TI, TO, i1, i2]) (fun c o hb q =>
      hk c o (fun q' => hb (by simp [q'])) (fun q' => hb (by simp [q'])) (fun q' => hb (by simp [q'])) (fun q' => hb (by simp [q'])) q) hf⟩
  self := fun A i s Q E st h => wpAny_pyIter_zip st.1 h
def iZipM (K : PySem.W.Frag) (ta : TA) : TI := fun σ H R => ta σ H fun vs H1 => ∃ a b xs ys, vs = [.ref a, .ref b] ∧ SqT K H1 a xs ∧ SqL K H1 b ys ∧ R (Itzm K a b xs ys) H1
theorem pi_zipM {X : Cx} {e e2 : Expr} {ta : TA} {p pos tpos : Pos} {elts : List Expr} {kk : Nat} (hg : Gl X "zip") (hm : X.mg "zip" = none) (ha : PA X [e, e2] ta)
    (hs : starEach [e, e2] X.env = (false, eval e X.env) :: starEach [e2] X.env := by rfl) (hpl : (backTo pos (starEach [e2] X.env)).any (·.1) = false := by rfl) :
    PI X (.Tuple elts kk tpos) (.Call (.Name "zip" p) [e, e2] [] pos) (iZipM X.K ta) := by
  refine ⟨fun pins s σ H R I h => ?_⟩
  refine Call_ (ld_blt I hg hm PyProof.Rows.boot_zip (PyProof.Rows.callWith_type1 (thn (ha.run pos pins s σ H _ I h) fun us s1 ⟨vs, H1, I1, r1, a, b, xs, ys, ex, hqx, hqy, q⟩ => ?_) hs hpl))
  subst ex
  cases r1 with
  | cons r rr =>
    cases rr with
    | cons r' rr =>
      cases rr
      cases r
      cases r'
      obtain ⟨its, rv, tp, _⟩ := I1.tuple hqx
      obtain ⟨its2, rv2, p2, _⟩ := I1.list hqy
      have la : a < s1.heap.objs.size := tp.lt
      have lb : b < s1.heap.objs.size := p2.lt
      refine zip_begins2 (begins_tuple a its.toArray) (begins_list b its2.toArray) tp p2.isList fun h' hz hTI hTO h1 h2 hsz hk => wpAny_pyIter_zip hz ?_
      have I2 : Inv X pins σ H1 { s1 with heap := h' } := I1.kept (t' := s1.toks) hk
      refine ⟨s1.heap.objs.size + 4, [s1.heap.objs.size + 4, s1.heap.objs.size + 2, s1.heap.objs.size + 3, s1.heap.objs.size, s1.heap.objs.size + 1], _, _, H1, rfl, I2, turn_zipM ?_, ⟨hz, hTI, ⟨_, _, hTO⟩, ⟨_, h1, rfl, rfl⟩, ⟨_, h2, rfl, rfl⟩, Nat.zero_le _, Nat.zero_le _⟩, fun c hcm => ?_, q⟩
      · have A : ∀ k : Nat, s1.heap.objs.size + k ≠ a := fun k => Nat.ne_of_gt (Nat.lt_of_lt_of_le la (Nat.le_add_right _ _))
        have B : ∀ k : Nat, s1.heap.objs.size + k ≠ b := fun k => Nat.ne_of_gt (Nat.lt_of_lt_of_le lb (Nat.le_add_right _ _))
        have C : ∀ j k : Nat, j ≠ k → s1.heap.objs.size + j ≠ s1.heap.objs.size + k := fun j k hjk z => hjk (Nat.add_left_cancel z)
        have N2 : ∀ {x y c : Nat}, c ≠ x → c ≠ y → c ∉ [x, y] := fun h1 h2 hm => by
          rcases List.mem_cons.mp hm with q | q
          · exact h1 q
          · exact h2 (List.mem_singleton.mp q)
        exact ⟨C 2 4 (by decide), C 3 4 (by decide), C 2 3 (by decide), C 2 0 (by decide), List.mem_cons_self, N2 (C 4 0 (by decide)) (A 4), N2 (C 3 0 (by decide)) (A 3), C 2 1 (by decide), List.mem_cons_self, N2 (C 4 1 (by decide)) (B 4), N2 (C 3 1 (by decide)) (B 3), N2 (C 0 1 (by decide)) (B 0), N2 (C 1 0 (by decide)) (A 1)⟩
      · have hle : s1.heap.objs.size ≤ c := by
          rcases (by simpa using hcm : c = s1.heap.objs.size + 4 ∨ c = s1.heap.objs.size + 2 ∨ c = s1.heap.objs.size + 3 ∨ c = s1.heap.objs.size ∨ c = s1.heap.objs.size + 1) with z | z | z | z | z <;> rw [z] <;> first | exact Nat.le_refl _ | exact Nat.le_add_right _ _
        exact I1.fpOk hle (I1.hok.fresh hle)
end L2

/-! walks over a list or a tuple, whichever it is; dict comprehensions over any walk -/
namespace L2
open PySem PySem.Spec PyProof.Rows
/-- what stands at a goes on standing -/
def Kp (K : PySem.W.Frag) (a : Addr) (H H' : Hp) : Prop := (∀ xs, SqL K H a xs → SqL K H' a xs) ∧ ∀ xs, SqT K H a xs → SqT K H' a xs
theorem Kp.at {K : PySem.W.Frag} {a : Addr} {H H' : Hp} (h : ∀ o, H a = some o → H' a = some o) : Kp K a H H' := by
  refine ⟨fun xs q => ?_, fun xs q => ?_⟩
  · rcases q with (q | ⟨o, q⟩) | q
    · exact .inl (.inl (h _ q))
    · exact .inl (.inr ⟨o, h _ q⟩)
    · exact .inr q
  · rcases q with (q | ⟨o, q⟩) | q
    · exact .inl (.inl (h _ q))
    · exact .inl (.inr ⟨o, h _ q⟩)
    · exact .inr q
theorem Kp.trans {K : PySem.W.Frag} {a : Addr} {H H1 H2 : Hp} (x : Kp K a H H1) (y : Kp K a H1 H2) : Kp K a H H2 := ⟨fun xs q => y.1 xs (x.1 xs q), fun xs q => y.2 xs (x.2 xs q)⟩
theorem Kp.sq {K : PySem.W.Frag} {a : Addr} {H H' : Hp} {xs : List V} (k : Kp K a H H') (h : SqL K H a xs ∨ SqT K H a xs) : SqL K H' a xs ∨ SqT K H' a xs := h.imp (k.1 xs) (k.2 xs)
theorem or_walk {K : PySem.W.Frag} {tl : TE} {σ : St} {H : Hp} {R : It → Hp → Prop} {a : Addr} {xs : List V} (ht : ∀ R' : VK, R' (.ref a) H → tl σ H R') (hS : SqL K H a xs ∨ SqT K H a xs)
    (h : ∀ (J : It) (G : Hp → Prop), Walk J xs.length G (YAt xs) → (∀ H', Kp K a H H' → G H') → R J H) : iList K tl σ H R ∨ iTup K tl σ H R := by
  rcases hS with hS | hS
  · exact .inl (ht _ ⟨a, rfl, ⟨xs, hS⟩, h _ _ walk_list fun H' k => k.1 xs hS⟩)
  · exact .inr (ht _ ⟨a, rfl, ⟨xs, hS⟩, h _ _ walk_tup fun H' k => k.2 xs hS⟩)
/-- a dict comprehension over a walk -/
theorem dc_it {J : It} {n : Nat} {G : Hp → Prop} {Y : Nat → Hp → V → Hp → Prop} (w : Walk J n G Y) {g : TG} {tt : TT} {tk tv : TE} {vs : List Nat} {σ : St} {H1 : Hp} {D : Addr} {Qd : Hp → Prop} (Pv : Nat → Hp → Prop) (h0 : Pv 0 (upd H1 D (.dK []))) (hG : ∀ i H, i ≤ n → Pv i H → G H)
    (hs : ∀ i x H H', i < n → Pv i H → Y i H x H' → g x (wipe σ vs) H' fun σ2 H2 => wipe σ2 vs = wipe σ vs ∧ tt σ2 H2 fun b H3 =>
      if b = true then tk σ2 H3 fun y H4 => tv σ2 H4 fun z H5 => ∃ kvs k, y = kV k ∧ H5 D = some (.dK kvs) ∧ kvs.length < sizeLine ∧ Pv (i + 1) (upd H5 D (.dK (putK kvs k z))) else Pv (i + 1) H3) (hd : ∀ H, Pv n H → Qd H) :
    ∃ W : Nat → Nat → Hp → Prop, (∃ m, W 0 m (upd H1 D (.dK []))) ∧ ∀ i m H, W i m H →
      (J.stop i H ∧ Qd H) ∨ (J.go i H ∧ ∃ Nx : Hp → Prop, (∀ H', Nx H' → ∃ m', m' < m ∧ W (i + 1) m' H') ∧ ∀ x H', J.yld i H x H' → g x (wipe σ vs) H' fun σ2 H2 => wipe σ2 vs = wipe σ vs ∧ tt σ2 H2 fun b H3 =>
        if b = true then tk σ2 H3 fun y H4 => tv σ2 H4 fun z H5 => ∃ kvs k, y = kV k ∧ H5 D = some (.dK kvs) ∧ kvs.length < sizeLine ∧ Nx (upd H5 D (.dK (putK kvs k z))) else Nx H3) := by
  refine ⟨fun i m H => m = n - i ∧ i ≤ n ∧ Pv i H, ⟨n, by simp, Nat.zero_le _, h0⟩, ?_⟩
  rintro i m H ⟨em, hi, p⟩
  subst em
  by_cases lt : i < n
  · exact .inr ⟨w.goes i H lt (hG i H hi p), Pv (i + 1), fun H' p' => ⟨n - (i + 1), by omega, rfl, lt, p'⟩, fun x H' y => hs i x H H' lt p (w.yields i H x H' lt (hG i H hi p) y)⟩
  · have e : i = n := by omega
    subst e
    exact .inl ⟨w.stops H (hG i H hi p), hd H p⟩
/-- the numbered keys of a locked dict -/
theorem walk_enumD {d : Addr} {o : Obj} {kvs : List (Key × V)} : Walk (Ited d o kvs) kvs.length (fun H => H d = some (.frz o (.dK kvs))) (YPair (fun i => some (.int (i : Nat))) (fun i => kvs[i]?.map fun kv => kV kv.1)) :=
  ⟨fun _ _ hi q => ⟨q, hi⟩, fun _ q => ⟨q, Nat.le_refl _⟩, fun i _ x _ hi q y => by
    obtain ⟨T, k, v, hk, ex, hT, hH⟩ := y
    exact ⟨T, _, _, ex, hT, hH, rfl, by show Option.map _ kvs[i]? = _; rw [hk]; rfl⟩⟩
end L2

/-! o.m(..), m a method that lets own errors out: they go on to the caller's end, at its slots. -/
namespace L2
open PySem PySem.Spec PyProof.Rows
def tMethX (C : Addr) (m : Str) (sp : Sp) (E : St → XK) (ta : TE) (t : TA) : TE := fun σ H Q => ta σ H fun x H1 => ∃ a dx fs, x = .ref a ∧ H1 a = some (.ins C dx fs) ∧ fs.lookup m = none ∧ t σ H1 fun vs H2 => sp (x :: vs) H2 Q (E σ)
section
variable {X : Cx} {CX : CXT} {k : Nat} {f C : Addr} {fd : FuncData} {ps : List Str} {sp : Sp} {E : St → XK} {m : Str} {pos apos : Pos} {e o : Expr} {es : List Expr} {ta : TE} {t : TA}
theorem pe_methX {pl : Sem Bool} (ho : PE X o ta) (cl : Cls X.K C) (hm : Meth X.K C m f) (F : FnOk X.prog X.w X.K X.mg X.base CX k f fd ps sp) (hr : Room k X.A) (hb : Binds X.K fd ps []) (hx : ∀ σ, PassesAt CX X σ (E σ)) (ha : PA X (e :: es) t)
    (s1 : starEach (e :: es) X.env = (false, eval e X.env) :: starEach es X.env := by rfl) (s2 : (backTo pos (starEach es X.env)).any (·.1) = false := by rfl)
    (line : eval (.Call (.Attribute o m apos) (e :: es) [] pos) X.env = (eval o X.env >>= fun ov => standAt apos.atName >>= fun _ => holding [ov] (getMethod ov m pl) >>= fun fm =>
      callWith pos fm.1 fm.2 (backTo pos (starEach (e :: es) X.env)) (backToKw pos (keywordEach [] X.env))) := by rfl) :
    PE X (.Call (.Attribute o m apos) (e :: es) [] pos) (tMethX C m sp E ta t) := by
  constructor
  intro pins s σ H Q I h
  refine PySem.W.methodCall_KW (pl := pl) (thn (ho.run pins s σ H _ I h) fun u st hh => ?_) line
  obtain ⟨x, H1, I1, rx, a, dx, fs, rfl, ha1, nl, q⟩ := hh
  obtain rfl : u = Value.ref a := rx
  refine getmeth_ok I1 ha1 cl hm nl (PySem.W.callWith_K (first := [.ref a]) (h₀ := X.base) I.ok.mod.kin hm.kp (thn (ha.run pos pins st σ H1 _ I1 q) fun us st2 h2 => ?_) s1 s2)
  obtain ⟨vs, H2, I2, r, q2⟩ := h2
  exact ⟨I2.kIn, run_fnS (us := .ref a :: us) (vs := .ref a :: vs) F hr hb (hx σ) I2 (.cons rfl r) q2⟩
end
end L2

/-! x in a list of texts, x of any kind. -/
namespace PySem.SeqAt
open AutoSeq1 (wpAny_loadPart')
open MeetsSeq
theorem sub_dict_str : isSubtype (.type "dict") (.type "str") = pure false := by
  rw [isSubtype_type]
  kernel_rfl
abbrev dO (es : Array DictEntry) (ep : Nat) (dd : Option Addr) (sl : Array (Option Value)) : Obj := { cls := .type "dict", dict := dd, data := .dict es ep, slots := sl }
theorem sub_str_dict : isSubtype (.type "str") (.type "dict") = pure false := by
  rw [isSubtype_type]
  kernel_rfl
theorem str_no_dict (b : Str) (u : Tok) (l : Addr) (es : Array DictEntry) (ep : Nat) (dd : Option Addr) (sl : Array (Option Value)) :
    Meets (Builtin.«str.__eq__» ⟨[.str b u, .ref l], []⟩) (fun _ R s => s.heap.get? l = some (dO es ep dd sl) ∧ R (.ok (.ret .notImplemented)) s) :=
  .of_wp fun prog w A R s h => by
    obtain ⟨hp, g, d, tk, os⟩ := s
    obtain ⟨ho, h⟩ := h
    have f2 := sub_dict_str
    wp_walk using wpAny_loadPart' ho, wpAny_load ho
    exact ⟨_, rfl, h⟩
theorem dict_no_str (b : Str) (u : Tok) (l : Addr) (es : Array DictEntry) (ep : Nat) (dd : Option Addr) (sl : Array (Option Value)) :
    Meets (Builtin.«dict.__eq__» ⟨[.ref l, .str b u], []⟩) (fun _ R s => s.heap.get? l = some (dO es ep dd sl) ∧ R (.ok (.ret .notImplemented)) s) :=
  .of_wp fun prog w A R s h => by
    obtain ⟨hp, g, d, tk, os⟩ := s
    obtain ⟨ho, h⟩ := h
    have f1 := sub_str_dict
    wp_walk using wpAny_loadPart' ho
    exact ⟨_, rfl, h⟩
section
variable {A : Around} {s : Shared}
theorem eq_str_dict {l : Addr} {es : Array DictEntry} {ep : Nat} {dd : Option Addr} {sl : Array (Option Value)} (b : Str) (u : Tok) (ho : s.heap.get? l = some (dO es ep dd sl)) (hu : A.units < cLine) : EqAt A s (.str b u) (.ref l) false := fun prog w E Q h => by
  unfold eqBool
  refine wpAny_holding (wpAny_ite_split (fun hab => absurd (eq_of_beq hab) nofun) (fun _ => wpAny_bind ?_))
  refine rc_eq_decline_or (k := false) (typeIs_str s b u) ⟨_, ho, rfl⟩ (by decide) sub_dict_str F.slot_str_eq F.slot_dict_eq_refl (fun _ hq => ?_) (fun _ hq => ?_) (fun _ hq => wpAny_of_eq (rfl : isSame (.str b u) (.ref l) = pure false) hq) (.inr hu) (wpAny_truthy_bool h)
  · exact call_meets F.slot_str_eq (typeIs_str s b u) F.entry_str_eq (F.args_str_eq_2 _ _) (str_no_dict b u l es ep dd sl) ⟨ho, hq⟩
  · exact call_meets F.slot_dict_eq_refl ⟨_, ho, rfl⟩ F.entry_dict_eq (F.args_dict_eq_2 _ _) (dict_no_str b u l es ep dd sl) ⟨ho, hq⟩
end
end PySem.SeqAt
namespace L2
open PySem PySem.Spec PyProof.Rows
/-- a text, a flat value, a list, a tuple, a dict -/
def AnyK (K : PySem.W.Frag) (H : Hp) : V → Prop
  | .ref a => (∃ xs, SqL K H a xs) ∨ (∃ xs, SqT K H a xs) ∨ ∃ kvs, H a = some (.dK kvs)
  | v => flatV v = true
theorem inV_ref (a : Addr) (l : List Str) : inV (.ref a) (l.map V.str) = false := by
  unfold inV
  rw [List.any_map, List.any_eq_false]
  intro x _
  show ¬ (false = true)
  exact Bool.false_ne_true
section
variable {X : Cx} {pins : List (Addr × Obj)} {σ : St} {H : Hp} {s : Shared}
theorem ref_eqAt {A : Around} (hu : A.units < cLine) {a : Addr} (I : Inv X pins σ H s) (k : AnyK X.K H (.ref a)) : ∀ {l : List Str} {us : List Value}, Vals (l.map V.str) us → ∀ u ∈ us, SeqAt.EqAt A s u (.ref a) (eqU (.ref a) u) := by
  intro l us r u hm
  obtain ⟨x, t, rfl⟩ : ∃ x t, u = Value.str x t := by
    clear k
    induction l generalizing us with
    | nil => cases r; cases hm
    | cons y l ih =>
      cases r with
      | cons r1 r2 =>
        rcases List.mem_cons.mp hm with rfl | hm
        · obtain ⟨t, rfl⟩ := r1; exact ⟨y, t, rfl⟩
        · exact ih r2 hm
  rcases k with ⟨xs, h⟩ | ⟨xs, h⟩ | ⟨kvs, h⟩
  · obtain ⟨its, _, pl, _⟩ := I.list h
    exact SeqAt.EqAt.str_list x t pl.isList hu
  · obtain ⟨its, _, pl, _⟩ := I.tuple h
    exact SeqAt.EqAt.str_tuple x t pl hu
  · obtain ⟨_, _, vs, _, o, es, ep, h1, h2, h3⟩ := (show ObjOk X.prog X.w H s.heap a (.dK kvs) from I.hok a _ h)
    obtain ⟨oc, od, dt, osl⟩ := o
    obtain ⟨c1, c2, c3⟩ := h2
    simp only at c1 c2 c3
    subst c1 c2 c3
    exact SeqAt.eq_str_dict (es := es) (ep := ep) (dd := none) (sl := #[]) x t (by rw [h1, show dt = Data.dict es ep from h3.1]) hu
end
/-- x in xs, xs a list or a tuple of texts -/
def rInA (K : PySem.W.Frag) (neg : Bool) : R2 := fun x y H Q => ∃ (p : Addr) (l : List Str), y = .ref p ∧ (SqL K H p (l.map V.str) ∨ SqT K H p (l.map V.str)) ∧ AnyK K H x ∧ Q (.bl (if neg then !inV x (l.map V.str) else inV x (l.map V.str))) H
theorem flat_strs (l : List Str) : (l.map V.str).all flatV = true := by
  rw [List.all_map, List.all_eq_true]
  intro x _; rfl
section
variable {X : Cx}
theorem any_ref {a : Addr} : ∀ {l : List Str} {us : List Value}, Vals (l.map V.str) us → us.any (eqU (.ref a)) = inV (.ref a) (l.map V.str) := fun {l us} r => any_eqU r (flat_strs l)
theorem op_inA (hu : X.A.units + 1 < cLine) : OpR X (compareOp .In) (rInA X.K false) := by
  intro pins s σ H x y v u Q I rx ry h
  obtain ⟨p, l, rfl, hq, k, q⟩ := h
  by_cases f : flatV x = true
  · exact op_in_seq pins s σ H x _ v u Q I rx ry ⟨p, _, rfl, hq, f, flat_strs l, q⟩
  · obtain ⟨a, rfl⟩ : ∃ a, x = .ref a := by
      cases x with
      | ref a => exact ⟨a, rfl⟩
      | _ => exact absurd k f
    cases rx
    cases ry
    rcases hq with hq | hq
    · obtain ⟨its, r, pl, hz⟩ := I.list hq
      refine SeqAt.in_listAt (eqU (.ref a)) pl.isList (fun w hw => ref_eqAt (A := X.A.in1) hu I k r w (by simpa using hw)) ⟨.bl _, H, I, rfl, ?_⟩
      rw [show its.toArray.any (eqU (.ref a)) = its.any (eqU (.ref a)) by simp, any_ref r]
      exact q
    · obtain ⟨its, r, pl, hz⟩ := I.tuple hq
      refine SeqAt.in_tupleAt (eqU (.ref a)) pl (fun w hw => ref_eqAt (A := X.A.in1) hu I k r w (by simpa using hw)) ⟨.bl _, H, I, rfl, ?_⟩
      rw [show its.toArray.any (eqU (.ref a)) = its.any (eqU (.ref a)) by simp, any_ref r]
      exact q
theorem op_notInA (hu : X.A.units + 1 < cLine) : OpR X (compareOp .NotIn) (rInA X.K true) := by
  intro pins s σ H x y v u Q I rx ry h
  obtain ⟨p, l, rfl, hq, k, q⟩ := h
  by_cases f : flatV x = true
  · exact op_notIn_seq pins s σ H x _ v u Q I rx ry ⟨p, _, rfl, hq, f, flat_strs l, q⟩
  · obtain ⟨a, rfl⟩ : ∃ a, x = .ref a := by
      cases x with
      | ref a => exact ⟨a, rfl⟩
      | _ => exact absurd k f
    cases rx
    cases ry
    rcases hq with hq | hq
    · obtain ⟨its, r, pl, hz⟩ := I.list hq
      refine SeqAt.notIn_listAt (eqU (.ref a)) pl.isList (fun w hw => ref_eqAt (A := X.A.in1) hu I k r w (by simpa using hw)) ⟨.bl _, H, I, rfl, ?_⟩
      rw [show its.toArray.any (eqU (.ref a)) = its.any (eqU (.ref a)) by simp, any_ref r]
      exact q
    · obtain ⟨its, r, pl, hz⟩ := I.tuple hq
      refine SeqAt.notIn_tupleAt (eqU (.ref a)) pl (fun w hw => ref_eqAt (A := X.A.in1) hu I k r w (by simpa using hw)) ⟨.bl _, H, I, rfl, ?_⟩
      rw [show its.toArray.any (eqU (.ref a)) = its.any (eqU (.ref a)) by simp, any_ref r]
      exact q
end
end L2

/-! list(d.values()) -/
namespace L2
open PySem PySem.Spec PyProof.Rows
def tListVals (te : TE) : TE := fun σ H Q => te σ H fun x H1 => ∃ d kvs, x = .ref d ∧ H1 d = some (.dK kvs) ∧ ∀ q, H1 q = none → Q (.ref q) (upd H1 q (.lst (kvs.map (·.2))))
theorem pe_listVals {X : Cx} {e : Expr} {te : TE} {p apos cpos pos : Pos} (hc : X.calm = true) (he : PE X e te) (hg : Gl X "list") (hm : X.mg "list" = none) (hv : bootBuiltins "list" = some (.type "list"))
    (base : attributeBase e "values" X.env (eval e X.env) = eval e X.env := by rfl) (line : (apos.endLine == cpos.line) = true := by rfl)
    (st : starEach [.Call (.Attribute e "values" apos) [] [] cpos] X.env = (false, eval (.Call (.Attribute e "values" apos) [] [] cpos) X.env) :: starEach [] X.env := by rfl) :
    PE X (.Call (.Name "list" p) [.Call (.Attribute e "values" apos) [] [] cpos] [] pos) (tListVals te) := by
  constructor
  intro pins s σ H Q I h
  refine wpAny_Call_Name_kw (ld_blt I hg hm hv (PyProof.Rows.callWith_type1 ?_ st rfl))
  rw [st]
  show wpAny _ _ (spliced ((false, eval (.Call (.Attribute e "values" apos) [] [] cpos) X.env) :: backTo pos (starEach [] X.env))) _ _ s
  refine Calls.spliced_cons (wpAny_Call_method (T := "dict") (id := "dict.values") base rfl line F.plainAttrs_dict F.slot_dict_values F.type_dict_values (thn (he.run pins s σ H _ I h) fun u s1 hh => ?_))
  obtain ⟨x, H1, I1, rx, d, kvs, rfl, hd, q⟩ := hh
  obtain rfl : u = Value.ref d := rx
  obtain ⟨hz, sys, vs, kv, hdo⟩ := I1.hok d _ hd
  obtain ⟨ep, hat⟩ := hdo.dictAt
  have lk : kvs.length = vs.length := Paired.length kv
  have I2 : Inv X pins σ H1 { s1 with heap := s1.heap.push { cls := .type "dict_values", data := .fields #[.ref d] } } := I1.kept (t' := s1.toks) fun b ob z => Heap.get?_push_of_some _ z
  refine ⟨hdo.typeIs, hdo.mapOf.noDict, ?_⟩
  show wpAny _ _ (callWith cpos (.builtin "dict.values") [.ref d] [] []) _ X.xe s1
  refine method_meetsIn F.slot_dict_values F.entry_dict_values rfl (PySem.evalArgs_none ⟨rfl, hdo.typeIs, F.args_dict_values_1 _, _, meets_dict_values (mixKind X.prog X.w) d sys, ⟨vs, hdo⟩, Calls.spliced_nil ?_⟩)
  refine PySem.W.kdl_call (PySem.W.kdl_values (knd := mixKind X.prog X.w) (kvs := vs) (ep := ep)) (I1.ok.hd hc) ⟨⟨_, Heap.get?_push_size _ rfl, rfl, rfl⟩, hat.push _⟩ (by rw [← lk]; exact hz) fun h' tk acc c keep hS hacc => ?_
  refine ⟨.ref _, _, I2.laid (t' := tk) (o := .lst (kvs.map (·.2))) keep (Nat.le_refl _) ⟨by rw [List.length_map]; exact hz, acc.toList, c, ?_, by rw [Array.toArray_toList]; exact hS⟩, rfl, q _ (I2.hok.fresh (Nat.le_refl _))⟩
  refine vals_of_at (by rw [List.length_map, lk]; have := hacc.1; simp [this]) fun j v w h1 h2 => ?_
  obtain ⟨k, hk⟩ := hacc.2 j w (by rw [← Array.getElem?_toList]; exact h2)
  rw [List.getElem?_map] at h1
  cases e2 : kvs[j]? with
  | none => rw [e2] at h1; cases h1
  | some pr =>
    rw [e2] at h1
    obtain ⟨y, g1, g2, g3⟩ := LiI.paired_get kv e2
    rw [hk] at g1
    cases g1
    cases (Option.some.inj h1)
    exact g3
end L2

/-! d.update(e) of two dicts -/
namespace L2
open PySem PySem.Spec PyProof.Rows
section
variable {X : Cx}
def rUpdK : V → List V → Hp → VK → Prop := fun x xs H Q => ∃ (a b : Addr) (kvs more : List (Key × V)), x = .ref a ∧ xs = [.ref b] ∧ H a = some (.dK kvs) ∧ H b = some (.dK more) ∧ a ≠ b ∧ kvs.length + more.length ≤ sizeLine ∧ Q .non (upd H a (.dK (mergeK kvs more)))
theorem mt_update : MtR X "dict.update" rUpdK := by
  intro pins s σ H x xs v us Q I rx rv h
  obtain ⟨a, b, kvs, more, rfl, rfl, ha, hb, ne, ln, q⟩ := h
  cases rx
  obtain ⟨u, rfl, ru⟩ := rv.one
  cases ru
  obtain ⟨z, hd, vs, rel, dd⟩ := dk_of I.hok ha
  obtain ⟨z2, hd2, vs2, rel2, dd2⟩ := dk_of I.hok hb
  refine call_meetsIn PySem.F.slot_dict_update dd.typeIs PySem.F.entry_dict_update (PySem.F.args_dict_update_2 _ _) (meets_dict_update (mixKind X.prog X.w) a b ne hd2)
    ⟨vs, vs2, dd, dd2, by rw [← rel.length, ← rel2.length]; exact ln, fun h' dd' _ hs => ?_⟩
  have he : ∃ q, h'.get? a = some q := let ⟨q, _, _, hq, _⟩ := dd'; ⟨q, hq⟩
  exact ⟨.non, _, d_write I (by rw [ha]; exact True.intro) hs he (dk_new (Nat.le_trans (length_mergeK more kvs) ln) hd (rel2.merge rel) dd'), rfl, q⟩
end
end L2

/-! [e for x in A for y in B(x)] by two walks -/
namespace L2
open PySem PySem.Spec PyProof.Rows
/-- what is left to show of the inner walk -/
def LcIn (g1 : TG) (tt1 : TT) (te : TE) (σ2 : St) (vs1 : List Nat) (D : Addr) (J1 : It) (Nx : Hp → Prop) (H4 : Hp) : Prop := ∃ W1 : Nat → Nat → Hp → Prop, (∃ m, W1 0 m H4) ∧ ∀ j k H, W1 j k H →
  (J1.stop j H ∧ Nx H) ∨ (J1.go j H ∧ ∃ Nx1 : Hp → Prop, (∀ H', Nx1 H' → ∃ k', k' < k ∧ W1 (j + 1) k' H') ∧ ∀ x H', J1.yld j H x H' → g1 x (wipe σ2 vs1) H' fun σ3 H5 => wipe σ3 vs1 = wipe σ2 vs1 ∧ tt1 σ3 H5 fun b H6 =>
    if b = true then te σ3 H6 fun y H7 => ∃ acc, H7 D = some (.lst acc) ∧ acc.length < sizeLine ∧ Nx1 (upd H7 D (.lst (acc ++ [y]))) else Nx1 H6)
theorem lc_in {J1 : It} {n : Nat} {G : Hp → Prop} {Y : Nat → Hp → V → Hp → Prop} (w : Walk J1 n G Y) {g1 : TG} {tt1 : TT} {te : TE} {σ2 : St} {vs1 : List Nat} {D : Addr} {Nx : Hp → Prop} {H4 : Hp} (Pv : Nat → Hp → Prop) (h0 : Pv 0 H4) (hG : ∀ i H, i ≤ n → Pv i H → G H)
    (hs : ∀ i x H H', i < n → Pv i H → Y i H x H' → g1 x (wipe σ2 vs1) H' fun σ3 H5 => wipe σ3 vs1 = wipe σ2 vs1 ∧ tt1 σ3 H5 fun b H6 =>
      if b = true then te σ3 H6 fun y H7 => ∃ acc, H7 D = some (.lst acc) ∧ acc.length < sizeLine ∧ Pv (i + 1) (upd H7 D (.lst (acc ++ [y]))) else Pv (i + 1) H6) (hd : ∀ H, Pv n H → Nx H) : LcIn g1 tt1 te σ2 vs1 D J1 Nx H4 := by
  refine ⟨fun i m H => m = n - i ∧ i ≤ n ∧ Pv i H, ⟨n, by simp, Nat.zero_le _, h0⟩, ?_⟩
  rintro i m H ⟨rfl, hi, p⟩
  have q := hG i H hi p
  by_cases hlt : i < n
  · exact .inr ⟨w.goes i H hlt q, Pv (i + 1), fun H' p' => ⟨n - (i + 1), by omega, rfl, hlt, p'⟩, fun x H' y => hs i x H H' hlt p (w.yields i H x H' hlt q y)⟩
  · have e : i = n := by omega
    subst e
    exact .inl ⟨w.stops H q, hd H p⟩
theorem lc2_it {J : It} {n : Nat} {G : Hp → Prop} {Y : Nat → Hp → V → Hp → Prop} (w : Walk J n G Y) {g g1 : TG} {tt tt1 : TT} {wi1 : TI} {te : TE} {vs vs1 : List Nat} {σ : St} {H1 : Hp} {D : Addr} {Qd : Hp → Prop} (Pv : Nat → Hp → Prop) (h0 : Pv 0 (upd H1 D (.lst []))) (hG : ∀ i H, i ≤ n → Pv i H → G H)
    (hs : ∀ i x H H', i < n → Pv i H → Y i H x H' → g x (wipe σ vs) H' fun σ2 H2 => wipe σ2 vs = wipe σ vs ∧ tt σ2 H2 fun b H3 =>
      if b = true then wi1 σ2 H3 fun J1 H4 => LcIn g1 tt1 te σ2 vs1 D J1 (Pv (i + 1)) H4 else Pv (i + 1) H3) (hd : ∀ H, Pv n H → Qd H) :
    ∃ W : Nat → Nat → Hp → Prop, (∃ m, W 0 m (upd H1 D (.lst []))) ∧ ∀ i m H, W i m H →
      (J.stop i H ∧ Qd H) ∨ (J.go i H ∧ ∃ Nx : Hp → Prop, (∀ H', Nx H' → ∃ m', m' < m ∧ W (i + 1) m' H') ∧ ∀ x H', J.yld i H x H' → g x (wipe σ vs) H' fun σ2 H2 => wipe σ2 vs = wipe σ vs ∧ tt σ2 H2 fun b H3 =>
        if b = true then wi1 σ2 H3 fun J1 H4 => LcIn g1 tt1 te σ2 vs1 D J1 Nx H4 else Nx H3) := by
  refine ⟨fun i m H => m = n - i ∧ i ≤ n ∧ Pv i H, ⟨n, by simp, Nat.zero_le _, h0⟩, ?_⟩
  rintro i m H ⟨rfl, hi, p⟩
  have q := hG i H hi p
  by_cases hlt : i < n
  · exact .inr ⟨w.goes i H hlt q, Pv (i + 1), fun H' p' => ⟨n - (i + 1), by omega, rfl, hlt, p'⟩, fun x H' y => hs i x H H' hlt p (w.yields i H x H' hlt q y)⟩
  · have e : i = n := by omega
    subst e
    exact .inl ⟨w.stops H q, hd H p⟩
end L2

/-! sorted(xs), xs a list of any length of pairs of an int and a tuple of ints -/
namespace SLG
open PySem PyProof.Rows HT
theorem lexLt_asym : ∀ {a b : List Int}, lexLt a b = true → lexLt b a = false
  | [], [], h => by simp [HT.lexLt] at h
  | [], _ :: _, _ => rfl
  | _ :: _, [], h => by simp [HT.lexLt] at h
  | x :: a, y :: b, h => by
    rw [lexLt_cons] at h ⊢
    by_cases e : x = y
    · rw [if_pos e] at h; rw [if_pos e.symm]; exact lexLt_asym h
    · rw [if_neg e] at h; rw [if_neg (Ne.symm e)]
      have := of_decide_eq_true h
      exact decide_eq_false (by omega)
theorem lexLt_ntr : ∀ {a b c : List Int}, lexLt b a = false → lexLt c b = false → lexLt c a = false
  | [], _, c, _, _ => by cases c <;> rfl
  | _ :: _, [], _, h, _ => by simp [HT.lexLt] at h
  | _ :: _, _ :: _, [], _, h => by simp [HT.lexLt] at h
  | x :: a, y :: b, z :: c, h1, h2 => by
    rw [lexLt_cons] at h1 h2 ⊢
    by_cases e1 : y = x
    · rw [if_pos e1] at h1
      subst e1
      by_cases e2 : z = y
      · rw [if_pos e2] at h2 ⊢; exact lexLt_ntr h1 h2
      · rw [if_neg e2] at h2 ⊢; exact h2
    · rw [if_neg e1] at h1
      have k1 := of_decide_eq_false h1
      by_cases e2 : z = y
      · rw [if_neg (by omega)]
        exact decide_eq_false (by omega)
      · rw [if_neg e2] at h2
        have k2 := of_decide_eq_false h2
        rw [if_neg (by omega)]
        exact decide_eq_false (by omega)
/-- x before y: by the int, then by the tuple -/
def ltLG (p q : Int × List Int) : Bool := if p.1 = q.1 then lexLt p.2 q.2 else decide (p.1 < q.1)
theorem swo_lg {α : Type} (k : α → Int × List Int) : SrtO.Swo fun v u => ltLG (k v) (k u) := by
  refine ⟨fun x y h => ?_, fun x y z h1 h2 => ?_⟩
  · show ltLG (k y) (k x) = false
    replace h : ltLG (k x) (k y) = true := h
    unfold ltLG at h ⊢
    by_cases e : (k x).1 = (k y).1
    · rw [if_pos e] at h; rw [if_pos e.symm]; exact lexLt_asym h
    · rw [if_neg e] at h; rw [if_neg (Ne.symm e)]
      have := of_decide_eq_true h
      exact decide_eq_false (by omega)
  · show ltLG (k z) (k x) = false
    replace h1 : ltLG (k y) (k x) = false := h1
    replace h2 : ltLG (k z) (k y) = false := h2
    unfold ltLG at h1 h2 ⊢
    by_cases e1 : (k y).1 = (k x).1
    · rw [if_pos e1] at h1
      by_cases e2 : (k z).1 = (k y).1
      · rw [if_pos e2] at h2; rw [if_pos (by omega)]; exact lexLt_ntr h1 h2
      · rw [if_neg e2] at h2; rw [if_neg (by omega)]
        have := of_decide_eq_false h2
        exact decide_eq_false (by omega)
    · rw [if_neg e1] at h1
      have k1 := of_decide_eq_false h1
      by_cases e2 : (k z).1 = (k y).1
      · rw [if_neg (by omega)]
        exact decide_eq_false (by omega)
      · rw [if_neg e2] at h2
        have k2 := of_decide_eq_false h2
        rw [if_neg (by omega)]
        exact decide_eq_false (by omega)
section
variable {prog : Program} {w : World} {A : Around} {E : Value → Shared → Prop} {s : Shared}
def IsLG (h : Heap) (v : Value) (x : Int) (g : List Int) : Prop := ∃ a o t b n, v = .ref a ∧ h.get? a = some o ∧ o.cls = .type "tuple" ∧ o.data = .seq #[.int x t, .ref b] n ∧ ∃ its, IsTup h b its ∧ IntsAre its.toList g
theorem IsLG.keeps {h h' : Heap} {v : Value} {x : Int} {g : List Int} (p : IsLG h v x g) (k : ∀ b o, h.get? b = some o → o.cls = .type "tuple" → h'.get? b = some o) : IsLG h' v x g := by
  obtain ⟨a, o, t, b, n, e, ho, hc, hd, its, ⟨o2, ho2, hc2, r⟩, i⟩ := p
  exact ⟨a, o, t, b, n, e, k _ _ ho hc, hc, hd, its, ⟨o2, k _ _ ho2 hc2, hc2, r⟩, i⟩
theorem readsAll_ints {h : Heap} : ∀ {vs : List Value} {ns : List Int}, IntsAre vs ns → ReadsAll h vs (ns.map PyData.int) []
  | _, _, .nil => .nil
  | _, _, .cons a t r => ReadsAll.cons (.int _ _) (readsAll_ints r)
theorem reads_tup {h : Heap} {b : Addr} {its : Array Value} {g : List Int} (ht : IsTup h b its) (hi : IntsAre its.toList g) : Reads h (.ref b) (.tuple (g.map PyData.int)) [] := by
  obtain ⟨o, ho, hc, n, hd⟩ := ht
  exact .tuple ho hc hd (readsAll_ints hi)
theorem canLay_ints : ∀ g : List Int, PyData.canLayAll0 (g.map PyData.int) = true
  | [] => by simp [PyData.canLayAll0]
  | _ :: g => by simp [PyData.canLayAll0, PyData.canLay0, canLay_ints g]
theorem depth_ints : ∀ g : List Int, PyData.depthAll (g.map PyData.int) ≤ 0
  | [] => by simp [PyData.depthAll]
  | _ :: g => by
    have := depth_ints g
    simp only [List.map_cons, PyData.depthAll, PyData.depth]
    omega
theorem eqv_ints : ∀ a b : List Int, PyData.eqvAll (a.map PyData.int) (b.map PyData.int) = decide (a = b)
  | [], [] => by simp [PyData.eqvAll]
  | [], _ :: _ => by simp [PyData.eqvAll]
  | _ :: _, [] => by simp [PyData.eqvAll]
  | x :: a, y :: b => by
    simp only [List.map_cons, PyData.eqvAll, eqv_ints a b, PyData.eqv]
    by_cases h : x = y
    · subst h; simp
    · have : ¬ (x :: a) = y :: b := fun e => h (List.cons.inj e).1
      rw [decide_eq_false this]; simp [h]
theorem eq_tups {b c : Addr} {it ju : Array Value} {g k : List Int} (hb : IsTup s.heap b it) (hc : IsTup s.heap c ju) (hi : IntsAre it.toList g) (hj : IntsAre ju.toList k) (hu : A.units + 1 < cLine) : SeqAt.EqAt A s (.ref b) (.ref c) (decide (g = k)) := by
  have h := SeqAt.eqAt_reads (.tuple (g.map PyData.int)) (.tuple (k.map PyData.int)) A s (.ref b) (.ref c) [] [] (reads_tup hb hi) (reads_tup hc hj) (by simp only [PyData.canLay0]; exact canLay_ints g) (by simp only [PyData.canLay0]; exact canLay_ints k) (by
    have := depth_ints g
    simp only [PyData.depth]
    omega)
  have e : PyData.eqv (.tuple (g.map PyData.int)) (.tuple (k.map PyData.int)) = decide (g = k) := by
    simp only [PyData.eqv]; exact eqv_ints g k
  rw [e] at h
  exact h
theorem lg_cmp {vs : List Value} {k : Value → Int × List Int} (hu : A.units + 1 < cLine) (hp : ∀ v ∈ vs, IsLG s.heap v (k v).1 (k v).2) : SrtO.Cmp prog w A s (tuples' true) (fun p => p.1 ∈ vs) (SrtO.lt2 fun v u => ltLG (k v) (k u)) := by
  intro p q hm hm'
  have h1 := hp _ hm
  have h2 := hp _ hm'
  show wpAny (model prog w) A (keyLt' (tuples' true) p.1 q.1) (fun r s' => s' = s ∧ r = ltLG (k p.1) (k q.1)) (fun _ _ => False) s
  unfold ltLG
  generalize (k p.1).1 = x at h1 ⊢
  generalize (k p.1).2 = g at h1 ⊢
  generalize (k q.1).1 = x' at h2 ⊢
  generalize (k q.1).2 = g' at h2 ⊢
  obtain ⟨a, o, t, b, n, e, ho, hc, hd, its, it, ii⟩ := h1
  obtain ⟨a', o', t', b', n', e', ho', hc', hd', its', it', ii'⟩ := h2
  rw [e, e']
  refine PySem.W.kat_lt ho hd ho' hd' ?_
  show PySem.W.KatLex prog w A true (decide (2 < 2)) _ [(.int x t, .int x' t'), (.ref b, .ref b')] 0 s
  refine PySem.W.kat_cons (SeqAt.EqAt.int_int x t x' t' prog w _ _ ?_)
  refine PySem.W.kat_go (fun e1 => ?_) (fun e1 => ?_)
  · have ex : x = x' := by simpa using e1
    refine PySem.W.kat_yes (PySem.W.kat_cons (eq_tups it it' ii ii' hu prog w _ _ ?_))
    refine PySem.W.kat_go (fun e2 => ?_) (fun e2 => ?_)
    · have ey : g = g' := by simpa using e2
      have e3 : (if x = x' then lexLt g g' else decide (x < x')) = false := by
        rw [if_pos ex, ey]
        cases h : lexLt g' g' with
        | false => rfl
        | true => exact absurd h (by rw [lexLt_asym h]; simp)
      exact PySem.W.kat_yes (PySem.W.kat_nil ⟨rfl, e3.symm⟩)
    · have e3 : (if x = x' then lexLt g g' else decide (x < x')) = lexLt g g' := if_pos ex
      refine PySem.W.kat_no (PySem.W.kat_one _ _ (lt_tupInts it it' ii ii' (Nat.lt_of_succ_lt hu) ?_))
      exact (show s = s ∧ lexLt g g' = (if x = x' then lexLt g g' else decide (x < x')) from ⟨rfl, e3.symm⟩)
  · have ex : ¬ x = x' := by simpa using e1
    have e3 : (if x = x' then lexLt g g' else decide (x < x')) = decide (x < x') := if_neg ex
    exact PySem.W.kat_no (oneLt_int ⟨rfl, e3.symm⟩)
theorem firsts_lg {h : Heap} : ∀ {vs : List Value}, (∀ v ∈ vs, ∃ x g, IsLG h v x g) → ∃ fs : List Value, PySem.W.KatTups h vs fs ∧ fs.length = vs.length ∧ ∀ f ∈ fs, ∃ x t, f = Value.int x t
  | [], _ => ⟨[], PySem.W.KatTups.nil, rfl, fun _ hm => by simp at hm⟩
  | v :: vs, hp => by
    obtain ⟨fs, h1, h2, h3⟩ := firsts_lg (vs := vs) fun v' hm => hp v' (List.mem_cons_of_mem _ hm)
    obtain ⟨x, g, a, o, t, b, n, e, ho, hc, hd, _⟩ := hp v (List.mem_cons_self ..)
    subst e
    refine ⟨.int x t :: fs, PySem.W.KatTups.cons ho hc hd rfl h1, by rw [List.length_cons, List.length_cons, h2], fun f hm => ?_⟩
    rcases List.mem_cons.mp hm with rfl | hm
    · exact ⟨x, t, rfl⟩
    · exact h3 f hm
theorem lg_sortable {a : Addr} {vs : List Value} {k : Value → Int × List Int} (hu : A.units + 1 < cLine) (h0 : 0 < vs.length) (hp : ∀ v ∈ vs, IsLG s.heap v (k v).1 (k v).2) (ha : ∀ o, s.heap.get? a = some o → o.cls ≠ .type "tuple") : SrtO.SortableO prog w A s a vs fun v u => ltLG (k v) (k u) := by
  intro h' keep
  have hp' : ∀ v ∈ vs, IsLG h' v (k v).1 (k v).2 := fun v hm => (hp v hm).keeps fun b o e c => keep b o (fun z => by subst z; exact ha o e c) e
  obtain ⟨fs, h1, h2, h3⟩ := firsts_lg fun v hm => ⟨_, _, hp' v hm⟩
  refine ⟨tuples' true, fun Q E hq => ?_, lg_cmp hu hp'⟩
  refine PySem.W.kat_kind (T := .type "int") h1 (by omega) (fun f hm => ?_) (by rfl) ?_
  · obtain ⟨x, t, rfl⟩ := h3 f hm
    exact PySem.W.Looks.now
  · have e : (Value.type "int" != Value.type "tuple") = true := by first | decide +kernel | rfl | decide
    rw [e]
    exact hq
theorem sorted_lg {l : Addr} {vs : List Value} {k : Value → Int × List Int} {Q : Value → Shared → Prop} (hu : A.units + 3 < cLine) (hl : s.heap.IsList l vs.toArray) (hz : vs.length ≤ sizeLine) (hp : ∀ v ∈ vs, IsLG s.heap v (k v).1 (k v).2)
    (h : ∀ (h' : Heap) (d : Addr) (out : List Value), SrtO.Srtd (fun v u => ltLG (k v) (k u)) out → out.Perm vs → (∀ b o, s.heap.get? b = some o → h'.get? b = some o) → s.heap.objs.size ≤ d → (∃ n, h'.get? d = some (seqObj "list" out.toArray n)) → Q (.ref d) { s with heap := h' }) :
    wpAny (model prog w) A (call (.builtin "sorted") [.ref l]) Q E s := by
  refine SrtO.sorted_ord (swo_lg k) hl hz (fun h2 h₁ a ha kk => ?_) fun out hs hb => ?_
  · refine lg_sortable (s := { s with heap := h₁ }) hu (by omega) (fun v hm => (hp v hm).keeps fun b o e _ => (kk b o e).2) fun o e => ?_
    have e' : some o = some (seqObj "list" vs.toArray 0) := e.symm.trans ha
    cases e'
    intro c
    exact absurd (Value.type.inj c) (by decide)
  · exact h _ _ out hs hb.perm (fun b o e => sortedAll_old e) (Nat.le_succ _) (sortedAll_at s.heap vs out.toArray)
end
end SLG
namespace L2
open PySem PySem.Spec PyProof.Rows
def rSortLG (K : PySem.W.Frag) : List V → Hp → VK → Prop := fun vs H Q => ∃ (a : Addr) (xs : List V) (k : V → Int × List Int), vs = [V.ref a] ∧ SqL K H a xs ∧ (∀ x ∈ xs, ∃ t b, x = V.ref t ∧ H t = some (.tup [.int (k x).1, .ref b]) ∧ SqT K H b ((k x).2.map V.int)) ∧
  ∀ ys p, ys.Perm xs → ys.Pairwise (fun x y => SLG.ltLG (k y) (k x) = false) → H p = none → Q (.ref p) (upd H p (.lst ys))
section
variable {X : Cx}
theorem cr_sortLG (hu : X.A.units + 64 < cLine) : CallR X (.builtin "sorted") (rSortLG X.K) := by
  intro pins s σ H vs us Q I r h
  obtain ⟨a, xs, k, rfl, hs, hx, q⟩ := h
  obtain ⟨its, rv, hl, hz⟩ := I.list hs
  obtain ⟨u, rfl, ru⟩ := vals1 r
  obtain rfl : u = Value.ref a := ru
  obtain ⟨e1, e2⟩ := refs_back rv fun x m => by
    obtain ⟨t, _, e, _⟩ := hx x m
    exact ⟨t, e⟩
  refine SLG.sorted_lg (k := fun u => k (backV u)) (by omega) hl.isList (by rw [← rv.length]; exact hz) (fun v hv => ?_) fun h' d out h1 h2 kp hd hn => ?_
  · obtain ⟨t, rfl⟩ := e2 v hv
    have hm : V.ref t ∈ xs := by rw [e1]; exact List.mem_map.mpr ⟨_, hv, rfl⟩
    obtain ⟨t', b, e, ht, hb⟩ := hx _ hm
    cases e
    obtain ⟨_, its2, r2, o, ho, hc, n, hd⟩ := I.hok _ _ ht
    obtain ⟨u1, u2, rfl, ri, rj⟩ := vals2 r2
    obtain ⟨t1, rfl⟩ := ri
    obtain rfl : u2 = Value.ref b := rj
    obtain ⟨its3, r3, p3, _⟩ := I.tuple hb
    exact ⟨t, o, t1, b, n, rfl, ho, hc, hd, its3.toArray, p3, intsAre_of r3⟩
  · have h3 : ∀ u ∈ out, ∃ a, u = Value.ref a := fun u hu => e2 u (h2.mem_iff.mp hu)
    obtain ⟨n, hn⟩ := hn
    refine ⟨.ref d, upd H d (.lst (out.map backV)), I.laid (t' := s.toks) kp hd ⟨?_, out, n, vals_back h3, hn⟩, rfl, q _ d ?_ ?_ (I.hok.fresh hd)⟩
    · rw [List.length_map, h2.length_eq, ← rv.length]; exact hz
    · rw [e1]; exact h2.map backV
    · exact List.pairwise_map.mpr h1
end
end L2

namespace K38
open PySem PySem.Spec PyProof.Rows L2 TL
/-! ### heaps: all but the bag's list stays -/
def Fr (b : Addr) (H H' : Hp) : Prop := ∀ a o, a ≠ b → H a = some o → H' a = some o
theorem Fr.refl (b : Addr) (H : Hp) : Fr b H H := fun _ _ _ h => h
theorem Fr.trans {b : Addr} {H H1 H2 : Hp} (x : Fr b H H1) (y : Fr b H1 H2) : Fr b H H2 := fun a o n h => y a o n (x a o n h)
theorem Fr.of_same {b : Addr} {H H1 : Hp} (x : Same H H1) : Fr b H H1 := fun a o _ h => x a o h
theorem Fr.new {b p : Addr} {H : Hp} {o : HO} (h : H p = none) : Fr b H (upd H p o) := fun a u _ e => by
  rw [upd_ne (ne_of_none e h)]; exact e
theorem Fr.upd_b {b : Addr} {H H1 : Hp} {o : HO} (x : Fr b H H1) : Fr b H (upd H1 b o) := fun a u n e => by
  rw [upd_ne n]; exact x a u n e
theorem Fr.free {b p : Addr} {H H' : Hp} (x : Fr b H H') (hb : p ≠ b) (h : H' p = none) : H p = none := by
  cases q : H p with
  | none => rfl
  | some o => rw [x p o hb q] at h; cases h
theorem Fr.upd_p {b p : Addr} {H H1 : Hp} {o : HO} (x : Fr b H H1) (h : H p = none) : Fr b H (upd H1 p o) := fun a u n e => by
  rw [upd_ne (ne_of_none e h)]; exact x a u n e
theorem Same.new {p : Addr} {H : Hp} {o : HO} (h : H p = none) : Same H (upd H p o) := fun a u e => by
  rw [upd_ne (ne_of_none e h)]; exact e
theorem Same.upd_p {p : Addr} {H H1 : Hp} {o : HO} (x : Same H H1) (h : H p = none) : Same H (upd H1 p o) := fun a u e => by
  rw [upd_ne (ne_of_none e h)]; exact x a u e
theorem Fr.seq {K : PySem.W.Frag} {b : Addr} {H H' : Hp} {a : Addr} {xs : List V} (e : Fr b H H') (n : a ≠ b) (h : SqL K H a xs) : SqL K H' a xs := by
  rcases h with (h | ⟨o, h⟩) | h
  · exact .inl (.inl (e _ _ n h))
  · exact .inl (.inr ⟨o, e _ _ n h⟩)
  · exact .inr h
/-- a bag of digits: what is left of the cell, the seed, the count of draws -/
def Bag (H : Hp) (b : Addr) (n : Nat) : Prop := ∃ x y z : Int, H b = some (.lst [.int x, .int y, .int z]) ∧ 0 ≤ x ∧ 0 ≤ y ∧ y < 2147483629 ∧ 0 ≤ z ∧ z ≤ n
theorem Bag.mono {H : Hp} {b : Addr} {n m : Nat} (h : Bag H b n) (l : n ≤ m) : Bag H b m := by
  obtain ⟨x, y, z, e, h1, h2, h3, h4, h5⟩ := h
  exact ⟨x, y, z, e, h1, h2, h3, h4, by omega⟩
theorem Bag.same {H H' : Hp} {b : Addr} {n : Nat} (h : Bag H b n) (s : Same H H') : Bag H' b n := by
  obtain ⟨x, y, z, e, r⟩ := h
  exact ⟨x, y, z, s _ _ e, r⟩
theorem Bag.ne {H : Hp} {b p : Addr} {n : Nat} (h : Bag H b n) (q : H p = none) : b ≠ p := by
  obtain ⟨x, y, z, e, r⟩ := h
  exact ne_of_none e q
theorem Bag.upd {H : Hp} {b p : Addr} {n : Nat} {o : HO} (h : Bag H b n) (q : b ≠ p) : Bag (upd H p o) b n := by
  obtain ⟨x, y, z, e, r⟩ := h
  exact ⟨x, y, z, by rw [upd_ne q]; exact e, r⟩
theorem Bag.some {H : Hp} {b : Addr} {n : Nat} (h : Bag H b n) : ∃ o, H b = some o := by
  obtain ⟨x, y, z, e, r⟩ := h
  exact ⟨_, e⟩
/-! ### the promises that all such laws share -/
def sp_cell (K : PySem.W.Frag) : Sp := fun vs H Q _ => ∃ (l : Addr) (ns : List Int) (j : Int), vs = [.ref l, .int j] ∧ SqL K H l (ns.map V.int) ∧ 0 ≤ j ∧ ∀ v : Int, Q (.int v) H
def sp_bag (K : PySem.W.Frag) : Sp := fun vs H Q _ => ∃ c : Int, vs = [.int c] ∧ ∀ p H', Same H H' → H p = none → Bag H' p 0 → Q (.ref p) H'
def sp_take (K : PySem.W.Frag) : Sp := fun vs H Q _ => ∃ (b : Addr) (n : Nat) (c : Int), vs = [.ref b, .int c] ∧ Bag H b n ∧ n ≤ 1000000 ∧ 0 < c ∧ c < 2 ^ 200 ∧
  ∀ (d : Int) H', Fr b H H' → Bag H' b (n + 1) → 0 ≤ d → d < c → Q (.int d) H'
def sp_law (K : PySem.W.Frag) : Sp := fun vs H Q _ => ∃ (a : Addr) (ns : List Int), vs = [.ref a] ∧ SqL K H a (ns.map V.int) ∧ ns.length ≤ 63 ∧ ∀ H', Q (.bl true) H'
/-! ### small facts -/
theorem atI_in {α : Type} {xs : List α} {i : Int} (h0 : 0 ≤ i) (h1 : i < (xs.length : Int)) : ∃ v, xs[i.toNat]? = some v ∧ atI xs i = some v := by
  have hj : i.toNat < xs.length := by omega
  refine ⟨xs[i.toNat], List.getElem?_eq_getElem hj, ?_⟩
  have e : ((i.toNat : Nat) : Int) = i := Int.toNat_of_nonneg h0
  have := atI_nat (xs := xs) (j := i.toNat) (List.getElem?_eq_getElem hj)
  rw [e] at this
  exact this
theorem atI_ints {ns : List Int} {i : Int} (h0 : 0 ≤ i) (h1 : i < (ns.length : Int)) : ∃ v : Int, atI (ns.map V.int) i = some (.int v) := by
  obtain ⟨v, e, h⟩ := atI_in (xs := ns.map V.int) h0 (by rw [List.length_map]; exact h1)
  rw [List.getElem?_map] at e
  cases q : ns[i.toNat]? with
  | none => rw [q] at e; cases e
  | some u => rw [q] at e; cases e; exact ⟨u, h⟩
theorem lt_of_dec {a b : Int} (h : decide (a < b) = true) : a < b := of_decide_eq_true h
theorem nlt_of_dec {a b : Int} (h : ¬ decide (a < b) = true) : ¬ a < b := fun x => h (decide_eq_true x)
theorem emod_in (a : Int) {m : Int} (h : 0 < m) : 0 ≤ a % m ∧ a % m < m := ⟨Int.emod_nonneg a (by omega), Int.emod_lt_of_pos a h⟩
/-! ### texts -/
theorem joinL_len (S : List Nat) : ∀ ps : List (List Nat), (joinL S ps).length ≤ (ps.map List.length).sum + ps.length * S.length
  | [] => by simp [joinL]
  | [p] => by simp [joinL]
  | p :: q :: r => by
    have h := joinL_len S (q :: r)
    show (p ++ (S ++ joinL S (q :: r))).length ≤ _
    simp only [List.length_append, List.map_cons, List.sum_cons, List.length_cons, Nat.add_mul, Nat.one_mul] at h ⊢
    omega
theorem join_len (a : Str) (ys : List Str) : (Txt.join a ys).length ≤ (ys.map (·.length)).sum + ys.length * a.length := by
  rw [join_eq, len_tl, tl_join, len_tl a]
  have h := joinL_len (tl a) (ys.map tl)
  rw [List.map_map, List.length_map] at h
  have e : ys.map (List.length ∘ tl) = ys.map (·.length) := List.map_congr_left fun x _ => (len_tl x).symm
  rw [e] at h
  exact h
theorem sum_len {ys : List Str} {L : Nat} (h : ∀ s ∈ ys, s.length ≤ L) : (ys.map (·.length)).sum ≤ ys.length * L := by
  induction ys with
  | nil => simp
  | cons a r ih =>
    have h1 := h a List.mem_cons_self
    have h2 := ih fun s hs => h s (List.mem_cons_of_mem _ hs)
    simp only [List.map_cons, List.sum_cons, List.length_cons, Nat.add_mul, Nat.one_mul]
    omega
theorem join_size {a : Str} {ys : List Str} {L n A : Nat} (h : ∀ s ∈ ys, s.length ≤ L) (hn : ys.length ≤ n) (ha : a.length ≤ A) : (ys.map (·.length)).sum + ys.length * a.length ≤ n * L + n * A :=
  Nat.add_le_add (Nat.le_trans (sum_len h) (Nat.mul_le_mul_right _ hn)) (Nat.mul_le_mul hn ha)
theorem app_len (a b : Str) : (a ++ b).length = a.length + b.length := by
  rw [len_tl, tl_append, List.length_append, ← len_tl, ← len_tl]
def rRepS : R2 := fun x y H Q => ∃ z i, x = .str z ∧ y = .int i ∧ z.length ≤ 100 ∧ 0 ≤ i ∧ i ≤ 1000 ∧ ∀ s : Str, s.length ≤ z.length * i.toNat → Q (.str s) H
theorem op_repS {X : Cx} : OpR X (binaryOp .Mult) rRepS := by
  intro pins s σ H x y v u Q I rx ry h
  obtain ⟨z, i, rfl, rfl, hz, h0, h1, q⟩ := h
  obtain ⟨t, rfl⟩ := rx
  obtain ⟨t', rfl⟩ := ry
  have hm : z.length * i.toNat ≤ 100 * 1000 := Nat.mul_le_mul hz (by omega)
  refine SB.mul ⟨?_, fun _ _ => ?_, fun _ _ => ?_⟩ (fun t'' k => ⟨.str (Txt.mul z i), H, I.tok _, ⟨_, rfl⟩, q _ ?_⟩)
  · rw [Bool.or_eq_false_iff]
    exact ⟨decide_eq_false (by omega), decide_eq_false (by omega)⟩
  · have h2 : (1000 : Int) ≤ (2 ^ 63 - 1) / i ∨ i = 0 := by
      by_cases e : i = 0
      · exact .inr e
      · left
        rw [Int.le_ediv_iff_mul_le (by omega)]
        omega
    rcases h2 with h2 | h2
    · omega
    · subst h2
      omega
  · have hz2 : sizeLine = 16777216 := sizeLine_eq
    unfold Builtin.Str.tooLong
    exact decide_eq_false (by omega)
  · have hl := PyProof.Rows.len_mul z i
    have e : (if decide (i < 0) = true then 0 else i) = i := by rw [if_neg (by simp; omega)]
    rw [e] at hl
    have e2 : (i.toNat : Int) = i := Int.toNat_of_nonneg h0
    rw [show (z.length : Int) * i = ((z.length * i.toNat : Nat) : Int) by rw [Int.natCast_mul, e2]] at hl
    omega
/-- a list of draws that are texts, made at D -/
def PvS (b D : Addr) (H1 : Hp) (n0 c L : Nat) (i : Nat) (H' : Hp) : Prop := H1 D = none ∧ D ≠ b ∧ ∃ ys : List Str, ys.length = i ∧ (∀ s ∈ ys, s.length ≤ L) ∧ H' D = some (.lst (ys.map V.str)) ∧ Fr b H1 H' ∧ Bag H' b (n0 + c * i)
theorem pvS_0 {b D : Addr} {H1 : Hp} {n0 c L : Nat} (hB : Bag H1 b n0) (hD : H1 D = none) : PvS b D H1 n0 c L 0 (upd H1 D (.lst [])) :=
  ⟨hD, (hB.ne hD).symm, [], rfl, fun _ h => (nomatch h), upd_same, Fr.new hD, (hB.upd (hB.ne hD)).mono (by omega)⟩
theorem pvS_put {b D : Addr} {H1 H' H4 : Hp} {n0 c L i : Nat} {s : Str} (p : PvS b D H1 n0 c L i H') (f4 : Fr b H' H4) (b4 : Bag H4 b (n0 + c * (i + 1))) (hs4 : s.length ≤ L) (hi : i < 100000) :
    ∃ acc, H4 D = some (.lst acc) ∧ acc.length < sizeLine ∧ PvS b D H1 n0 c L (i + 1) (upd H4 D (.lst (acc ++ [V.str s]))) := by
  obtain ⟨hD, n1, ys, hl, hs, hD', hF, hB'⟩ := p
  refine ⟨ys.map V.str, f4 D _ n1 hD', ?_, hD, n1, ys ++ [s], by rw [List.length_append, hl]; rfl, ?_, ?_, (hF.trans f4).upd_p hD, b4.upd n1.symm⟩
  · rw [List.length_map, hl]
    have : sizeLine = 16777216 := sizeLine_eq
    omega
  · intro x hx
    rcases List.mem_append.mp hx with h | h
    · exact hs x h
    · rw [List.mem_singleton.mp h]; exact hs4
  · rw [upd_same, List.map_append]; rfl
/-- a def that draws a text -/
def sp_str (c L : Nat) : Sp := fun vs H Q _ => ∃ (b : Addr) (n : Nat), vs = [.ref b] ∧ Bag H b n ∧ n + c ≤ 1000000 ∧ ∀ (s : Str) H', Fr b H H' → Bag H' b (n + c) → s.length ≤ L → Q (.str s) H'
theorem slen {n : Nat} (h : n ≤ 100000) : n ≤ sizeLine := Nat.le_trans h (by decide)
theorem str_at {xs : List V} {i : Int} {L : Nat} (h0 : 0 ≤ i) (h1 : i < (xs.length : Int)) (h : ∀ v ∈ xs, ∃ s : Str, v = .str s ∧ s.length ≤ L) : ∃ s : Str, atI xs i = some (.str s) ∧ s.length ≤ L := by
  obtain ⟨v, e, a⟩ := atI_in h0 h1
  obtain ⟨s, rfl, hs⟩ := h v (List.mem_of_getElem? e)
  exact ⟨s, a, hs⟩
theorem lenk {α : Type} {xs : List α} (n : Nat) (h : xs.length = n) (hn : n ≤ 100000) : xs.length ≤ sizeLine := slen (by omega)

end K38
namespace K38
open PySem PySem.Spec PyProof.Rows L2 TL
theorem ok_l_cell {P : Program} {w : World} {K : PySem.W.Frag} {mg : Str → Option Value} {base : Heap} (T : Txt P K mg) : FnOk P w K mg base CX0 1 T.f_l_cell T.fd_l_cell ["_law_script", "_law_k"] (sp_cell K) := by
  refine T.F_l_cell.ok sc_l_cell (fun vs H Q E h => ?_) (fun cdv A outer s H vs Q E hr h => ?_)
  · obtain ⟨_, _, _, rfl, _⟩ := h; rfl
  · obtain ⟨l, ns, j, rfl, hS, hj, q⟩ := h
    refine ⟨_, PSs.nox (pss_cons (ps_if (pt_cmpR op_lt (pv 1) (pe_callB (show CallR _ _ (rLenSeq K) from call_len_seq) (by rfl) T.n_len (by decide +kernel) (pa_cons (pv 0) pa_nil)) (nomark _)) (pss_one (ps_ret (pe_ix (show IxR _ (rIxL K) from ix_list) (pv 0) (pv 1) (fun _ _ => rfl)))) pss_nil)
      (pss_one (ps_ret (pe_op op_add (pe_op op_mul pe_int (pv 1)) pe_int)))), ?_⟩
    refine ⟨_, rfl, _, rfl, l, _, rfl, .inl hS, _, _, rfl, rfl, _, rfl, ite2 (fun e => ?_) (fun e => ?_)⟩
    · have e1 := lt_of_dec e
      rw [List.length_map] at e1
      obtain ⟨v, hv⟩ := atI_ints hj e1
      exact ⟨_, rfl, _, rfl, l, _, _, _, rfl, rfl, hS, hv, q v⟩
    · exact ⟨_, rfl, _, _, rfl, rfl, .inl ⟨by decide, by decide⟩, _, _, rfl, rfl, q _⟩
theorem ok_l_box {P : Program} {w : World} {K : PySem.W.Frag} {mg : Str → Option Value} {base : Heap} (T : Txt P K mg) : FnOk P w K mg base CX0 1 T.f_l_box T.fd_l_box ["_law_cell_here"] (sp_bag K) := by
  refine T.F_l_box.ok sc_l_box (fun vs H Q E h => ?_) (fun cdv A outer s H vs Q E hr h => ?_)
  · obtain ⟨_, rfl, _⟩ := h; rfl
  · obtain ⟨c, rfl, q⟩ := h
    refine ⟨_, PSs.nox (pss_one (ps_ret (pe_lst (pa_cons (pe_callB (call_max2 rfl) (by rfl) T.n_max (by decide +kernel) (pa_cons pe_int (pa_cons (pe_op op_sub (pv 0) (pe_op op_pow pe_int pe_int)) pa_nil))) (pa_cons (pe_op op_mod (pv 0) pe_int) (pa_cons pe_int pa_nil)))))), ?_⟩
    refine ⟨_, rfl, _, _, rfl, rfl, ⟨by decide, by decide, by decide⟩, _, _, rfl, rfl, _, _, rfl, _, rfl, _, _, rfl, rfl, (show (0 : Int) < _ by decide), ?_⟩
    refine ⟨(by show 3 ≤ sizeLine; decide), fun p np => q p _ (Same.new np) np ⟨_, _, _, upd_same, ?_, (emod_in c (by decide)).1, (emod_in c (by decide)).2, Int.le_refl 0, Int.le_refl 0⟩⟩
    split <;> omega
theorem ok_l_take {P : Program} {w : World} {K : PySem.W.Frag} {mg : Str → Option Value} {base : Heap} (T : Txt P K mg) : FnOk P w K mg base CX0 1 T.f_l_take T.fd_l_take ["_law_box_here", "_law_many"] (sp_take K) := by
  refine T.F_l_take.ok sc_l_take (fun vs H Q E h => ?_) (fun cdv A outer s H vs Q E hr h => ?_)
  · obtain ⟨_, _, _, rfl, _⟩ := h; rfl
  · obtain ⟨b, n, c, rfl, ⟨x, y, z, hb, hx, hy, hy2, hz, hz2⟩, hn, hc, hc2, q⟩ := h
    have wc : CDivW x c := wide_div hc (b := 200) (by omega) (by decide) (by decide)
    refine ⟨_, PSs.nox (pss_cons (ps_if (pt_cmpR op_gt (pe_ix (show IxR _ (rIxL K) from ix_list) (pv 0) pe_int (fun _ _ => rfl)) pe_int (nomark _)) (pss_cons (ps_set (i := 2) sc_l_take.nd rfl (Or.inl rfl) (pe_op op_mod (pe_ix (show IxR _ (rIxL K) from ix_list) (pv 0) pe_int (fun _ _ => rfl)) (pv 1)))
      (pss_cons (ps_asg (pe_op op_fdivW (pe_ix (show IxR _ (rIxL K) from ix_list) (pv 0) pe_int (fun _ _ => rfl)) (pv 1)) (pg_sub (pv 0) pe_int set_list))
      (pss_one (ps_ret (pv 2))))) pss_nil)
      (pss_cons (ps_asg (pe_op op_add (pe_ix (show IxR _ (rIxL K) from ix_list) (pv 0) pe_int (fun _ _ => rfl)) pe_int) (pg_sub (pv 0) pe_int set_list))
      (pss_cons (ps_set (i := 3) sc_l_take.nd rfl (Or.inl rfl) (pe_op op_mod (pe_op op_pow (pe_op op_add (pe_op op_add (pe_ix (show IxR _ (rIxL K) from ix_list) (pv 0) pe_int (fun _ _ => rfl)) (pe_op op_mul pe_int (pe_ix (show IxR _ (rIxL K) from ix_list) (pv 0) pe_int (fun _ _ => rfl)))) pe_int) pe_int) pe_int))
      (pss_cons (ps_set (i := 3) sc_l_take.nd rfl (Or.inl rfl) (pe_op op_mod (pe_op op_pow (pe_op op_add (pv 3) (pe_op op_mul pe_int (pe_ix (show IxR _ (rIxL K) from ix_list) (pv 0) pe_int (fun _ _ => rfl)))) pe_int) pe_int))
      (pss_one (ps_ret (pe_op op_mod (pe_op op_fdivW (pv 3) pe_int) (pv 1)))))))), ?_⟩
    refine ⟨_, rfl, b, _, _, _, rfl, rfl, SqL.of hb, rfl, _, _, rfl, rfl, _, rfl, ite2 (fun e => ?_) (fun e => ?_)⟩
    · -- a digit of the cell
      refine ⟨_, rfl, b, _, _, _, rfl, rfl, SqL.of hb, rfl, _, rfl, _, _, rfl, rfl, hc, ?_⟩
      refine ⟨_, rfl, b, _, _, _, rfl, rfl, SqL.of hb, rfl, _, rfl, _, _, rfl, rfl, wc, ?_⟩
      refine ⟨_, rfl, b, _, _, 0, rfl, rfl, hb, rfl, ?_⟩
      refine ⟨_, rfl, q _ _ (Fr.upd_b (Fr.refl b H)) ⟨_, _, _, upd_same, Int.ediv_nonneg hx (by omega), hy, hy2, hz, by omega⟩ (emod_in x hc).1 (emod_in x hc).2⟩
    · -- a mixed one
      refine ⟨_, rfl, b, _, _, _, rfl, rfl, SqL.of hb, rfl, _, _, rfl, rfl, ?_⟩
      refine ⟨_, rfl, b, _, _, 2, rfl, rfl, hb, rfl, ?_⟩
      have hb2 : upd H b (.lst ([V.int x, V.int y, V.int z].set 2 (V.int (z + 1)))) b = some (.lst [.int x, .int y, .int (z + 1)]) := upd_same
      refine ⟨_, rfl, b, _, _, _, rfl, rfl, SqL.of hb2, rfl, _, rfl, b, _, _, _, rfl, rfl, SqL.of hb2, rfl, _, _, rfl, rfl, .inl ⟨by decide, by decide⟩, _, _, rfl, rfl, _, _, rfl, rfl, _, _, rfl, rfl, ⟨by decide, by decide, by omega⟩, _, _, rfl, rfl, (show (0 : Int) < _ by decide), ?_⟩
      have m1 := emod_in ((y + 9059 * (z + 1) + 193) ^ (5 : Int).toNat) (m := 2147483647) (by decide)
      generalize (y + 9059 * (z + 1) + 193) ^ (5 : Int).toNat % 2147483647 = t at m1
      refine ⟨_, rfl, _, rfl, b, _, _, _, rfl, rfl, SqL.of hb2, rfl, _, _, rfl, rfl, .inl ⟨by decide, by decide⟩, _, _, rfl, rfl, _, _, rfl, rfl, ⟨by decide, by decide, by omega⟩, _, _, rfl, rfl, (show (0 : Int) < _ by decide), ?_⟩
      have m2 := emod_in ((t + 104729 * (z + 1)) ^ (3 : Int).toNat) (m := 2147483587) (by decide)
      generalize (t + 104729 * (z + 1)) ^ (3 : Int).toNat % 2147483587 = u at m2
      refine ⟨_, rfl, _, _, rfl, rfl, wide_div (by decide) (b := 10) (by decide) (by decide) (by decide), _, rfl, _, _, rfl, rfl, hc, ?_⟩
      exact q _ _ (Fr.upd_b (Fr.refl b H)) ⟨_, _, _, upd_same, hx, hy, hy2, by omega, by omega⟩ (emod_in _ hc).1 (emod_in _ hc).2

end K38
namespace K38
open PySem PySem.Spec PyProof.Rows L2 TL
/-! ### data that stand: variables, events -/
theorem pd_get {α β : Type} {F : α → β → Prop} : ∀ {l₁ : List α} {l₂ : List β} {i : Nat} {x : α}, Paired F l₁ l₂ → l₁[i]? = some x → ∃ y, l₂[i]? = some y ∧ F x y
  | _, _, _, _, .nil, e => by simp at e
  | _, _, 0, _, .cons r _, e => by simp at e; subst e; exact ⟨_, rfl, r⟩
  | _, _, i + 1, x, .cons _ t, e => by
    obtain ⟨y, h1, h2⟩ := pd_get (i := i) (x := x) t (by simpa using e)
    exact ⟨y, by simpa using h1, h2⟩
theorem pd_get' {α β : Type} {F : α → β → Prop} : ∀ {l₁ : List α} {l₂ : List β} {i : Nat} {y : β}, Paired F l₁ l₂ → l₂[i]? = some y → ∃ x, l₁[i]? = some x ∧ F x y
  | _, _, _, _, .nil, e => by simp at e
  | _, _, 0, _, .cons r _, e => by simp at e; subst e; exact ⟨_, rfl, r⟩
  | _, _, i + 1, y, .cons _ t, e => by
    obtain ⟨x, h1, h2⟩ := pd_get' (i := i) (y := y) t (by simpa using e)
    exact ⟨x, by simpa using h1, h2⟩
theorem pd_app {α β : Type} {F : α → β → Prop} : ∀ {a b : List α} {c d : List β}, Paired F a c → Paired F b d → Paired F (a ++ b) (c ++ d)
  | _, _, _, _, .nil, h => h
  | _, _, _, _, .cons r t, h => .cons r (pd_app t h)
theorem pd_map {α β : Type} {F : α → β → Prop} (f : β → α) : ∀ {l : List β}, (∀ y ∈ l, F (f y) y) → Paired F (l.map f) l
  | [], _ => .nil
  | y :: r, h => .cons (h y List.mem_cons_self) (pd_map f fun z hz => h z (List.mem_cons_of_mem _ hz))
/-- what does not stand in W stays -/
def Mv (W : Addr → Prop) (H H' : Hp) : Prop := ∀ a o, ¬ W a → H a = some o → H' a = some o
theorem Mv.of_same {W : Addr → Prop} {H H' : Hp} (h : Same H H') : Mv W H H' := fun a o _ e => h a o e
theorem Mv.of_fr {b : Addr} {H H' : Hp} (h : Fr b H H') : Mv (fun a => a = b) H H' := fun a o n e => h a o n e
/-- a list or a tuple at a place of F -/
def LT (H : Hp) (F : Addr → Prop) (a : Addr) (xs : List V) : Prop := F a ∧ (H a = some (.lst xs) ∨ H a = some (.tup xs))
theorem LT.sq {K : PySem.W.Frag} {H : Hp} {F : Addr → Prop} {a : Addr} {xs : List V} (h : LT H F a xs) : SqL K H a xs ∨ SqT K H a xs := by
  obtain ⟨_, h | h⟩ := h
  · exact .inl (SqL.of h)
  · exact .inr (.inl (.inl h))
theorem LT.mv {H H' : Hp} {F W : Addr → Prop} {a : Addr} {xs : List V} (h : LT H F a xs) (m : Mv W H H') (d : ∀ a, F a → ¬ W a) : LT H' F a xs := by
  obtain ⟨f, h | h⟩ := h
  · exact ⟨f, .inl (m _ _ (d _ f) h)⟩
  · exact ⟨f, .inr (m _ _ (d _ f) h)⟩
def isPair (H : Hp) (G : Addr → Prop) (x : V) (q : Str × Int) : Prop := ∃ t, x = .ref t ∧ G t ∧ H t = some (.tup [.str q.1, .int q.2])
def isTupI (H : Hp) (G : Addr → Prop) (x : V) (ns : List Int) : Prop := ∃ t, x = .ref t ∧ G t ∧ H t = some (.tup (ns.map V.int))
abbrev Row := Str × List Str × List (List Int)
def isRow (H : Hp) (F G : Addr → Prop) (x : V) (r : Row) : Prop := ∃ p a b ys, x = .ref p ∧ F p ∧ H p = some (.tup [.str r.1, .ref a, .ref b]) ∧ LT H F a (r.2.1.map V.str) ∧ LT H F b ys ∧ Paired (isTupI H G) ys r.2.2
def isVars (H : Hp) (F G : Addr → Prop) (v : V) (L : List (Str × Int)) : Prop := ∃ a xs, v = .ref a ∧ LT H F a xs ∧ Paired (isPair H G) xs L
def isEvs (H : Hp) (F G : Addr → Prop) (v : V) (R : List Row) : Prop := ∃ a xs, v = .ref a ∧ LT H F a xs ∧ Paired (isRow H F G) xs R
section
variable {H H' : Hp} {F F' G G' W : Addr → Prop}
theorem isPair.mv {x : V} {q : Str × Int} (h : isPair H G x q) (m : Mv W H H') (d : ∀ a, G a → ¬ W a) : isPair H' G x q := by
  obtain ⟨t, e, g, h⟩ := h
  exact ⟨t, e, g, m _ _ (d _ g) h⟩
theorem isTupI.mv {x : V} {ns : List Int} (h : isTupI H G x ns) (m : Mv W H H') (d : ∀ a, G a → ¬ W a) : isTupI H' G x ns := by
  obtain ⟨t, e, g, h⟩ := h
  exact ⟨t, e, g, m _ _ (d _ g) h⟩
theorem isRow.mv {x : V} {r : Row} (h : isRow H F G x r) (m : Mv W H H') (d : ∀ a, F a → ¬ W a) (d' : ∀ a, G a → ¬ W a) : isRow H' F G x r := by
  obtain ⟨p, a, b, ys, e, f, h, la, lb, hp⟩ := h
  exact ⟨p, a, b, ys, e, f, m _ _ (d _ f) h, la.mv m d, lb.mv m d, Paired.mono (fun _ _ z => z.mv m d') hp⟩
theorem isVars.mv {v : V} {L : List (Str × Int)} (h : isVars H F G v L) (m : Mv W H H') (d : ∀ a, F a → ¬ W a) (d' : ∀ a, G a → ¬ W a) : isVars H' F G v L := by
  obtain ⟨a, xs, e, la, hp⟩ := h
  exact ⟨a, xs, e, la.mv m d, Paired.mono (fun _ _ z => z.mv m d') hp⟩
theorem isEvs.mv {v : V} {R : List Row} (h : isEvs H F G v R) (m : Mv W H H') (d : ∀ a, F a → ¬ W a) (d' : ∀ a, G a → ¬ W a) : isEvs H' F G v R := by
  obtain ⟨a, xs, e, la, hp⟩ := h
  exact ⟨a, xs, e, la.mv m d, Paired.mono (fun _ _ z => z.mv m d d') hp⟩
theorem LT.wk {a : Addr} {xs : List V} (h : LT H F a xs) (f : ∀ a, F a → F' a) : LT H F' a xs := ⟨f _ h.1, h.2⟩
theorem isPair.wk {x : V} {q : Str × Int} (h : isPair H G x q) (f : ∀ a, G a → G' a) : isPair H G' x q := by
  obtain ⟨t, e, g, h⟩ := h
  exact ⟨t, e, f _ g, h⟩
theorem isTupI.wk {x : V} {ns : List Int} (h : isTupI H G x ns) (f : ∀ a, G a → G' a) : isTupI H G' x ns := by
  obtain ⟨t, e, g, h⟩ := h
  exact ⟨t, e, f _ g, h⟩
theorem isRow.wk {x : V} {r : Row} (h : isRow H F G x r) (f : ∀ a, F a → F' a) (g : ∀ a, G a → G' a) : isRow H F' G' x r := by
  obtain ⟨p, a, b, ys, e, ff, h, la, lb, hp⟩ := h
  exact ⟨p, a, b, ys, e, f _ ff, h, la.wk f, lb.wk f, Paired.mono (fun _ _ z => z.wk g) hp⟩
theorem isVars.wk {v : V} {L : List (Str × Int)} (h : isVars H F G v L) (f : ∀ a, F a → F' a) (g : ∀ a, G a → G' a) : isVars H F' G' v L := by
  obtain ⟨a, xs, e, la, hp⟩ := h
  exact ⟨a, xs, e, la.wk f, Paired.mono (fun _ _ z => z.wk g) hp⟩
theorem isEvs.wk {v : V} {R : List Row} (h : isEvs H F G v R) (f : ∀ a, F a → F' a) (g : ∀ a, G a → G' a) : isEvs H F' G' v R := by
  obtain ⟨a, xs, e, la, hp⟩ := h
  exact ⟨a, xs, e, la.wk f, Paired.mono (fun _ _ z => z.wk f g) hp⟩
theorem isPair.same {x : V} {q : Str × Int} (h : isPair H G x q) (m : Same H H') : isPair H' G x q := h.mv (Mv.of_same m (W := fun _ => False)) fun _ _ z => z
theorem isTupI.same {x : V} {ns : List Int} (h : isTupI H G x ns) (m : Same H H') : isTupI H' G x ns := h.mv (Mv.of_same m (W := fun _ => False)) fun _ _ z => z
theorem isRow.same {x : V} {r : Row} (h : isRow H F G x r) (m : Same H H') : isRow H' F G x r := h.mv (Mv.of_same m (W := fun _ => False)) (fun _ _ z => z) fun _ _ z => z
theorem isVars.same {v : V} {L : List (Str × Int)} (h : isVars H F G v L) (m : Same H H') : isVars H' F G v L := h.mv (Mv.of_same m (W := fun _ => False)) (fun _ _ z => z) fun _ _ z => z
theorem isEvs.same {v : V} {R : List Row} (h : isEvs H F G v R) (m : Same H H') : isEvs H' F G v R := h.mv (Mv.of_same m (W := fun _ => False)) (fun _ _ z => z) fun _ _ z => z
theorem LT.same {a : Addr} {xs : List V} (h : LT H F a xs) (m : Same H H') : LT H' F a xs := h.mv (Mv.of_same m (W := fun _ => False)) fun _ _ z => z
end
/-- a row whose scope and bad tuples are lists -/
def isRowS (H : Hp) (F G : Addr → Prop) (x : V) (r : Row) : Prop := ∃ p a b ys, x = .ref p ∧ F p ∧ H p = some (.tup [.str r.1, .ref a, .ref b]) ∧ (F a ∧ H a = some (.lst (r.2.1.map V.str))) ∧ (F b ∧ H b = some (.lst ys)) ∧ Paired (isTupI H G) ys r.2.2
section
variable {H H' : Hp} {F F' G G' W : Addr → Prop}
theorem isRowS.row {x : V} {r : Row} (h : isRowS H F G x r) : isRow H F G x r := by
  obtain ⟨p, a, b, ys, e, f, h, la, lb, hp⟩ := h
  exact ⟨p, a, b, ys, e, f, h, ⟨la.1, .inl la.2⟩, ⟨lb.1, .inl lb.2⟩, hp⟩
theorem isRowS.mv {x : V} {r : Row} (h : isRowS H F G x r) (m : Mv W H H') (d : ∀ a, F a → ¬ W a) (d' : ∀ a, G a → ¬ W a) : isRowS H' F G x r := by
  obtain ⟨p, a, b, ys, e, f, h, la, lb, hp⟩ := h
  exact ⟨p, a, b, ys, e, f, m _ _ (d _ f) h, ⟨la.1, m _ _ (d _ la.1) la.2⟩, ⟨lb.1, m _ _ (d _ lb.1) lb.2⟩, Paired.mono (fun _ _ z => z.mv m d') hp⟩
theorem isRowS.wk {x : V} {r : Row} (h : isRowS H F G x r) (f : ∀ a, F a → F' a) (g : ∀ a, G a → G' a) : isRowS H F' G' x r := by
  obtain ⟨p, a, b, ys, e, ff, h, la, lb, hp⟩ := h
  exact ⟨p, a, b, ys, e, f _ ff, h, ⟨f _ la.1, la.2⟩, ⟨f _ lb.1, lb.2⟩, Paired.mono (fun _ _ z => z.wk g) hp⟩
theorem isRowS.same {x : V} {r : Row} (h : isRowS H F G x r) (m : Same H H') : isRowS H' F G x r := h.mv (Mv.of_same m (W := fun _ => False)) (fun _ _ z => z) fun _ _ z => z
end
/-! ### what is asked of them -/
def NameOk (s : Str) : Prop := 1 ≤ (tl s).length ∧ (tl s).length ≤ 8 ∧ ∀ c ∈ tl s, 97 ≤ c ∧ c ≤ 122
def sizeOf (L : List (Str × Int)) (x : Str) : Int := ((L.find? fun q => decide (q.1 = x)).map (·.2)).getD 0
structure VarsOk (L : List (Str × Int)) : Prop where
  pos : 1 ≤ L.length
  few : L.length ≤ 8
  nm : ∀ q ∈ L, NameOk q.1
  sz : ∀ q ∈ L, 1 ≤ q.2 ∧ q.2 ≤ 6
  nd : (L.map (·.1)).Nodup
structure RowOk (L : List (Str × Int)) (r : Row) : Prop where
  nm : NameOk r.1
  pos : 1 ≤ r.2.1.length
  few : r.2.1.length ≤ 4
  sub : ∀ x ∈ r.2.1, x ∈ L.map (·.1)
  nd : r.2.1.Nodup
  bfew : r.2.2.length ≤ 12
  bnd : r.2.2.Nodup
  bl : ∀ ns ∈ r.2.2, ns.length = r.2.1.length
  bv : ∀ ns ∈ r.2.2, ∀ (i : Nat) (x : Str) (v : Int), r.2.1[i]? = some x → ns[i]? = some v → 0 ≤ v ∧ v < sizeOf L x
structure EvsOk (L : List (Str × Int)) (R : List Row) : Prop where
  few : R.length ≤ 8
  ok : ∀ r ∈ R, RowOk L r
  nd : (R.map (·.1)).Nodup

end K38
namespace K38
open PySem PySem.Spec PyProof.Rows L2 TL
/-! ### names that share a stem -/
theorem joinL_nil : ∀ ps : List (List Nat), joinL [] ps = ps.flatten
  | [] => rfl
  | [p] => by simp [joinL]
  | p :: q :: r => by
    show p ++ ([] ++ joinL [] (q :: r)) = _
    rw [joinL_nil (q :: r)]
    simp
theorem tl_join0 (ys : List Str) : tl (Txt.join (Str.ofString "") ys) = (ys.map tl).flatten := by
  rw [join_eq, tl_join, show tl (Str.ofString "") = [] by decide +kernel, joinL_nil]
theorem tl_cut0 (z : Str) (a : Nat) : tl (cutS z none (some (a : Int))) = (tl z).take a := by
  show ((z.cps.toList.drop 0).take (HT.sIx z.length z.length (some (a : Int)) - 0)) = _
  rw [HT.sIx_nat, List.drop_zero, Nat.sub_zero, show z.length = (tl z).length from len_tl z]
  show (tl z).take _ = _
  rw [← List.take_take, List.take_length]
theorem tl_cut2 (z : Str) (a b : Nat) (h : a ≤ (tl z).length) : tl (cutS z (some (a : Int)) (some (b : Int))) = ((tl z).drop a).take (b - a) := by
  show ((z.cps.toList.drop (HT.sIx z.length 0 (some (a : Int)))).take (HT.sIx z.length z.length (some (b : Int)) - HT.sIx z.length 0 (some (a : Int)))) = _
  rw [HT.sIx_nat, HT.sIx_nat, show z.length = (tl z).length from len_tl z, Nat.min_eq_left h]
  show ((tl z).drop a).take _ = _
  by_cases hb : b ≤ (tl z).length
  · rw [Nat.min_eq_left hb]
  · rw [Nat.min_eq_right (by omega), List.take_of_length_le (by rw [List.length_drop]; omega), List.take_of_length_le (by rw [List.length_drop]; omega)]
def AZ : Str := Str.ofString "abcdefghijklmnopqrstuvwxyz"
theorem az_list : AZ.cps.toList = List.range' 97 26 := by decide +kernel
theorem az_at {d : Int} (h0 : 0 ≤ d) (h1 : d < 26) : atI AZ.cps.toList d = some (97 + d.toNat) := by
  have e : ((d.toNat : Nat) : Int) = d := Int.toNat_of_nonneg h0
  have h := atI_nat (xs := AZ.cps.toList) (j := d.toNat) (v := 97 + d.toNat) (by rw [az_list, List.getElem?_range' (by omega)]; simp)
  rw [e] at h
  exact h
theorem az_len : AZ.length ≤ sizeLine := slen (by decide +kernel)
/-- a list of draws that are texts of a kind, made at D -/
def PvP (b D : Addr) (H1 : Hp) (n0 c : Nat) (P : Str → Prop) (i : Nat) (H' : Hp) : Prop := H1 D = none ∧ D ≠ b ∧ ∃ ys : List Str, ys.length = i ∧ (∀ s ∈ ys, P s) ∧ H' D = some (.lst (ys.map V.str)) ∧ Fr b H1 H' ∧ Bag H' b (n0 + c * i)
theorem pvP_0 {b D : Addr} {H1 : Hp} {n0 c : Nat} {P : Str → Prop} (hB : Bag H1 b n0) (hD : H1 D = none) : PvP b D H1 n0 c P 0 (upd H1 D (.lst [])) :=
  ⟨hD, (hB.ne hD).symm, [], rfl, fun _ h => (nomatch h), upd_same, Fr.new hD, (hB.upd (hB.ne hD)).mono (by omega)⟩
theorem pvP_put {b D : Addr} {H1 H' H4 : Hp} {n0 c i : Nat} {P : Str → Prop} {s : Str} (p : PvP b D H1 n0 c P i H') (f4 : Fr b H' H4) (b4 : Bag H4 b (n0 + c * (i + 1))) (hs4 : P s) (hi : i < 100000) :
    ∃ acc, H4 D = some (.lst acc) ∧ acc.length < sizeLine ∧ PvP b D H1 n0 c P (i + 1) (upd H4 D (.lst (acc ++ [V.str s]))) := by
  obtain ⟨hD, n1, ys, hl, hs, hD', hF, hB'⟩ := p
  refine ⟨ys.map V.str, f4 D _ n1 hD', ?_, hD, n1, ys ++ [s], by rw [List.length_append, hl]; rfl, ?_, ?_, (hF.trans f4).upd_p hD, b4.upd n1.symm⟩
  · rw [List.length_map, hl]
    have : sizeLine = 16777216 := sizeLine_eq
    omega
  · intro x hx
    rcases List.mem_append.mp hx with h | h
    · exact hs x h
    · rw [List.mem_singleton.mp h]; exact hs4
  · rw [upd_same, List.map_append]; rfl
def One (s : Str) : Prop := ∃ c : Nat, s = ⟨#[c]⟩ ∧ 97 ≤ c ∧ c ≤ 122
theorem one_flat : ∀ {ys : List Str}, (∀ s ∈ ys, One s) → (ys.map tl).flatten.length = ys.length ∧ ∀ c ∈ (ys.map tl).flatten, 97 ≤ c ∧ c ≤ 122
  | [], _ => ⟨rfl, by simp⟩
  | y :: r, h => by
    obtain ⟨h1, h2⟩ := one_flat (ys := r) fun s hs => h s (List.mem_cons_of_mem _ hs)
    obtain ⟨c, rfl, c1, c2⟩ := h y List.mem_cons_self
    have e : tl (⟨#[c]⟩ : Str) = [c] := rfl
    rw [List.map_cons, List.flatten_cons, e]
    refine ⟨by rw [List.length_append, h1]; simp; omega, fun x hx => ?_⟩
    rcases List.mem_append.mp hx with q | q
    · rw [List.mem_singleton.mp q]; exact ⟨c1, c2⟩
    · exact h2 x q
/-- the j-th name of a stem -/
theorem nodup_of_key {α β : Type} {l : List α} (key : α → β) (h : ∀ (i j : Nat) (x y : α), i < j → l[i]? = some x → l[j]? = some y → key x ≠ key y) : l.Nodup := by
  rw [List.nodup_iff_pairwise_ne, List.pairwise_iff_getElem]
  intro i j hi hj hij e
  exact h i j _ _ hij (List.getElem?_eq_getElem hi) (List.getElem?_eq_getElem hj) (by rw [e])
/-! ### a scope: some of the names, in a drawn order -/
theorem seq_at {n : Nat} {i : Int} (h0 : 0 ≤ i) (h1 : i < (n : Int)) : seqIndex? i n = some i.toNat := by
  refine (ixN_seq (j := i.toNat) ?_).1
  unfold ixN
  rw [if_pos h0, if_pos h1]
theorem map_erase {α β : Type} (f : α → β) : ∀ (l : List α) (k : Nat), (l.map f).eraseIdx k = (l.eraseIdx k).map f
  | [], _ => rfl
  | _ :: _, 0 => rfl
  | a :: r, k + 1 => congrArg (f a :: ·) (map_erase f r k)
/-! ### data: shapes, equality -/
def Shd (k : Nat) (d : PyData) : Prop := d.canLay0 = true ∧ d.depth ≤ k
theorem Shd.shaped {k : Nat} {d : PyData} (h : Shd k d) (hk : k ≤ 64) : SeqAt.shaped d = true := by
  unfold SeqAt.shaped
  rw [h.1, Bool.true_and]
  exact decide_eq_true (Nat.le_trans h.2 hk)
theorem shd_all {k : Nat} : ∀ {ds : List PyData}, (∀ d ∈ ds, Shd k d) → PyData.canLayAll0 ds = true ∧ PyData.depthAll ds ≤ k
  | [], _ => ⟨by simp [PyData.canLayAll0], by simp [PyData.depthAll]⟩
  | d :: r, h => by
    obtain ⟨h1, h2⟩ := shd_all (ds := r) fun x hx => h x (List.mem_cons_of_mem _ hx)
    obtain ⟨h3, h4⟩ := h d List.mem_cons_self
    exact ⟨by simp only [PyData.canLayAll0]; rw [h3, h1]; rfl, by simp only [PyData.depthAll]; omega⟩
theorem Shd.tuple {k : Nat} {ds : List PyData} (h : ∀ d ∈ ds, Shd k d) : Shd (k + 1) (.tuple ds) := by
  obtain ⟨h1, h2⟩ := shd_all h
  exact ⟨by simp only [PyData.canLay0]; exact h1, by simp only [PyData.depth]; omega⟩
theorem Shd.list {k : Nat} {ds : List PyData} (h : ∀ d ∈ ds, Shd k d) : Shd (k + 1) (.list ds) := by
  obtain ⟨h1, h2⟩ := shd_all h
  exact ⟨by simp only [PyData.canLay0]; exact h1, by simp only [PyData.depth]; omega⟩
theorem Shd.int (i : Int) : Shd 0 (.int i) := ⟨by simp only [PyData.canLay0], by simp only [PyData.depth]; omega⟩
theorem Shd.str {s : Str} (h : NameOk s) : Shd 0 (.str s) := by
  refine ⟨?_, by simp only [PyData.depth]; omega⟩
  simp only [PyData.canLay0]
  show s.cps.all _ = true
  rw [Array.all_eq_true']
  intro c hc
  have := h.2.2 c (Array.mem_toList_iff.mpr hc)
  exact decide_eq_true (by omega)
def tupD (ns : List Int) : PyData := .tuple (ns.map PyData.int)
theorem shd_tup (ns : List Int) : Shd 1 (tupD ns) := Shd.tuple fun d hd => by
  obtain ⟨i, _, rfl⟩ := List.mem_map.mp hd
  exact Shd.int i
theorem shd_tups (l : List (List Int)) : Shd 2 (.list (l.map tupD)) := Shd.list fun d hd => by
  obtain ⟨i, _, rfl⟩ := List.mem_map.mp hd
  exact shd_tup i
theorem eqv_ints : ∀ ns ms : List Int, PyData.eqvAll (ns.map PyData.int) (ms.map PyData.int) = decide (ns = ms)
  | [], [] => by simp [PyData.eqvAll]
  | [], _ :: _ => by simp [PyData.eqvAll]
  | _ :: _, [] => by simp [PyData.eqvAll]
  | n :: ns, m :: ms => by
    simp only [List.map_cons, PyData.eqvAll, PyData.eqv]
    rw [eqv_ints ns ms]
    by_cases h : n = m
    · subst h; simp
    · have : (n == m) = false := by simpa using h
      rw [this, Bool.false_and]
      symm
      exact decide_eq_false fun e => h (List.cons.inj e).1
theorem eqv_tup (ns ms : List Int) : PyData.eqv (tupD ns) (tupD ms) = decide (ns = ms) := by
  unfold tupD
  simp only [PyData.eqv]
  exact eqv_ints ns ms
theorem any_tups (l : List (List Int)) (ns : List Int) : ((l.map tupD).any fun z => PyData.eqv z (tupD ns)) = decide (ns ∈ l) := by
  induction l with
  | nil => rfl
  | cons a r ih =>
    rw [List.map_cons, List.any_cons, ih, eqv_tup]
    by_cases h : a = ns
    · subst h; simp
    · rw [decide_eq_false h, Bool.false_or]
      by_cases h2 : ns ∈ r
      · rw [decide_eq_true h2, decide_eq_true (List.mem_cons_of_mem _ h2)]
      · rw [decide_eq_false h2, decide_eq_false fun z => by rcases List.mem_cons.mp z with z | z; exact h z.symm; exact h2 z]
theorem dp_ints {K : PySem.W.Frag} {H : Hp} : ∀ ns : List Int, DpAll K H (ns.map V.int) (ns.map PyData.int)
  | [] => .nil
  | n :: r => .cons (.int n) (dp_ints r)
theorem dp_tup {K : PySem.W.Frag} {H : Hp} {G : Addr → Prop} {x : V} {ns : List Int} (h : isTupI H G x ns) : Dp K H x (tupD ns) := by
  obtain ⟨t, rfl, _, h⟩ := h
  exact .tup (.inl (.inl h)) (dp_ints ns)
theorem dp_all {K : PySem.W.Frag} {H : Hp} {α : Type} {F : V → α → Prop} {f : α → PyData} (hf : ∀ x y, F x y → Dp K H x (f y)) : ∀ {xs : List V} {ys : List α}, Paired F xs ys → DpAll K H xs (ys.map f)
  | _, _, .nil => .nil
  | _, _, .cons r t => .cons (hf _ _ r) (dp_all hf t)
/-! ### bad tuples: distinct tuples of values of a scope -/
def rowVals (kvs : List (Key × V)) (sc : List Str) (sz : Str → Int) : Prop := ∀ x ∈ sc, valV kvs (Sum.inr x) = some (.int (sz x)) ∧ 1 ≤ sz x ∧ sz x ≤ 6
def okVals (sc : List Str) (sz : Str → Int) (ns : List Int) : Prop := ns.length = sc.length ∧ ∀ (i : Nat) (x : Str) (v : Int), sc[i]? = some x → ns[i]? = some v → 0 ≤ v ∧ v < sz x

end K38
namespace K38
open PySem PySem.Spec PyProof.Rows L2 TL
/-! ### variables and events, drawn -/
def NewTo (H : Hp) (b : Addr) : Addr → Prop := fun t => H t = none ∧ t ≠ b
theorem ints_at {ns : List Int} {i : Int} (h0 : 0 ≤ i) (h1 : i < (ns.length : Int)) : ∃ v : Int, atI (ns.map V.int) i = some (.int v) ∧ v ∈ ns := by
  obtain ⟨v, hv, _⟩ := atI_in (xs := ns) h0 h1
  refine ⟨v, ?_, List.mem_of_getElem? hv⟩
  have e : ((i.toNat : Nat) : Int) = i := Int.toNat_of_nonneg h0
  have := atI_nat (xs := ns.map V.int) (j := i.toNat) (v := .int v) (by rw [List.getElem?_map, hv]; rfl)
  rw [e] at this
  exact this
def kvL (L : List (Str × Int)) : List (Key × V) := L.map fun q => (Sum.inr q.1, V.int q.2)
theorem kvL_val (L : List (Str × Int)) (x : Str) : valV (kvL L) (Sum.inr x) = (L.find? fun q => decide (q.1 = x)).map fun q => V.int q.2 := by
  unfold kvL valV
  rw [List.find?_map, Option.map_map]
  have e : ((fun kv : Key × V => decide (kv.1 = Sum.inr x)) ∘ fun q : Str × Int => ((Sum.inr q.1 : Key), V.int q.2)) = fun q => decide (q.1 = x) := by
    funext q
    show decide ((Sum.inr q.1 : Key) = Sum.inr x) = _
    by_cases h : q.1 = x
    · rw [h]; simp
    · rw [decide_eq_false h, decide_eq_false fun z => h (Sum.inr.inj z)]
  rw [e]
  rfl
theorem find_mem {L : List (Str × Int)} {x : Str} (h : x ∈ L.map (·.1)) : ∃ q ∈ L, q.1 = x ∧ (L.find? fun q => decide (q.1 = x)) = some q := by
  cases e : L.find? fun q => decide (q.1 = x) with
  | none =>
    obtain ⟨q, hq, ex⟩ := List.mem_map.mp h
    have := List.find?_eq_none.mp e q hq
    exact absurd (decide_eq_true ex) this
  | some q =>
    have h1 := List.find?_some e
    exact ⟨q, List.mem_of_find?_eq_some e, of_decide_eq_true h1, rfl⟩
theorem sizes_val {L : List (Str × Int)} (h : VarsOk L) {x : Str} (hx : x ∈ L.map (·.1)) : valV (kvL L) (Sum.inr x) = some (.int (sizeOf L x)) ∧ 1 ≤ sizeOf L x ∧ sizeOf L x ≤ 6 := by
  obtain ⟨q, hq, _, e⟩ := find_mem hx
  have hs : sizeOf L x = q.2 := by unfold sizeOf; rw [e]; rfl
  rw [kvL_val, e, hs]
  exact ⟨rfl, h.sz q hq⟩
theorem merge_new : ∀ (more kvs : List (Key × V)), (more.map (·.1)).Nodup → (∀ k ∈ more.map (·.1), k ∉ kvs.map (·.1)) → mergeK kvs more = kvs ++ more
  | [], kvs, _, _ => by simp [mergeK]
  | (k, v) :: r, kvs, nd, dj => by
    rw [List.map_cons, List.nodup_cons] at nd
    have hk : putK kvs k v = kvs ++ [(k, v)] := by
      unfold putK
      rw [if_neg]
      intro h
      obtain ⟨p, hp, e⟩ := List.any_eq_true.mp h
      exact dj k (by simp) (List.mem_map.mpr ⟨p, hp, of_decide_eq_true e⟩)
    show mergeK (putK kvs k v) r = _
    rw [hk, merge_new r _ nd.2 fun k' hk' hm => ?_, List.append_assoc]
    · rfl
    · rw [List.map_append] at hm
      rcases List.mem_append.mp hm with h | h
      · exact dj k' (List.mem_cons_of_mem _ hk') h
      · have : k' = k := by simpa using h
        rw [this] at hk'
        exact nd.1 hk'
theorem kvL_keys (L : List (Str × Int)) : (kvL L).map (·.1) = (L.map (·.1)).map Sum.inr := by
  unfold kvL
  rw [List.map_map, List.map_map]
  rfl
theorem inr_nodup {l : List Str} (h : l.Nodup) : (l.map (Sum.inr : Str → Key)).Nodup := by
  rw [List.nodup_iff_pairwise_ne, List.pairwise_map]
  exact (List.nodup_iff_pairwise_ne.mp h).imp fun {a b} z e => z (Sum.inr.inj e)
theorem merge_kvL {L : List (Str × Int)} (h : VarsOk L) : mergeK [] (kvL L) = kvL L := by
  rw [merge_new _ _ (by rw [kvL_keys]; exact inr_nodup h.nd) fun k _ hm => by cases hm]
  rfl
theorem pair_addrs {H : Hp} {G : Addr → Prop} : ∀ {xs : List V} {L : List (Str × Int)}, Paired (isPair H G) xs L → ∃ ps : List Addr, xs = ps.map V.ref ∧ ∀ K : PySem.W.Frag, Paired (fun p (kv : Key × V) => SqT K H p [kV kv.1, kv.2]) ps (kvL L)
  | _, _, .nil => ⟨[], rfl, fun _ => .nil⟩
  | _, _, .cons ⟨t, e, _, h⟩ r => by
    obtain ⟨ps, e2, p2⟩ := pair_addrs r
    exact ⟨t :: ps, by rw [e, e2]; rfl, fun K => .cons (.inl (.inl h)) (p2 K)⟩
theorem inV_str (l : List Str) (y : Str) : inV (.str y) (l.map V.str) = decide (y ∈ l) := by
  unfold inV
  induction l with
  | nil => rfl
  | cons a r ih =>
    rw [List.map_cons, List.any_cons, ih]
    show (a == y || decide (y ∈ r)) = _
    by_cases h : a = y
    · subst h; simp
    · have : (a == y) = false := by simpa using h
      rw [this, Bool.false_or]
      by_cases h2 : y ∈ r
      · rw [decide_eq_true h2, decide_eq_true (List.mem_cons_of_mem _ h2)]
      · rw [decide_eq_false h2, decide_eq_false fun z => by rcases List.mem_cons.mp z with z | z; exact h z.symm; exact h2 z]
theorem flat_str (l : List Str) : (l.map V.str).all flatV = true := by
  rw [List.all_map, List.all_eq_true]
  intro x _; rfl
theorem cutV0 (xs : List V) (k : Nat) : cutV xs none (some (k : Int)) = xs.take k := by
  unfold cutV
  rw [HT.sIx_nat, HT.sIx_none, List.drop_zero, Nat.sub_zero]
  rw [← List.take_take, List.take_length]

end K38
namespace K38
open PySem PySem.Spec PyProof.Rows L2 TL
/-! ### what names, integers, lists are -/
theorem a97 : (Str.ofString "a").cps.toList = [97] := by decide +kernel
theorem z122 : (Str.ofString "z").cps.toList = [122] := by decide +kernel
theorem ge_chr (c d : Nat) : (!decide ([c] < [d])) = decide (d ≤ c) := by
  rw [show decide ([c] < [d]) = decide (c < d) by rw [decide_eq_decide, List.cons_lt_cons_iff]; simp, ← decide_not, decide_eq_decide]; omega
theorem kit_ii {K : PySem.W.Frag} : PySem.W.kitOne K (.type "int") (.type "int") = some true := kit_ty (show kitB "int" "int" = some true by decide +kernel)
theorem kit_ib {K : PySem.W.Frag} : PySem.W.kitOne K (.type "int") (.type "bool") = some false := kit_ty (show kitB "int" "bool" = some false by decide +kernel)
theorem kit_ss {K : PySem.W.Frag} : PySem.W.kitOne K (.type "str") (.type "str") = some true := kit_ty (show kitB "str" "str" = some true by decide +kernel)
theorem kit_tt {K : PySem.W.Frag} : PySem.W.kitOne K (.type "tuple") (.type "tuple") = some true := kit_ty (show kitB "tuple" "tuple" = some true by decide +kernel)
theorem kit_ll {K : PySem.W.Frag} : PySem.W.kitOne K (.type "list") (.type "list") = some true := kit_ty (show kitB "list" "list" = some true by decide +kernel)
theorem kit_tl {K : PySem.W.Frag} : PySem.W.kitOne K (.type "tuple") (.type "list") = some false := kit_ty (show kitB "tuple" "list" = some false by decide +kernel)
theorem kitA_l {K : PySem.W.Frag} : PySem.W.kitAny K (.type "list") [.type "list", .type "tuple"] = some true := by
  simp only [PySem.W.kitAny, kit_ll]
theorem kitA_t {K : PySem.W.Frag} : PySem.W.kitAny K (.type "tuple") [.type "list", .type "tuple"] = some true := by
  simp only [PySem.W.kitAny, kit_tl, kit_tt]
/-- a list or a tuple: one that stands here, or the empty one of the program's own text -/
def Sq (K : PySem.W.Frag) (H : Hp) (a : Addr) (xs : List V) : Prop := H a = some (.lst xs) ∨ H a = some (.tup xs) ∨ (EXV.IsE K a ∧ xs = [])
section
variable {K : PySem.W.Frag} {H H' : Hp} {a : Addr} {xs : List V}
theorem Sq.sq (h : Sq K H a xs) : SqL K H a xs ∨ SqT K H a xs := by
  rcases h with h | h | ⟨h, rfl⟩
  · exact .inl (SqL.of h)
  · exact .inr (.inl (.inl h))
  · exact .inr (h.sq H)
theorem Sq.same (h : Sq K H a xs) (s : Same H H') : Sq K H' a xs := by
  rcases h with h | h | h
  · exact .inl (s _ _ h)
  · exact .inr (.inl (s _ _ h))
  · exact .inr (.inr h)
theorem Sq.kit (h : Sq K H a xs) : ∃ t, TyX K H (.ref a) t ∧ PySem.W.kitAny K t [.type "list", .type "tuple"] = some true := by
  rcases h with h | h | ⟨⟨o, n, h1, h2, _⟩, _⟩
  · exact ⟨_, .base (.lst h), kitA_l⟩
  · exact ⟨_, .base (.tup h), kitA_t⟩
  · exact ⟨_, .kTuple h1 h2, kitA_t⟩
theorem sq_same (h : SqL K H a xs ∨ SqT K H a xs) (s : Same H H') : SqL K H' a xs ∨ SqT K H' a xs := (Kp.at fun o e => s a o e).sq h
theorem LT.s {F : Addr → Prop} (h : LT H F a xs) : Sq K H a xs := by
  obtain ⟨_, h | h⟩ := h
  · exact .inl h
  · exact .inr (.inl h)
theorem TyX.same {v : V} {t : Value} (h : TyX K H v t) (s : Same H H') : TyX K H' v t := by
  cases h with
  | base h =>
    cases h with
    | non => exact .base .non
    | bl b => exact .base (.bl b)
    | int i => exact .base (.int i)
    | str z => exact .base (.str z)
    | flt z => exact .base (.flt z)
    | lst e => exact .base (.lst (s _ _ e))
    | frz e => exact .base (.frz (s _ _ e))
    | tup e => exact .base (.tup (s _ _ e))
    | dK e => exact .base (.dK (s _ _ e))
    | dT e => exact .base (.dT (s _ _ e))
    | ins e c ha hn ht hm => exact .base (.ins (s _ _ e) c ha hn ht hm)
  | byt b => exact .byt b
  | set e => exact .set (s _ _ e)
  | kList e c => exact .kList e c
  | kTuple e c => exact .kTuple e c
  | kDict e c => exact .kDict e c
  | fTuple e => exact .fTuple (s _ _ e)
  | fDict e => exact .fDict (s _ _ e)
theorem kp_same {b : Addr} (s : Same H H') : Kp K b H H' := Kp.at fun o e => s b o e
end
theorem or_walkA {K : PySem.W.Frag} {tl : TE} {σ : L2.St} {H0 H : Hp} {R : It → Hp → Prop} {a : Addr} {xs : List V} (ht : ∀ R' : VK, R' (.ref a) H → tl σ H R') (hS : SqL K H0 a xs ∨ SqT K H0 a xs) (k0 : ∀ o, H0 a = some o → H a = some o)
    (h : ∀ (J : It) (G : Hp → Prop), Walk J xs.length G (YAt xs) → (∀ H', (∀ o, H0 a = some o → H' a = some o) → G H') → R J H) : iList K tl σ H R ∨ iTup K tl σ H R := by
  rcases hS with hS | hS
  · exact .inl (ht _ ⟨a, rfl, ⟨xs, (Kp.at k0).1 xs hS⟩, h _ _ walk_list fun H' k => (Kp.at k).1 xs hS⟩)
  · exact .inr (ht _ ⟨a, rfl, ⟨xs, (Kp.at k0).2 xs hS⟩, h _ _ walk_tup fun H' k => (Kp.at k).2 xs hS⟩)
theorem walk_zipM {K : PySem.W.Frag} {a b : Addr} {xs ys : List V} : Walk (Itzm K a b xs ys) (min xs.length ys.length) (fun H => SqT K H a xs ∧ SqL K H b ys) (YPair (fun i => xs[i]?) (fun i => ys[i]?)) :=
  ⟨fun _ _ hi q => ⟨q, hi⟩, fun _ q => ⟨q, Nat.le_refl _⟩, fun _ _ _ _ _ _ y => y⟩
def sp_isname : Sp := fun vs H Q _ => ∃ s : Str, vs = [.str s] ∧ NameOk s ∧ ∀ H', Same H H' → Q (.bl true) H'
theorem ok_is_name {P : Program} {w : World} {K : PySem.W.Frag} {mg : Str → Option Value} {base : Heap} (T : Txt P K mg) : FnOk P w K mg base CX0 1 T.f_is_name T.fd_is_name ["value"] (sp_isname) := by
  refine T.F_is_name.ok sc_is_name (fun vs H Q E h => ?_) (fun cdv A outer s H vs Q E hr h => ?_)
  · obtain ⟨_, rfl, _⟩ := h; rfl
  · obtain ⟨z, rfl, ⟨n1, n2, n3⟩, q⟩ := h
    refine ⟨_, PSs.nox (pss_cons (ps_if (PW.pt (pw_or (pt_not (pt_val (pe_callB (show CallR _ _ (rIsi K) from call_isi) (by rfl) T.n_isinstance (by decide +kernel) (pa_cons (pv 0) (pa_cons (pe_bltn (v := .ty "str") (by rfl) T.n_str (by decide +kernel) rfl) pa_nil))))) (pw_or1 (pt_not (pt_chain op_le op_le pe_int (pe_callB call_len_str (by rfl) T.n_len (by decide +kernel) (pa_cons (pv 0) pa_nil)) pe_int))))) (pss_one (ps_ret pe_bl)) pss_nil)
      (pss_one (ps_ret (pe_callB (show CallR _ _ (rAll K) from cr_all rfl) (by rfl) T.n_all (by decide +kernel) (pa_cons (pe_lc (own := [("letter", 1)]) (g := gName 1) rfl sc_is_name.nd (pi_str (pv 0)) (blkOk_by (own := [("letter", 1)]) (N := N_is_name) (sc := defScope s_is_name) (by decide +kernel)) (fun _ _ _ _ _ => (pg_name (i := 1) sc_is_name.nd rfl (Or.inl rfl))) (fun _ _ _ _ _ => pts_nil) (fun _ _ _ _ _ => (pe_chain op_le_str op_le_str pe_str (pv 1) pe_str))) pa_nil))))), ?_⟩
    have zl : z.length = (tl z).length := len_tl z
    refine ⟨_, rfl, _, _, _, _, _, rfl, .ty _, .base (.str _), kit_ss, _, rfl, ?_⟩
    refine ⟨_, rfl, z, rfl, slen (by omega), _, _, rfl, rfl, _, rfl, ite2 (fun e1 => ?_) (fun e1 => absurd (decide_eq_true (by omega)) e1)⟩
    refine ⟨_, _, rfl, rfl, _, rfl, ite2 (fun e2 => absurd (decide_eq_true (show (z.length : Int) ≤ 8 by omega)) (by simpa using e2)) (fun e2 => ?_)⟩
    refine ⟨_, rfl, z, rfl, fun D nD => lc_it walk_str (fun i H' => H' D = some (.lst (List.replicate i (.bl true))) ∧ Same H H') ⟨upd_same, Same.new nD⟩ (fun _ _ _ _ => trivial) (fun i x H' H'' hi p y => ?_) (fun H' p => ?_)⟩
    · obtain ⟨p1, p2⟩ := p
      obtain ⟨rfl, c, hc, rfl⟩ := y
      have cm : c ∈ tl z := Array.mem_toList_iff.mpr (Array.mem_of_getElem? hc)
      have cb := n3 c cm
      have il : i < z.length := hi
      refine ⟨rfl, _, rfl, _, _, rfl, rfl, _, rfl, ite2 (fun e3 => ?_) (fun e3 => absurd (by rw [a97, ge_chr]; exact decide_eq_true cb.1) e3)⟩
      refine ⟨_, _, rfl, rfl, ?_⟩
      have el : (!decide ((Str.ofString "z").cps.toList < (⟨#[c]⟩ : Str).cps.toList)) = true := by
        rw [z122, ge_chr]; exact decide_eq_true cb.2
      rw [el]
      exact ⟨_, p1, by rw [List.length_replicate, sizeLine_eq]; omega, by rw [upd_same, List.replicate_succ'], Same.upd_p p2 nD⟩
    · obtain ⟨p1, p2⟩ := p
      refine ⟨D, List.replicate z.cps.size true, rfl, SqL.of (by rw [p1, List.map_replicate]), ?_⟩
      have : (List.replicate z.cps.size true).all id = true := by simp
      rw [this]
      exact q H' p2
/-- not an integer: isinstance says no, or it is a bool -/
def NotI (K : PySem.W.Frag) (H : Hp) (u : V) : Prop := ∃ t, TyX K H u t ∧ (PySem.W.kitOne K t (.type "int") = some false ∨ (PySem.W.kitOne K t (.type "int") = some true ∧ PySem.W.kitOne K t (.type "bool") = some true))
theorem NotI.same {K : PySem.W.Frag} {H H' : Hp} {u : V} (h : NotI K H u) (s : Same H H') : NotI K H' u := by
  obtain ⟨t, ty, k⟩ := h
  exact ⟨t, TyX.same ty s, k⟩
def sp_anyint (K : PySem.W.Frag) : Sp := fun vs H Q _ => ∃ v, vs = [v] ∧ ((∃ i : Int, v = .int i ∧ Q (.bl true) H) ∨ (NotI K H v ∧ Q (.bl false) H))
theorem ok_is_any_integer {P : Program} {w : World} {K : PySem.W.Frag} {mg : Str → Option Value} {base : Heap} (T : Txt P K mg) : FnOk P w K mg base CX0 1 T.f_is_any_integer T.fd_is_any_integer ["value"] (sp_anyint K) := by
  refine T.F_is_any_integer.ok sc_is_any_integer (fun vs H Q E h => ?_) (fun cdv A outer s H vs Q E hr h => ?_)
  · obtain ⟨_, rfl, _⟩ := h; rfl
  · obtain ⟨v, rfl, q⟩ := h
    refine ⟨_, PSs.nox (pss_one (ps_ret (pe_and (pe_callB (show CallR _ _ (rIsi K) from call_isi) (by rfl) T.n_isinstance (by decide +kernel) (pa_cons (pv 0) (pa_cons (pe_bltn (v := .ty "int") (by rfl) T.n_int (by decide +kernel) rfl) pa_nil))) (pe_one (pe_not (pe_callB (show CallR _ _ (rIsi K) from call_isi) (by rfl) T.n_isinstance (by decide +kernel) (pa_cons (pv 0) (pa_cons (pe_bltn (v := .ty "bool") (by rfl) T.n_bool (by decide +kernel) rfl) pa_nil)))))))), ?_⟩
    rcases q with ⟨i, rfl, q⟩ | ⟨⟨t, ty, k | ⟨k, k2⟩⟩, q⟩
    · exact ⟨_, rfl, _, _, _, _, _, rfl, .ty _, .base (.int i), kit_ii, _, rfl, _, rfl, _, _, _, _, _, rfl, .ty _, .base (.int i), kit_ib, _, rfl, q⟩
    · exact ⟨_, rfl, _, _, t, _, _, rfl, .ty _, ty, k, _, rfl, q⟩
    · exact ⟨_, rfl, _, _, t, _, _, rfl, .ty _, ty, k, _, rfl, _, rfl, _, _, t, _, _, rfl, .ty _, ty, k2, _, rfl, q⟩
def inI (lo hi : Int) : V → Bool | .int i => decide (lo ≤ i) && decide (i ≤ hi) | _ => false
def sp_isint (K : PySem.W.Frag) : Sp := fun vs H Q _ => ∃ (v : V) (lo hi : Int), vs = [v, .int lo, .int hi] ∧ ((∃ i, v = .int i) ∨ NotI K H v) ∧ Q (.bl (inI lo hi v)) H
theorem NotI.no {K : PySem.W.Frag} {H : Hp} {i : Int} (h : NotI K H (.int i)) : False := by
  obtain ⟨t, ty, k⟩ := h
  cases ty with
  | base b =>
    cases b
    rw [kit_ii, kit_ib] at k
    rcases k with k | ⟨_, k⟩ <;> cases k
theorem NotI.inI {K : PySem.W.Frag} {H : Hp} {v : V} (h : NotI K H v) (lo hi : Int) : inI lo hi v = false := by
  cases v with
  | int i => exact absurd h fun z => z.no
  | _ => rfl
theorem ok_is_integer {P : Program} {w : World} {K : PySem.W.Frag} {mg : Str → Option Value} {base : Heap} (T : Txt P K mg) : FnOk P w K mg base CX0 2 T.f_is_integer T.fd_is_integer ["value", "low", "high"] (sp_isint K) := by
  refine T.F_is_integer.ok sc_is_integer (fun vs H Q E h => ?_) (fun cdv A outer s H vs Q E hr h => ?_)
  · obtain ⟨_, _, _, rfl, _⟩ := h; rfl
  · obtain ⟨v, lo, hi, rfl, h1, q⟩ := h
    refine ⟨_, PSs.nox (pss_one (ps_ret (pe_and (pe_call (ok_is_any_integer T) (hr.mono (by decide)) (by rfl) T.g_is_any_integer T.F_is_any_integer.kp (b_is_any_integer T) .nil pass0 (pa_cons (pv 0) pa_nil)) (pe_one (pe_chain op_le op_le (pv 1) (pv 0) (pv 2)))))), ?_⟩
    rcases h1 with ⟨i, rfl⟩ | h1
    · refine ⟨_, rfl, _, rfl, .inl ⟨i, rfl, _, rfl, ?_⟩⟩
      have en : inI lo hi (.int i) = (decide (lo ≤ i) && decide (i ≤ hi)) := rfl
      rw [en] at q
      refine ⟨_, rfl, _, rfl, _, _, rfl, rfl, _, rfl, ite2 (fun e1 => ?_) (fun e1 => ?_)⟩
      · rw [e1, Bool.true_and] at q
        exact ⟨_, rfl, _, _, rfl, rfl, q⟩
      · rw [Bool.eq_false_iff.mpr e1, Bool.false_and] at q
        exact q
    · rw [h1.inI] at q
      exact ⟨_, rfl, _, rfl, .inr ⟨h1, _, rfl, q⟩⟩
def sp_islist (K : PySem.W.Frag) : Sp := fun vs H Q _ => ∃ (a : Addr) (xs : List V) (lo hi : Int), vs = [.ref a, .int lo, .int hi] ∧ Sq K H a xs ∧ lo ≤ xs.length ∧ xs.length ≤ hi ∧ ∀ H', Same H H' → Q (.bl true) H'
theorem ok_is_list {P : Program} {w : World} {K : PySem.W.Frag} {mg : Str → Option Value} {base : Heap} (T : Txt P K mg) : FnOk P w K mg base CX0 1 T.f_is_list T.fd_is_list ["value", "low", "high"] (sp_islist K) := by
  refine T.F_is_list.ok sc_is_list (fun vs H Q E h => ?_) (fun cdv A outer s H vs Q E hr h => ?_)
  · obtain ⟨_, _, _, _, rfl, _⟩ := h; rfl
  · obtain ⟨a, xs, lo, hi, rfl, hS, h1, h2, q⟩ := h
    refine ⟨_, PSs.nox (pss_one (ps_ret (pe_and (pe_callB (show CallR _ _ (rIsiT K) from call_isiT) (by rfl) T.n_isinstance (by decide +kernel) (pa_cons (pv 0) (pa_cons (pe_tup (pa_cons (pe_bltn (v := .ty "list") (by rfl) T.n_list (by decide +kernel) rfl) (pa_cons (pe_bltn (v := .ty "tuple") (by rfl) T.n_tuple (by decide +kernel) rfl) pa_nil))) pa_nil))) (pe_one (pe_chain op_le op_le (pv 1) (pe_callB (show CallR _ _ (rLenSeq K) from call_len_seq) (by rfl) T.n_len (by decide +kernel) (pa_cons (pv 0) pa_nil)) (pv 2)))))), ?_⟩
    refine ⟨_, rfl, lenk 2 rfl (by decide), fun tp ntp => ?_⟩
    have sm : Same H (upd H tp (.tup [.ty "list", .ty "tuple"])) := Same.new ntp
    have ht : upd H tp (.tup [.ty "list", .ty "tuple"]) tp = some (.tup [.ty "list", .ty "tuple"]) := upd_same
    obtain ⟨t, ty, kk⟩ := (hS.same sm).kit
    refine ⟨_, tp, _, t, _, _, rfl, ht, .cons (.ty _) (.cons (.ty _) .nil), ty, kk, _, rfl, ?_⟩
    refine ⟨_, rfl, _, rfl, a, _, rfl, (hS.same sm).sq, _, _, rfl, rfl, _, rfl, ite2 (fun e1 => ?_) (fun e1 => absurd (decide_eq_true h1) e1)⟩
    refine ⟨_, rfl, _, _, rfl, rfl, ?_⟩
    show Q (.bl (decide ((xs.length : Int) ≤ hi))) _
    rw [decide_eq_true h2]
    exact q _ sm
def sp_distinct (K : PySem.W.Frag) : Sp := fun vs H Q _ => ∃ (a : Addr) (ns : List Str), vs = [.ref a] ∧ (SqL K H a (ns.map V.str) ∨ SqT K H a (ns.map V.str)) ∧ ns.Nodup ∧ ns.length ≤ 8 ∧ ∀ H', Same H H' → Q .non H'
theorem val_none {α : Type} {l : List α} {f : α → Str} {g : α → V} {x : Str} (h : x ∉ l.map f) : valV (l.map fun y => ((Sum.inr (f y) : Key), g y)) (Sum.inr x) = none := by
  unfold valV
  rw [Option.map_eq_none_iff, List.find?_eq_none]
  intro kv hkv e
  obtain ⟨y, hy, rfl⟩ := List.mem_map.mp hkv
  exact h (List.mem_map.mpr ⟨y, hy, Sum.inr.inj (of_decide_eq_true e)⟩)
theorem not_mem_take {α : Type} {l : List α} (nd : l.Nodup) {i : Nat} (hi : i < l.length) : l[i] ∉ l.take i := by
  intro h
  obtain ⟨j, hj⟩ := List.getElem?_of_mem h
  obtain ⟨lj, gj⟩ := List.getElem?_eq_some_iff.mp hj
  rw [List.length_take] at lj
  rw [List.getElem_take] at gj
  have n1 := List.nodup_iff_pairwise_ne.mp nd
  rw [List.pairwise_iff_getElem] at n1
  exact n1 j i (by omega) hi (by omega) gj
theorem str_at' {sc : List Str} {j : Nat} {x : V} (h : (sc.map V.str)[j]? = some x) : ∃ hj : j < sc.length, x = .str sc[j] := by
  rw [List.getElem?_map] at h
  cases e : sc[j]? with
  | none => rw [e] at h; cases h
  | some y =>
    rw [e] at h
    obtain ⟨hj, ey⟩ := List.getElem?_eq_some_iff.mp e
    exact ⟨hj, by rw [ey]; exact (Option.some.inj h).symm⟩
theorem take_snoc {α : Type} {l : List α} {i : Nat} (hi : i < l.length) : l.take (i + 1) = l.take i ++ [l[i]] := by
  rw [List.take_succ, List.getElem?_eq_getElem hi]; rfl
theorem ok_check_distinct {P : Program} {w : World} {K : PySem.W.Frag} {mg : Str → Option Value} {base : Heap} (T : Txt P K mg) : FnOk P w K mg base CX0 1 T.f_check_distinct T.fd_check_distinct ["names"] (sp_distinct K) := by
  refine T.F_check_distinct.ok sc_check_distinct (fun vs H Q E h => ?_) (fun cdv A outer s H vs Q E hr h => ?_)
  · obtain ⟨_, _, rfl, _⟩ := h; rfl
  · obtain ⟨a, ns, rfl, hS, nd, n8, q⟩ := h
    refine ⟨_, PSs.nox (pss_cons (ps_set (i := 1) sc_check_distinct.nd rfl (Or.inl rfl) pe_dnewK)
      (pss_one (ps_for PassesOwn.never rfl (pi_or (pi_list (pv 0)) (pi_tup (pv 0))) (pg_name (i := 2) sc_check_distinct.nd rfl (Or.inl rfl)) (pss_cons (ps_if (pt_cmp (pc_din (hu_of hr) (pv 2) (pv 1))) (pss_one ps_never) pss_nil)
      (pss_one (ps_asg pe_bl (pg_sub (pv 1) (pv 2) (set_dict (hu_of hr))))))))), ?_⟩
    intro D nD
    refine or_walkA (fun R' h => ⟨_, rfl, h⟩) hS (fun o e => Same.new nD a o e) fun J G w g => for_it w (fun i σ H' => ∃ x2, σ = [some (.ref a), some (.ref D), x2] ∧ Same H H' ∧ H' D = some (.dK ((ns.take i).map fun x => (Sum.inr x, .bl true)))) ?_ ?_ ?_ ?_
    · exact ⟨_, rfl, Same.new nD, upd_same⟩
    · rintro i σ H' _ ⟨x2, rfl, s1, hD⟩
      exact g H' (s1 a)
    · rintro i x σ Hx H' hi ⟨x2, rfl, s1, hD⟩ ⟨rfl, hx⟩
      obtain ⟨hj, rfl⟩ := str_at' hx
      have hn := val_none (l := ns.take i) (f := id) (g := fun _ => .bl true) (x := ns[i]) (by rw [List.map_id]; exact not_mem_take nd hj)
      replace hn : valV ((ns.take i).map fun x => ((Sum.inr x : Key), V.bl true)) (Sum.inr ns[i]) = none := hn
      have dg : DGet H' D (.str ns[i]) none := by rw [← hn]; exact DGet.k (k := Sum.inr ns[i]) hD
      refine ⟨_, rfl, _, rfl, D, _, rfl, dg, _, rfl, ?_⟩
      refine ⟨_, rfl, _, rfl, D, _, rfl, DPut.k (k := Sum.inr ns[i]) hD (by rw [List.length_map, List.length_take, sizeLine_eq]; omega), ?_⟩
      refine ⟨_, rfl, Same.upd_p s1 nD, ?_⟩
      rw [upd_same, putK_new _ hn, take_snoc hj, List.map_append]
      rfl
    · rintro σ H' ⟨x2, rfl, s1, hD⟩
      exact q H' s1

end K38
namespace K38
open PySem PySem.Spec PyProof.Rows L2 TL
/-! ### bad tuples in ascending order -/
theorem code_inj {B : Int} : ∀ {r q : List Int}, r.length = q.length → TS.Bd B r → TS.Bd B q → TS.code B r ≤ TS.code B q → TS.code B q ≤ TS.code B r → r = q
  | [], [], _, _, _, _, _ => rfl
  | [], _ :: _, h, _, _, _, _ => by simp at h
  | _ :: _, [], h, _, _, _, _ => by simp at h
  | d :: r, e :: q, hl, hr, hq, h1, h2 => by
    have hl' : r.length = q.length := by simpa using hl
    have he : d = e := by
      rcases Int.lt_trichotomy d e with h | h | h
      · have := TS.code_lt (B := B) hl' hr.tail hq.tail h; omega
      · exact h
      · have := TS.code_lt (B := B) hl'.symm hq.tail hr.tail h; omega
    subst he
    have a1 : ¬ TS.code B q < TS.code B r := fun h => by have := (TS.code_same (B := B) (d := d) hl'.symm).mpr h; omega
    have a2 : ¬ TS.code B r < TS.code B q := fun h => by have := (TS.code_same (B := B) (d := d) hl').mpr h; omega
    rw [code_inj hl' hr.tail hq.tail (by omega) (by omega)]
def Srt (bad out : List (List Int)) : Prop := out.Perm bad ∧ out.Pairwise fun x y => TS.code 6 x ≤ TS.code 6 y
theorem Srt.uniq {bad o1 o2 : List (List Int)} {d : Nat} (hb : ∀ ns ∈ bad, ns.length = d ∧ TS.Bd 6 ns) (h1 : Srt bad o1) (h2 : Srt bad o2) : o1 = o2 :=
  List.Perm.eq_of_pairwise (fun a b ha hb' l1 l2 => code_inj ((hb a (h1.1.mem_iff.mp ha)).1.trans (hb b (h2.1.mem_iff.mp hb')).1.symm) (hb a (h1.1.mem_iff.mp ha)).2 (hb b (h2.1.mem_iff.mp hb')).2 l1 l2) h1.2 h2.2 (h1.1.trans h2.1.symm)
theorem row_bd {L : List (Str × Int)} (ok : VarsOk L) {r : Row} (h : RowOk L r) : ∀ ns ∈ r.2.2, ns.length = r.2.1.length ∧ TS.Bd 6 ns := fun ns hns => by
  refine ⟨h.bl ns hns, fun v hv => ?_⟩
  obtain ⟨i, hi⟩ := List.getElem?_of_mem hv
  obtain ⟨li, _⟩ := List.getElem?_eq_some_iff.mp hi
  rw [h.bl ns hns] at li
  have hx := List.getElem?_eq_getElem li
  obtain ⟨a, b⟩ := h.bv ns hns i _ v hx hi
  have := (sizes_val ok (h.sub _ (List.getElem_mem li))).2.2
  omega
def intOf : V → Int | .int i => i | _ => 0
def rdT (H : Hp) : V → List Int | .ref t => (match H t with | some (.tup vs) => vs.map intOf | _ => []) | _ => []
theorem rdT_is {H : Hp} {G : Addr → Prop} {x : V} {ns : List Int} (h : isTupI H G x ns) : rdT H x = ns := by
  obtain ⟨t, rfl, _, ht⟩ := h
  unfold rdT
  simp only [ht, List.map_map]
  have : (intOf ∘ V.int) = id := rfl
  rw [this, List.map_id]
theorem pd_mem {α β : Type} {F : α → β → Prop} : ∀ {l₁ : List α} {l₂ : List β}, Paired F l₁ l₂ → ∀ x ∈ l₁, ∃ y ∈ l₂, F x y
  | _, _, .nil, _, h => by cases h
  | _, _, .cons r t, x, h => by
    rcases List.mem_cons.mp h with rfl | h
    · exact ⟨_, List.mem_cons_self, r⟩
    · obtain ⟨y, hy, f⟩ := pd_mem t x h
      exact ⟨y, List.mem_cons_of_mem _ hy, f⟩
theorem map_rdT {H : Hp} {G : Addr → Prop} : ∀ {xs : List V} {bad : List (List Int)}, Paired (isTupI H G) xs bad → xs.map (rdT H) = bad
  | _, _, .nil => rfl
  | _, _, .cons r t => by rw [List.map_cons, rdT_is r, map_rdT t]
theorem pd_all {α β : Type} {F : α → β → Prop} (f : α → β) : ∀ {l : List α}, (∀ x ∈ l, F x (f x)) → Paired F l (l.map f)
  | [], _ => .nil
  | x :: r, h => .cons (h x List.mem_cons_self) (pd_all f fun z hz => h z (List.mem_cons_of_mem _ hz))
theorem sort_out {H : Hp} {G : Addr → Prop} {xs ys : List V} {bad : List (List Int)} (pd : Paired (isTupI H G) xs bad) (pm : ys.Perm xs) (pw : ys.Pairwise fun x y => TS.code 6 (rdT H x) ≤ TS.code 6 (rdT H y)) :
    Srt bad (ys.map (rdT H)) ∧ Paired (isTupI H G) ys (ys.map (rdT H)) := by
  refine ⟨⟨?_, ?_⟩, pd_all _ fun x hx => ?_⟩
  · rw [← map_rdT pd]; exact pm.map _
  · rw [List.pairwise_map]; exact pw
  · obtain ⟨ns, _, h⟩ := pd_mem pd x (pm.mem_iff.mp hx)
    rw [rdT_is h]; exact h
theorem sort_in {K : PySem.W.Frag} {H : Hp} {G : Addr → Prop} {xs : List V} {bad : List (List Int)} {d : Nat} (pd : Paired (isTupI H G) xs bad) (hb : ∀ ns ∈ bad, ns.length = d ∧ TS.Bd 6 ns) :
    ∀ x ∈ xs, ∃ t, x = V.ref t ∧ SqT K H t ((rdT H x).map V.int) ∧ (rdT H x).length = d ∧ TS.Bd 6 (rdT H x) := fun x hx => by
  obtain ⟨ns, hns, h⟩ := pd_mem pd x hx
  obtain ⟨h1, h2⟩ := hb ns hns
  rw [rdT_is h]
  obtain ⟨t, rfl, _, ht⟩ := h
  exact ⟨t, rfl, .inl (.inl ht), h1, h2⟩
/-! ### neighbors -/
def share (a b : List Str) : Bool := a.any fun x => decide (x ∈ b)
def nbs (R : List Row) (r : Row) : List Str := (R.filter fun s => (!decide (s.1 = r.1)) && share r.2.1 s.2.1).map (·.1)
abbrev Ent := Str × Addr × Addr
def kvS (E : List Ent) : List (Key × V) := E.map fun q => ((Sum.inr q.1 : Key), V.ref q.2.1)
def kvB (E : List Ent) : List (Key × V) := E.map fun q => ((Sum.inr q.1 : Key), V.ref q.2.2)
theorem val_map {α : Type} (f : α → Str) (g : α → V) : ∀ {l : List α} {x : α}, (l.map f).Nodup → x ∈ l → valV (l.map fun y => ((Sum.inr (f y) : Key), g y)) (Sum.inr (f x)) = some (g x)
  | y :: r, x, nd, h => by
    rw [List.map_cons, List.nodup_cons] at nd
    rcases List.mem_cons.mp h with rfl | h
    · exact valV_pos rfl
    · have ne : f y ≠ f x := fun e => nd.1 (by rw [e]; exact List.mem_map.mpr ⟨x, h, rfl⟩)
      rw [List.map_cons, valV_neg (fun z => ne (Sum.inr.inj z))]
      exact val_map f g nd.2 h
theorem Same.none {H H' : Hp} {p : Addr} (s : Same H H') (h : H' p = none) : H p = none := by
  cases e : H p with
  | none => rfl
  | some o => rw [s _ _ e] at h; cases h
def scAt (H : Hp) (q : Ent) (r : Row) : Prop := q.1 = r.1 ∧ H q.2.1 = some (.lst (r.2.1.map V.str))
theorem sc_keys {H : Hp} : ∀ {E : List Ent} {R : List Row}, Paired (scAt H) E R → E.map (·.1) = R.map (·.1)
  | _, _, .nil => rfl
  | _, _, .cons r t => by rw [List.map_cons, List.map_cons, r.1, sc_keys t]
theorem dec_vstr {x y : Str} : decide (V.str x = V.str y) = decide (x = y) := by
  by_cases h : x = y
  · subst h; simp
  · rw [decide_eq_false h, decide_eq_false fun z => h (V.str.inj z)]
def sp_nb : Sp := fun vs H Q _ => ∃ (d : Addr) (o : Obj) (E : List Ent) (R : List Row) (r : Row), vs = [.str r.1, .ref d] ∧ H d = some (.frz o (.dK (kvS E))) ∧ R.length ≤ 8 ∧ (R.map (·.1)).Nodup ∧ r ∈ R ∧ Paired (scAt H) E R ∧ (∀ r ∈ R, r.2.1.length ≤ 4) ∧
  ∀ p H', Same H H' → H p = none → H' p = some (.lst ((nbs R r).map V.str)) → Q (.ref p) H'
theorem ok__neighbors_of {P : Program} {w : World} {K : PySem.W.Frag} {mg : Str → Option Value} {base : Heap} (T : Txt P K mg) : FnOk P w K mg base CX0 1 T.f__neighbors_of T.fd__neighbors_of ["event", "scopes"] (sp_nb) := by
  refine T.F__neighbors_of.ok sc__neighbors_of (fun vs H Q E h => ?_) (fun cdv A outer s H vs Q E hr h => ?_)
  · obtain ⟨_, _, _, _, _, rfl, _⟩ := h; rfl
  · obtain ⟨d, o, E, R, r, rfl, hd, r8, nd, hr', pd, l4, qq⟩ := h
    have lE := pd.length
    have ndE : (E.map (·.1)).Nodup := by rw [sc_keys pd]; exact nd
    obtain ⟨ir, hir⟩ := List.getElem?_of_mem hr'
    obtain ⟨q, hq, eq, hsc⟩ := pd_get' pd hir
    have mq := List.mem_of_getElem? hq
    have r4 := l4 r hr'
    refine ⟨_, PSs.nox (pss_cons (ps_set (i := 2) sc__neighbors_of.nd rfl (Or.inl rfl) (pe_lst pa_nil))
      (pss_cons (ps_for PassesOwn.never rfl (pi_items (pv 1)) (pg_tup rfl (pgs_cons (pg_name (i := 3) sc__neighbors_of.nd rfl (Or.inl rfl)) (pgs_cons (pg_name (i := 4) sc__neighbors_of.nd rfl (Or.inr rfl)) pgs_nil))) (pss_one (ps_if (PW.pt (pw_and (pt_cmpR op_ne (pv 3) (pv 0) (nomark _)) (pw_and1 (pt_val (pe_callB (show CallR _ _ (rAny K) from cr_any rfl) (by rfl) T.n_any (by decide +kernel) (pa_cons (pe_lc (own := [("variable", 5)]) (g := gName 5) rfl sc__neighbors_of.nd (pi_list (pe_dget (hu_of hr) (pv 1) (pv 0) (fun _ _ => rfl))) (blkOk_by (own := [("variable", 5)]) (N := N__neighbors_of) (sc := defScope s__neighbors_of) (by decide +kernel)) (fun _ _ _ _ _ => (pg_name (i := 5) sc__neighbors_of.nd rfl (Or.inl rfl))) (fun _ _ _ _ _ => pts_nil) (fun _ _ _ _ _ => (pe_cmpR (show OpR _ (compareOp .In) (rIn K false) from op_in_seq) (pv 5) (pv 4) (by first | rfl | with_unfolding_all rfl)))) pa_nil)))))) (pss_one (ps_expr (pe_bm PySem.F.plainAttrs_list PySem.F.slot_list_append PySem.F.type_list_append mt_append (pv 2) (pa_cons (pv 3) pa_nil)))) pss_nil)))
      (pss_one (ps_ret (pv 2))))), ?_⟩
    refine ⟨Nat.zero_le _, fun p np => ?_⟩
    refine ⟨_, rfl, d, o, kvS E, rfl, Same.new np _ _ hd, for_it walk_items (fun i σ H' => ∃ x3 x4, σ = [some (.str r.1), some (.ref d), some (.ref p), x3, x4, none] ∧ Same H H' ∧ H' p = some (.lst ((nbs (R.take i) r).map V.str))) ?_ ?_ ?_ ?_⟩
    · exact ⟨_, _, rfl, Same.new np, upd_same⟩
    · rintro i σ H' _ ⟨x3, x4, rfl, s1, hp⟩
      exact s1 _ _ hd
    · rintro i x σ H1 H2 hi ⟨x3, x4, rfl, s1, hp⟩ ⟨T, y1, y2, rfl, nT, rfl, e1, e2⟩
      have li : i < E.length := by unfold kvS at hi; rwa [List.length_map] at hi
      have liR : i < R.length := by omega
      obtain ⟨w, hw, ew, hsc2⟩ := pd_get pd (List.getElem?_eq_getElem li)
      obtain ⟨_, ew2⟩ := List.getElem?_eq_some_iff.mp hw
      have eq1 : (kvS E)[i]? = some (Sum.inr w.1, V.ref E[i].2.1) := by unfold kvS; rw [List.getElem?_map, List.getElem?_eq_getElem li, ← ew]; rfl
      simp only [eq1, Option.map_some] at e1 e2
      cases e1
      cases e2
      have s2 := Same.upd_p (o := .tup [kV (Sum.inr w.1), .ref E[i].2.1]) s1 (Same.none s1 nT)
      have hp2 : upd H1 T (.tup [kV (Sum.inr w.1), .ref E[i].2.1]) p = some (.lst ((nbs (R.take i) r).map V.str)) := by rw [upd_ne (ne_of_none hp nT)]; exact hp
      have hT2 : upd H1 T (.tup [kV (Sum.inr w.1), .ref E[i].2.1]) T = some (.tup [kV (Sum.inr w.1), .ref E[i].2.1]) := upd_same
      generalize upd H1 T (.tup [kV (Sum.inr w.1), .ref E[i].2.1]) = H2 at s2 hp2 hT2
      have e3 : nbs (R.take (i + 1)) r = nbs (R.take i) r ++ (if ((!decide (w.1 = r.1)) && share r.2.1 w.2.1) = true then [w.1] else []) := by
        unfold nbs
        rw [take_snoc liR, ew2, List.filter_append, List.map_append]
        congr 1
        by_cases h : ((!decide (w.1 = r.1)) && share r.2.1 w.2.1) = true
        · rw [if_pos h, List.filter_cons, if_pos h]; rfl
        · rw [if_neg h, List.filter_cons, if_neg h]; rfl
      have skip : ((!decide (w.1 = r.1)) && share r.2.1 w.2.1) = false → nbs (R.take (i + 1)) r = nbs (R.take i) r := fun h => by rw [e3, h]; simp
      have ln : (nbs (R.take i) r).length ≤ 8 := by
        unfold nbs
        rw [List.length_map]
        have := List.length_filter_le (fun s : Row => (!decide (s.1 = r.1)) && share r.2.1 s.2.1) (R.take i)
        rw [List.length_take] at this
        omega
      refine ⟨T, _, rfl, .inl (.inl hT2), rfl, _, _, rfl, _, _, rfl, rfl, ?_⟩
      refine ⟨_, rfl, _, rfl, rfl, _, rfl, ite2 (fun c => ?_) (fun c => ⟨_, _, rfl, s2, by
        have c' : (!decide (w.1 = r.1)) = false := by rw [← dec_vstr]; exact Bool.eq_false_iff.mpr c
        rw [skip (by rw [c', Bool.false_and])]
        exact hp2⟩)⟩
      have dg : DGet H2 d (.str r.1) (some (.ref q.2.1)) := .inl ⟨kvS E, Sum.inr r.1, .inr ⟨o, s2 _ _ hd⟩, rfl, by rw [← eq]; exact (val_map (fun q => q.1) (fun q => V.ref q.2.1) ndE mq).symm⟩
      refine ⟨_, rfl, _, rfl, d, _, rfl, dg, q.2.1, rfl, ⟨_, SqL.of (s2 _ _ hsc)⟩, fun D nD => ?_⟩
      refine lc_it (walk_list (K := K) (a := q.2.1) (xs := r.2.1.map V.str)) (fun j H' => H' D = some (.lst (((r.2.1.take j).map fun x => decide (x ∈ w.2.1)).map V.bl)) ∧ Same H2 H') ⟨upd_same, Same.new nD⟩ ?_ ?_ ?_
      · rintro j H' _ ⟨h1, h3⟩
        exact SqL.of (h3 _ _ (s2 _ _ hsc))
      · rintro j x H3 H4 hj ⟨h1, h3⟩ ⟨rfl, hx⟩
        rw [List.length_map] at hj
        obtain ⟨lj, rfl⟩ := str_at' hx
        refine ⟨rfl, _, rfl, _, rfl, E[i].2.1, _, rfl, .inl (SqL.of (h3 _ _ (s2 _ _ hsc2))), rfl, flat_str _, _, h1, by rw [List.length_map, List.length_map, List.length_take, sizeLine_eq]; omega, ?_, Same.upd_p h3 nD⟩
        rw [upd_same, inV_str, take_snoc lj, List.map_append, List.map_append]; rfl
      · rintro H3 ⟨h1, h3⟩
        rw [List.length_map, List.take_length] at h1
        refine ⟨D, r.2.1.map (fun x => decide (x ∈ w.2.1)), rfl, SqL.of h1, _, rfl, ?_⟩
        have es : (r.2.1.map fun x => decide (x ∈ w.2.1)).any id = share r.2.1 w.2.1 := by unfold share; rw [List.any_map]; rfl
        rw [es]
        have c' : (!decide (w.1 = r.1)) = true := by rw [← dec_vstr]; exact c
        by_cases hs : share r.2.1 w.2.1 = true
        · rw [hs]
          refine iteT ⟨_, rfl, .inl ⟨rfl, _, SqL.of (h3 _ _ hp2)⟩, _, rfl, p, _, _, rfl, rfl, h3 _ _ hp2, by rw [List.length_map, sizeLine_eq]; omega, ?_⟩
          refine ⟨_, _, rfl, Same.upd_p (s2.trans h3) np, ?_⟩
          rw [upd_same, e3, c', hs, if_pos (show (true && true) = true from rfl), List.map_append]; rfl
        · have hs' : share r.2.1 w.2.1 = false := Bool.eq_false_iff.mpr hs
          rw [hs']
          exact iteF ⟨_, _, rfl, s2.trans h3, by rw [skip (by rw [hs', Bool.and_false])]; exact h3 _ _ hp2⟩
    · rintro σ H' ⟨x3, x4, rfl, s1, hp⟩
      refine ⟨_, rfl, qq p H' s1 np ?_⟩
      have : (kvS E).length = R.length := by unfold kvS; rw [List.length_map, lE]
      rw [this, List.take_length] at hp
      exact hp

end K38
namespace K38
open PySem PySem.Spec PyProof.Rows L2 TL
/-! ### a problem that stands -/
def pfl (av ds dp ae dsc dbt dn : Addr) : List (Str × V) :=
  putF "_neighbors" (.ref dn) (putF "_bad_tuples" (.ref dbt) (putF "_scopes" (.ref dsc) (putF "_events" (.ref ae) (putF "_places" (.ref dp) (putF "_sizes" (.ref ds) (putF "_variables" (.ref av) []))))))
section
variable (av ds dp ae dsc dbt dn : Addr)
theorem pfl_variables : (pfl av ds dp ae dsc dbt dn).lookup ("_variables" : Str) = some (.ref av) := by
  unfold pfl
  iterate 6 refine (lookup_putF ..).trans ((if_neg (by decide +kernel)).trans ?_)
  exact (lookup_putF ..).trans (if_pos rfl)
theorem pfl_sizes : (pfl av ds dp ae dsc dbt dn).lookup ("_sizes" : Str) = some (.ref ds) := by
  unfold pfl
  iterate 5 refine (lookup_putF ..).trans ((if_neg (by decide +kernel)).trans ?_)
  exact (lookup_putF ..).trans (if_pos rfl)
theorem pfl_events : (pfl av ds dp ae dsc dbt dn).lookup ("_events" : Str) = some (.ref ae) := by
  unfold pfl
  iterate 3 refine (lookup_putF ..).trans ((if_neg (by decide +kernel)).trans ?_)
  exact (lookup_putF ..).trans (if_pos rfl)
theorem pfl_scopes : (pfl av ds dp ae dsc dbt dn).lookup ("_scopes" : Str) = some (.ref dsc) := by
  unfold pfl
  iterate 2 refine (lookup_putF ..).trans ((if_neg (by decide +kernel)).trans ?_)
  exact (lookup_putF ..).trans (if_pos rfl)
theorem pfl_bad : (pfl av ds dp ae dsc dbt dn).lookup ("_bad_tuples" : Str) = some (.ref dbt) := by
  unfold pfl
  iterate 1 refine (lookup_putF ..).trans ((if_neg (by decide +kernel)).trans ?_)
  exact (lookup_putF ..).trans (if_pos rfl)
end
def isEv (H : Hp) (F : Addr → Prop) (x : V) (q : Ent) : Prop := ∃ t, x = .ref t ∧ F t ∧ H t = some (.tup [.str q.1, .ref q.2.1, .ref q.2.2])
def isEnt (H : Hp) (F G : Addr → Prop) (q : Ent) (r : Row) : Prop := q.1 = r.1 ∧ F q.2.1 ∧ F q.2.2 ∧ H q.2.1 = some (.lst (r.2.1.map V.str)) ∧ ∃ ys out, H q.2.2 = some (.lst ys) ∧ Srt r.2.2 out ∧ Paired (isTupI H G) ys out
def kvN (N : List (Str × Addr)) : List (Key × V) := N.map fun q => ((Sum.inr q.1 : Key), V.ref q.2)
def isNb (H : Hp) (F : Addr → Prop) (R : List Row) (z : Str × Addr) (r : Row) : Prop := z.1 = r.1 ∧ F z.2 ∧ H z.2 = some (.lst ((nbs R r).map V.str))
def NbAt (H : Hp) (F : Addr → Prop) (R : List Row) (dn : Addr) : Prop := ∃ N, F dn ∧ H dn = some (.dK (kvN N)) ∧ Paired (isNb H F R) N R
def kvP (L : List (Str × Int)) : List (Key × V) := (L.map (·.1)).zipIdx.map fun z => ((Sum.inr z.1 : Key), V.int ((z.2 : Nat) : Int))
def PlAt (H : Hp) (F : Addr → Prop) (L : List (Str × Int)) (dp : Addr) : Prop := F dp ∧ H dp = some (.dK (kvP L))
def IsP (C : Addr) (H : Hp) (F G : Addr → Prop) (p : Addr) (L : List (Str × Int)) (R : List Row) : Prop := ∃ (dx av ds dp ae dsc dbt dn : Addr) (E : List Ent) (xs es : List V),
  H p = some (.ins C dx (pfl av ds dp ae dsc dbt dn)) ∧ (F p ∧ F av ∧ F ds ∧ F ae ∧ F dsc ∧ F dbt ∧ NbAt H F R dn ∧ PlAt H F L dp) ∧ (H av = some (.lst xs) ∧ Paired (isPair H G) xs L) ∧ H ds = some (.dK (kvL L)) ∧
  (H ae = some (.lst es) ∧ Paired (isEv H F) es E ∧ Paired (isEnt H F G) E R) ∧ H dsc = some (.dK (kvS E)) ∧ H dbt = some (.dK (kvB E))
section
variable {C : Addr} {H H' : Hp} {F F' G W : Addr → Prop}
theorem isEv.mv {x : V} {q : Ent} (h : isEv H F x q) (m : Mv W H H') (d : ∀ a, F a → ¬ W a) : isEv H' F x q := by
  obtain ⟨t, e, f, h⟩ := h
  exact ⟨t, e, f, m _ _ (d _ f) h⟩
theorem isEnt.mv {q : Ent} {r : Row} (h : isEnt H F G q r) (m : Mv W H H') (d : ∀ a, F a → ¬ W a) (d' : ∀ a, G a → ¬ W a) : isEnt H' F G q r := by
  obtain ⟨e, f1, f2, h1, ys, out, h2, s, pd⟩ := h
  exact ⟨e, f1, f2, m _ _ (d _ f1) h1, ys, out, m _ _ (d _ f2) h2, s, Paired.mono (fun _ _ z => z.mv m d') pd⟩
theorem isEv.wk {x : V} {q : Ent} (h : isEv H F x q) (f : ∀ a, F a → F' a) : isEv H F' x q := by
  obtain ⟨t, e, g, h⟩ := h
  exact ⟨t, e, f _ g, h⟩
theorem isEnt.wk {q : Ent} {r : Row} (h : isEnt H F G q r) (f : ∀ a, F a → F' a) : isEnt H F' G q r := by
  obtain ⟨e, f1, f2, h1, h2⟩ := h
  exact ⟨e, f _ f1, f _ f2, h1, h2⟩
theorem isNb.mv {R : List Row} {z : Str × Addr} {r : Row} (h : isNb H F R z r) (m : Mv W H H') (d : ∀ a, F a → ¬ W a) : isNb H' F R z r := ⟨h.1, h.2.1, m _ _ (d _ h.2.1) h.2.2⟩
theorem NbAt.mv {R : List Row} {dn : Addr} (h : NbAt H F R dn) (m : Mv W H H') (d : ∀ a, F a → ¬ W a) : NbAt H' F R dn := by
  obtain ⟨N, f, h1, h2⟩ := h
  exact ⟨N, f, m _ _ (d _ f) h1, Paired.mono (fun _ _ z => z.mv m d) h2⟩
theorem IsP.mv {p : Addr} {L : List (Str × Int)} {R : List Row} (h : IsP C H F G p L R) (m : Mv W H H') (d : ∀ a, F a → ¬ W a) (d' : ∀ a, G a → ¬ W a) : IsP C H' F G p L R := by
  obtain ⟨dx, av, ds, dp, ae, dsc, dbt, dn, E, xs, es, hp, ⟨f1, f2, f3, f4, f5, f6, f7⟩, ⟨h1, h2⟩, h3, ⟨h4, h5, h6⟩, h7, h8⟩ := h
  exact ⟨dx, av, ds, dp, ae, dsc, dbt, dn, E, xs, es, m _ _ (d _ f1) hp, ⟨f1, f2, f3, f4, f5, f6, f7.1.mv m d, f7.2.1, m _ _ (d _ f7.2.1) f7.2.2⟩, ⟨m _ _ (d _ f2) h1, Paired.mono (fun _ _ z => z.mv m d') h2⟩, m _ _ (d _ f3) h3,
    ⟨m _ _ (d _ f4) h4, Paired.mono (fun _ _ z => z.mv m d) h5, Paired.mono (fun _ _ z => z.mv m d d') h6⟩, m _ _ (d _ f5) h7, m _ _ (d _ f6) h8⟩
theorem IsP.same {p : Addr} {L : List (Str × Int)} {R : List Row} (h : IsP C H F G p L R) (m : Same H H') : IsP C H' F G p L R := h.mv (Mv.of_same m (W := fun _ => False)) (fun _ _ z => z) fun _ _ z => z
end
def Old (H : Hp) : Addr → Prop := fun a => ∃ o, H a = some o
def New (H : Hp) : Addr → Prop := fun a => H a = none
theorem isPair.old {H : Hp} {G : Addr → Prop} {x : V} {q : Str × Int} (h : isPair H G x q) : isPair H (Old H) x q := by
  obtain ⟨t, e, _, h⟩ := h
  exact ⟨t, e, ⟨_, h⟩, h⟩
theorem isTupI.old {H : Hp} {G : Addr → Prop} {x : V} {ns : List Int} (h : isTupI H G x ns) : isTupI H (Old H) x ns := by
  obtain ⟨t, e, _, h⟩ := h
  exact ⟨t, e, ⟨_, h⟩, h⟩
theorem LT.old {H : Hp} {F : Addr → Prop} {a : Addr} {xs : List V} (h : LT H F a xs) : LT H (Old H) a xs := ⟨h.2.elim (fun e => ⟨_, e⟩) fun e => ⟨_, e⟩, h.2⟩
theorem isRow.old {H : Hp} {F G : Addr → Prop} {x : V} {r : Row} (h : isRow H F G x r) : isRow H (Old H) (Old H) x r := by
  obtain ⟨p, a, b, ys, e, f, h, la, lb, hp⟩ := h
  exact ⟨p, a, b, ys, e, ⟨_, h⟩, h, la.old, lb.old, Paired.mono (fun _ _ z => z.old) hp⟩
theorem Mv.same_old {H H' : Hp} (s : Same H H') : ∀ a, Old H a → ∃ o, H' a = some o := fun a ⟨o, e⟩ => ⟨o, s _ _ e⟩
/-- what a dict's lock leaves -/
theorem Same.unlock {H H' : Hp} {d : Addr} {o : Obj} {u : HO} (h : H d = some u) (s : Same (upd H d (.frz o u)) H') : Same H (upd H' d u) := fun a v e => by
  by_cases ha : a = d
  · subst ha
    rw [h] at e
    cases e
    exact upd_same
  · rw [upd_ne ha]
    exact s a v (by rw [upd_ne ha]; exact e)
theorem frz_at {H H' : Hp} {d : Addr} {o : Obj} {u : HO} (s : Same (upd H d (.frz o u)) H') : H' d = some (.frz o u) := s _ _ upd_same
theorem kvL_take_len (L : List (Str × Int)) (i : Nat) : (kvL (L.take i)).length ≤ L.length := by
  unfold kvL; rw [List.length_map, List.length_take]; omega
theorem kvL_put {L : List (Str × Int)} (nd : (L.map (·.1)).Nodup) {i : Nat} (hi : i < L.length) : putK (kvL (L.take i)) (Sum.inr L[i].1) (.int L[i].2) = kvL (L.take (i + 1)) := by
  have hn := val_none (l := L.take i) (f := fun q => q.1) (g := fun q => V.int q.2) (x := L[i].1) (by
    have h := not_mem_take nd (i := i) (by rw [List.length_map]; exact hi)
    rw [List.getElem_map, ← List.map_take] at h
    exact h)
  unfold kvL
  rw [putK_new _ hn, take_snoc hi, List.map_append]
  rfl
theorem ent_put {g : Ent → V} {E : List Ent} (nd : (E.map (·.1)).Nodup) {i : Nat} (hi : i < E.length) : putK ((E.take i).map fun q => ((Sum.inr q.1 : Key), g q)) (Sum.inr E[i].1) (g E[i]) = (E.take (i + 1)).map fun q => ((Sum.inr q.1 : Key), g q) := by
  have hn := val_none (l := E.take i) (f := fun q => q.1) (g := g) (x := E[i].1) (by
    have h := not_mem_take nd (i := i) (by rw [List.length_map]; exact hi)
    rw [List.getElem_map, ← List.map_take] at h
    exact h)
  rw [putK_new _ hn, take_snoc hi, List.map_append]
  rfl

theorem kvP_snoc (L : List (Str × Int)) (q : Str × Int) : kvP (L ++ [q]) = kvP L ++ [((Sum.inr q.1 : Key), V.int ((L.length : Nat) : Int))] := by
  unfold kvP
  rw [List.map_append, List.zipIdx_append, List.map_append]
  simp
theorem zip_fst : ∀ (l : List Str) (k : Nat), (l.zipIdx k).map (fun z => (Sum.inr z.1 : Key)) = l.map Sum.inr
  | [], _ => rfl
  | x :: r, k => by rw [List.zipIdx_cons, List.map_cons, List.map_cons, zip_fst r (k + 1)]
theorem kvP_keys (L : List (Str × Int)) : (kvP L).map (·.1) = (L.map (·.1)).map Sum.inr := by
  unfold kvP
  rw [List.map_map]
  exact zip_fst _ 0
theorem kvP_len (L : List (Str × Int)) : (kvP L).length = L.length := by
  unfold kvP; simp
theorem kvP_put {L : List (Str × Int)} (nd : (L.map (·.1)).Nodup) {i : Nat} (hi : i < L.length) : putK (kvP (L.take i)) (Sum.inr L[i].1) (.int (i : Nat)) = kvP (L.take (i + 1)) := by
  have hn : valV (kvP (L.take i)) (Sum.inr L[i].1) = none := by
    unfold valV
    rw [Option.map_eq_none_iff, List.find?_eq_none]
    intro kv hkv e
    have h1 : kv.1 ∈ (kvP (L.take i)).map (·.1) := List.mem_map.mpr ⟨kv, hkv, rfl⟩
    rw [of_decide_eq_true e, kvP_keys] at h1
    obtain ⟨y, hy, e2⟩ := List.mem_map.mp h1
    cases (Sum.inr.inj e2)
    have h := not_mem_take nd (i := i) (by rw [List.length_map]; exact hi)
    rw [List.getElem_map, ← List.map_take] at h
    exact h hy
  rw [putK_new _ hn, take_snoc hi, kvP_snoc, List.length_take, Nat.min_eq_left (Nat.le_of_lt hi)]

end K38
namespace K38
open PySem PySem.Spec PyProof.Rows L2 TL
/-! ### the checks of variables and events, of good ones -/
def sp_vrow : Sp := fun vs H Q _ => ∃ (t : Addr) (q : Str × Int), vs = [.ref t] ∧ H t = some (.tup [.str q.1, .int q.2]) ∧ NameOk q.1 ∧ 1 ≤ q.2 ∧ q.2 ≤ 6 ∧ ∀ H', Same H H' → Q (.bl true) H'
theorem ok__is_variable_row {P : Program} {w : World} {K : PySem.W.Frag} {mg : Str → Option Value} {base : Heap} (T : Txt P K mg) : FnOk P w K mg base CX0 3 T.f__is_variable_row T.fd__is_variable_row ["row"] (sp_vrow) := by
  refine T.F__is_variable_row.ok sc__is_variable_row (fun vs H Q E h => ?_) (fun cdv A outer s H vs Q E hr h => ?_)
  · obtain ⟨_, _, rfl, _⟩ := h; rfl
  · obtain ⟨t, q, rfl, ht, hn, h1, h6, qq⟩ := h
    refine ⟨_, PSs.nox (pss_one (ps_ret (pe_and (pe_callB (show CallR _ _ (rIsi K) from call_isi) (by rfl) T.n_isinstance (by decide +kernel) (pa_cons (pv 0) (pa_cons (pe_bltn (v := .ty "tuple") (by rfl) T.n_tuple (by decide +kernel) rfl) pa_nil))) (pe_and (pe_cmpR op_eq (pe_callB (show CallR _ _ (rLenSeq K) from call_len_seq) (by rfl) T.n_len (by decide +kernel) (pa_cons (pv 0) pa_nil)) pe_int (nomark _)) (pe_and (pe_call (ok_is_name T) (hr.mono (by decide)) (by rfl) T.g_is_name T.F_is_name.kp (b_is_name T) .nil pass0 (pa_cons (pe_ix (show IxR _ (rIxT K) from ix_tup) (pv 0) pe_int (fun _ _ => rfl)) pa_nil)) (pe_one (pe_call (ok_is_integer T) (hr.mono (by decide)) (by rfl) T.g_is_integer T.F_is_integer.kp (b_is_integer T) .nil pass0 (pa_cons (pe_ix (show IxR _ (rIxT K) from ix_tup) (pv 0) pe_int (fun _ _ => rfl)) (pa_cons pe_int (pa_cons pe_int pa_nil)))))))))), ?_⟩
    refine ⟨_, rfl, _, _, _, _, _, rfl, .ty _, .base (.tup ht), kit_tt, _, rfl, ?_⟩
    refine ⟨_, rfl, t, _, rfl, .inr (.inl (.inl ht)), rfl, _, rfl, ?_⟩
    refine ⟨_, rfl, t, _, (0 : Int), _, rfl, rfl, .inl (.inl ht), rfl, q.1, rfl, hn, fun H1 s1 => ?_⟩
    have ht1 := s1 _ _ ht
    refine ⟨_, rfl, ?_⟩
    refine ⟨_, rfl, t, _, (1 : Int), _, rfl, rfl, .inl (.inl ht1), rfl, .int q.2, 1, 6, rfl, .inl ⟨q.2, rfl⟩, by show Q (.bl (decide (1 ≤ q.2) && decide (q.2 ≤ 6))) H1; rw [decide_eq_true h1, decide_eq_true h6]; exact qq _ s1⟩
def sp_vars (K : PySem.W.Frag) : Sp := fun vs H Q _ => ∃ (a : Addr) (xs : List V) (G : Addr → Prop) (L : List (Str × Int)), vs = [.ref a] ∧ Sq K H a xs ∧ Paired (isPair H G) xs L ∧ VarsOk L ∧ ∀ H', Same H H' → Q .non H'
theorem ok__check_variables {P : Program} {w : World} {K : PySem.W.Frag} {mg : Str → Option Value} {base : Heap} (T : Txt P K mg) : FnOk P w K mg base CX0 4 T.f__check_variables T.fd__check_variables ["variables"] (sp_vars K) := by
  refine T.F__check_variables.ok sc__check_variables (fun vs H Q E h => ?_) (fun cdv A outer s H vs Q E hr h => ?_)
  · obtain ⟨_, _, _, _, rfl, _⟩ := h; rfl
  · obtain ⟨a, xs, G, L, rfl, hS, pd, ok, q⟩ := h
    have lxs := pd.length
    have h1 := ok.pos
    have h8 := ok.few
    refine ⟨_, PSs.nox (pss_cons (ps_if (PW.pt (pw_or (pt_not (pt_val (pe_call (ok_is_list T) (hr.mono (by decide)) (by rfl) T.g_is_list T.F_is_list.kp (b_is_list T) .nil pass0 (pa_cons (pv 0) (pa_cons pe_int (pa_cons (pe_glob (v := .int 8) (by rfl) T.c_MOST_VARIABLES.choose_spec ⟨_, rfl⟩) pa_nil)))))) (pw_or1 (pt_not (pt_val (pe_callB (show CallR _ _ (rAll K) from cr_all rfl) (by rfl) T.n_all (by decide +kernel) (pa_cons (pe_lc (own := [("row", 3)]) (g := gName 3) rfl sc__check_variables.nd (pi_or (pi_list (pv 0)) (pi_tup (pv 0))) (blkOk_by (own := [("row", 3)]) (N := N__check_variables) (sc := defScope s__check_variables) (by decide +kernel)) (fun _ _ _ _ _ => (pg_name (i := 3) sc__check_variables.nd rfl (Or.inl rfl))) (fun _ _ _ _ _ => pts_nil) (fun _ _ _ _ _ => (pe_call (ok__is_variable_row T) (hr.mono (by decide)) (by rfl) T.g__is_variable_row T.F__is_variable_row.kp (b__is_variable_row T) .nil pass0 (pa_cons (pv 3) pa_nil)))) pa_nil))))))) (pss_one ps_never) pss_nil)
      (pss_one (ps_expr (pe_call (ok_check_distinct T) (hr.mono (by decide)) (by rfl) T.g_check_distinct T.F_check_distinct.kp (b_check_distinct T) .nil pass0 (pa_cons (pe_lc (own := [("name", 1), ("_", 2)]) (g := gTup K 2 (gCons (gName 1) (gCons (gName 2) gNil))) rfl sc__check_variables.nd (pi_or (pi_list (pv 0)) (pi_tup (pv 0))) (blkOk_by (own := [("name", 1), ("_", 2)]) (N := N__check_variables) (sc := defScope s__check_variables) (by decide +kernel)) (fun _ _ _ _ _ => (pg_tup rfl (pgs_cons (pg_name (i := 1) sc__check_variables.nd rfl (Or.inl rfl)) (pgs_cons (pg_name (i := 2) sc__check_variables.nd rfl (Or.inl rfl)) pgs_nil)))) (fun _ _ _ _ _ => pts_nil) (fun _ _ _ _ _ => (pv 1))) pa_nil))))), ?_⟩
    refine ⟨_, rfl, a, xs, 1, 8, rfl, hS, by omega, by omega, fun H1 s1 => ?_⟩
    refine ⟨_, rfl, ?_⟩
    refine or_walkA (fun R' h => ⟨_, rfl, h⟩) hS.sq (s1 a) fun J G1 w g D nD => ?_
    refine lc_it w (fun i H' => H' D = some (.lst (List.replicate i (.bl true))) ∧ Same H1 H') ⟨upd_same, Same.new nD⟩ (fun i H' _ p => g H' fun o e => p.2 a o (s1 a o e)) ?_ ?_
    · rintro i x H2 H3 hi ⟨p1, p2⟩ ⟨rfl, hx⟩
      obtain ⟨y, hy, t, rfl, _, ht⟩ := pd_get pd hx
      refine ⟨rfl, _, rfl, t, y, rfl, p2 _ _ (s1 _ _ ht), ok.nm y (List.mem_of_getElem? hy), (ok.sz y (List.mem_of_getElem? hy)).1, (ok.sz y (List.mem_of_getElem? hy)).2, fun H4 s4 => ?_⟩
      exact ⟨_, s4 _ _ p1, by rw [List.length_replicate, sizeLine_eq]; omega, by rw [upd_same, List.replicate_succ'], Same.upd_p (p2.trans s4) nD⟩
    · rintro H2 ⟨p1, p2⟩
      refine ⟨D, List.replicate xs.length true, rfl, SqL.of (by rw [p1, List.map_replicate]), ?_⟩
      have e : (List.replicate xs.length true).all id = true := by simp
      rw [e]
      refine ⟨_, rfl, ?_⟩
      have s2 := s1.trans p2
      refine or_walkA (fun R' h => ⟨_, rfl, h⟩) hS.sq (s2 a) fun J2 G2 w2 g2 D2 nD2 => ?_
      refine lc_it w2 (fun i H' => H' D2 = some (.lst ((L.take i).map fun z => V.str z.1)) ∧ Same H2 H') ⟨upd_same, Same.new nD2⟩ (fun i H' _ p => g2 H' fun o e => p.2 a o (s2 a o e)) ?_ ?_
      · rintro i x H3 H4 hi ⟨r1, r2⟩ ⟨rfl, hx⟩
        obtain ⟨y, hy, t, rfl, _, ht⟩ := pd_get pd hx
        have ht3 := r2 _ _ (s2 _ _ ht)
        refine ⟨t, _, rfl, .inl (.inl ht3), rfl, _, _, rfl, _, _, rfl, rfl, rfl, _, rfl, _, r1, by rw [List.length_map, List.length_take, sizeLine_eq]; omega, ?_, Same.upd_p r2 nD2⟩
        obtain ⟨li, ey⟩ := List.getElem?_eq_some_iff.mp hy
        rw [upd_same, take_snoc li, List.map_append, ey]; rfl
      · rintro H3 ⟨r1, r2⟩
        rw [lxs, List.take_length, show (L.map fun z => V.str z.1) = (L.map (·.1)).map V.str by rw [List.map_map]; rfl] at r1
        exact ⟨D2, L.map (·.1), rfl, .inl (SqL.of r1), ok.nd, by rw [List.length_map]; omega, fun H4 s4 => q H4 ((s2.trans r2).trans s4)⟩
def sp_var : Sp := fun vs H Q _ => ∃ (x : Str) (d : Addr) (kvs : List (Key × V)) (v : V), vs = [.str x, .ref d] ∧ H d = some (.dK kvs) ∧ valV kvs (Sum.inr x) = some v ∧ Q .non H
theorem ok__check_variable {P : Program} {w : World} {K : PySem.W.Frag} {mg : Str → Option Value} {base : Heap} (T : Txt P K mg) : FnOk P w K mg base CX0 1 T.f__check_variable T.fd__check_variable ["value", "sizes"] (sp_var) := by
  refine T.F__check_variable.ok sc__check_variable (fun vs H Q E h => ?_) (fun cdv A outer s H vs Q E hr h => ?_)
  · obtain ⟨_, _, _, _, rfl, _⟩ := h; rfl
  · obtain ⟨x, d, kvs, v, rfl, hd, hv, q⟩ := h
    refine ⟨_, PSs.nox (pss_one (ps_if (PW.pt (pw_or (pt_not (pt_val (pe_callB (show CallR _ _ (rIsi K) from call_isi) (by rfl) T.n_isinstance (by decide +kernel) (pa_cons (pv 0) (pa_cons (pe_bltn (v := .ty "str") (by rfl) T.n_str (by decide +kernel) rfl) pa_nil))))) (pw_or1 (pt_cmp (pc_dnotin (hu_of hr) (pv 0) (pv 1)))))) (pss_one ps_never) pss_nil)), ?_⟩
    have dg : DGet H d (.str x) (some v) := by rw [← hv]; exact DGet.k (k := Sum.inr x) hd
    exact ⟨_, rfl, _, _, _, _, _, rfl, .ty _, .base (.str _), kit_ss, _, rfl, _, rfl, _, rfl, d, _, rfl, dg, _, rfl, q⟩
def sp_chkscope (K : PySem.W.Frag) : Sp := fun vs H Q _ => ∃ (a d : Addr) (sc : List Str) (kvs : List (Key × V)), vs = [.ref a, .ref d] ∧ (SqL K H a (sc.map V.str) ∨ SqT K H a (sc.map V.str)) ∧ H d = some (.dK kvs) ∧ (∀ x ∈ sc, ∃ v, valV kvs (Sum.inr x) = some v) ∧ sc.Nodup ∧ sc.length ≤ 8 ∧ ∀ H', Same H H' → Q .non H'
theorem ok__check_scope {P : Program} {w : World} {K : PySem.W.Frag} {mg : Str → Option Value} {base : Heap} (T : Txt P K mg) : FnOk P w K mg base CX0 2 T.f__check_scope T.fd__check_scope ["scope", "sizes"] (sp_chkscope K) := by
  refine T.F__check_scope.ok sc__check_scope (fun vs H Q E h => ?_) (fun cdv A outer s H vs Q E hr h => ?_)
  · obtain ⟨_, _, _, _, rfl, _⟩ := h; rfl
  · obtain ⟨a, d, sc, kvs, rfl, hS, hd, hv, nd, s8, q⟩ := h
    refine ⟨_, PSs.nox (pss_cons (ps_for PassesOwn.never rfl (pi_or (pi_list (pv 0)) (pi_tup (pv 0))) (pg_name (i := 2) sc__check_scope.nd rfl (Or.inl rfl)) (pss_one (ps_expr (pe_call (ok__check_variable T) (hr.mono (by decide)) (by rfl) T.g__check_variable T.F__check_variable.kp (b__check_variable T) .nil pass0 (pa_cons (pv 2) (pa_cons (pv 1) pa_nil))))))
      (pss_one (ps_expr (pe_call (ok_check_distinct T) (hr.mono (by decide)) (by rfl) T.g_check_distinct T.F_check_distinct.kp (b_check_distinct T) .nil pass0 (pa_cons (pv 0) pa_nil))))), ?_⟩
    refine or_walkA (fun R' h => ⟨_, rfl, h⟩) hS (fun o e => e) fun J G w g => for_it w (fun i σ H' => ∃ x2, σ = [some (.ref a), some (.ref d), x2] ∧ H' = H) ?_ ?_ ?_ ?_
    · exact ⟨_, rfl, rfl⟩
    · rintro i σ H' _ ⟨x2, rfl, rfl⟩
      exact g _ fun o e => e
    · rintro i x σ Hx H' hi ⟨x2, rfl, rfl⟩ ⟨rfl, hx⟩
      obtain ⟨hj, rfl⟩ := str_at' hx
      obtain ⟨v, hv⟩ := hv _ (List.getElem_mem hj)
      exact ⟨_, rfl, _, rfl, _, d, kvs, v, rfl, hd, hv, _, rfl, rfl⟩
    · rintro σ H' ⟨x2, rfl, rfl⟩
      exact ⟨_, rfl, a, sc, rfl, hS, nd, s8, fun H' s' => q H' s'⟩
theorem int_at' {ns : List Int} {j : Nat} {x : V} (h : (ns.map V.int)[j]? = some x) : ∃ n, ns[j]? = some n ∧ x = .int n := by
  rw [List.getElem?_map] at h
  cases e : ns[j]? with
  | none => rw [e] at h; cases h
  | some y => rw [e] at h; exact ⟨y, rfl, (Option.some.inj h).symm⟩
/-- whether these are values, one for each of the sizes -/
def valsB (vs : List V) (zs : List Int) : Bool := decide (vs.length = zs.length) && (vs.zip zs).all fun z => inI 0 (z.2 - 1) z.1
theorem valsB_ok {ns zs : List Int} (l : ns.length = zs.length) (h : ∀ (i : Nat) (n z : Int), ns[i]? = some n → zs[i]? = some z → 0 ≤ n ∧ n < z) : valsB (ns.map V.int) zs = true := by
  unfold valsB
  rw [List.length_map, decide_eq_true l, Bool.true_and, List.all_eq_true]
  intro z hz
  obtain ⟨i, hi⟩ := List.getElem?_of_mem hz
  obtain ⟨h1, h2⟩ := List.getElem?_zip_eq_some.mp hi
  obtain ⟨n, hn, e⟩ := int_at' h1
  obtain ⟨a, b⟩ := h i n z.2 hn h2
  rw [e]
  show (decide (0 ≤ n) && decide (n ≤ z.2 - 1)) = true
  rw [decide_eq_true a, decide_eq_true (by omega)]; rfl
def sp_arevals (K : PySem.W.Frag) : Sp := fun vs H Q _ => ∃ (v : V) (p : Addr) (zs : List Int), vs = [v, .ref p] ∧ H p = some (.lst (zs.map V.int)) ∧ zs.length ≤ 8 ∧
  ((∃ ty, TyX K H v ty ∧ PySem.W.kitOne K ty (.type "tuple") = some false ∧ Q (.bl false) H) ∨
   ∃ t ws, v = .ref t ∧ H t = some (.tup ws) ∧ (∀ x ∈ ws, (∃ i, x = .int i) ∨ NotI K H x) ∧ ∀ H', Same H H' → Q (.bl (valsB ws zs)) H')
theorem ok__are_values {P : Program} {w : World} {K : PySem.W.Frag} {mg : Str → Option Value} {base : Heap} (T : Txt P K mg) : FnOk P w K mg base CX0 3 T.f__are_values T.fd__are_values ["value", "sizes"] (sp_arevals K) := by
  refine T.F__are_values.ok sc__are_values (fun vs H Q E h => ?_) (fun cdv A outer s H vs Q E hr h => ?_)
  · obtain ⟨_, _, _, rfl, _⟩ := h; rfl
  · obtain ⟨v, p, zs, rfl, hp, z8, h⟩ := h
    refine ⟨_, PSs.nox (pss_cons (ps_if (PW.pt (pw_or (pt_not (pt_val (pe_callB (show CallR _ _ (rIsi K) from call_isi) (by rfl) T.n_isinstance (by decide +kernel) (pa_cons (pv 0) (pa_cons (pe_bltn (v := .ty "tuple") (by rfl) T.n_tuple (by decide +kernel) rfl) pa_nil))))) (pw_or1 (pt_cmpR op_ne (pe_callB (show CallR _ _ (rLenSeq K) from call_len_seq) (by rfl) T.n_len (by decide +kernel) (pa_cons (pv 0) pa_nil)) (pe_callB (show CallR _ _ (rLenSeq K) from call_len_seq) (by rfl) T.n_len (by decide +kernel) (pa_cons (pv 1) pa_nil)) (nomark _))))) (pss_one (ps_ret pe_bl)) pss_nil)
      (pss_one (ps_ret (pe_callB (show CallR _ _ (rAll K) from cr_all rfl) (by rfl) T.n_all (by decide +kernel) (pa_cons (pe_lc (own := [("item", 2), ("size", 3)]) (g := gTup K 2 (gCons (gName 2) (gCons (gName 3) gNil))) rfl sc__are_values.nd (pi_zipM (by rfl) T.n_zip (pa_cons (pv 0) (pa_cons (pv 1) pa_nil))) (blkOk_by (own := [("item", 2), ("size", 3)]) (N := N__are_values) (sc := defScope s__are_values) (by decide +kernel)) (fun _ _ _ _ _ => (pg_tup rfl (pgs_cons (pg_name (i := 2) sc__are_values.nd rfl (Or.inl rfl)) (pgs_cons (pg_name (i := 3) sc__are_values.nd rfl (Or.inl rfl)) pgs_nil)))) (fun _ _ _ _ _ => pts_nil) (fun _ _ _ _ _ => (pe_call (ok_is_integer T) (hr.mono (by decide)) (by rfl) T.g_is_integer T.F_is_integer.kp (b_is_integer T) .nil pass0 (pa_cons (pv 2) (pa_cons pe_int (pa_cons (pe_op op_sub (pv 3) pe_int) pa_nil)))))) pa_nil))))), ?_⟩
    rcases h with ⟨ty, hty, k, q⟩ | ⟨t, ws, rfl, ht, hw, q⟩
    · exact ⟨_, rfl, _, _, ty, _, _, rfl, .ty _, hty, k, _, rfl, q⟩
    · refine ⟨_, rfl, _, _, _, _, _, rfl, .ty _, .base (.tup ht), kit_tt, _, rfl, ?_⟩
      refine ⟨_, rfl, t, _, rfl, .inr (.inl (.inl ht)), _, rfl, p, _, rfl, .inl (SqL.of hp), rfl, _, rfl, ite2 (fun e => ?_) (fun e => ?_)⟩
      · have ne : ¬ ws.length = zs.length := fun z => by rw [List.length_map, z] at e; simp at e
        have en : valsB ws zs = false := by unfold valsB; rw [decide_eq_false ne, Bool.false_and]
        rw [en] at q
        exact q H (Same.refl H)
      · have el : ws.length = zs.length := by
          rw [List.length_map] at e
          simp at e
          omega
        refine ⟨_, rfl, _, rfl, t, p, _, _, rfl, .inl (.inl ht), SqL.of hp, fun D nD => ?_⟩
        have mn : min ws.length (zs.map V.int).length = zs.length := by rw [List.length_map, el, Nat.min_self]
        refine lc_it walk_zipM (fun i H' => H' D = some (.lst ((((ws.zip zs).take i).map fun z => inI 0 (z.2 - 1) z.1).map V.bl)) ∧ Same H H') ⟨upd_same, Same.new nD⟩ (fun i H' _ p' => ⟨.inl (.inl (p'.2 _ _ ht)), SqL.of (p'.2 _ _ hp)⟩) ?_ ?_
        · rintro i x H2 H3 hi ⟨p1, p2⟩ ⟨T', x1, x2, rfl, nT, rfl, e1, e2⟩
          obtain ⟨z, hz, rfl⟩ := int_at' e2
          have mx := hw x1 (List.mem_of_getElem? e1)
          have li : i < (ws.zip zs).length := by rw [List.length_zip]; rw [List.length_map] at hi; exact hi
          have ez : (ws.zip zs)[i] = (x1, z) := by
            have := List.getElem?_zip_eq_some.mpr ⟨(show ws[i]? = some (x1, z).1 from e1), (show zs[i]? = some (x1, z).2 from hz)⟩
            exact (List.getElem?_eq_some_iff.mp this).2
          have hDT : upd H2 T' (.tup [x1, .int z]) D = some (.lst ((((ws.zip zs).take i).map fun z => inI 0 (z.2 - 1) z.1).map V.bl)) := by rw [upd_ne (ne_of_none p1 nT)]; exact p1
          have s3 := p2.trans (Same.new (o := .tup [x1, .int z]) nT)
          refine ⟨T', _, rfl, .inl (.inl upd_same), rfl, _, _, rfl, _, _, rfl, rfl, rfl, ?_⟩
          refine ⟨_, rfl, _, rfl, _, _, rfl, rfl, x1, 0, z - 1, rfl, mx.imp id fun h => h.same s3, ?_⟩
          refine ⟨_, hDT, by rw [List.length_map, List.length_map, List.length_take, sizeLine_eq]; omega, ?_, Same.upd_p s3 nD⟩
          rw [upd_same, take_snoc li, ez, List.map_append, List.map_append]; rfl
        · rintro H2 ⟨p1, p2⟩
          have lz : (ws.zip zs).length = min ws.length (zs.map V.int).length := by rw [List.length_zip, List.length_map]
          rw [← lz, List.take_length] at p1
          refine ⟨D, (ws.zip zs).map (fun z => inI 0 (z.2 - 1) z.1), rfl, SqL.of p1, ?_⟩
          have en : ((ws.zip zs).map fun z => inI 0 (z.2 - 1) z.1).all id = valsB ws zs := by
            unfold valsB; rw [decide_eq_true el, Bool.true_and, List.all_map]; rfl
          rw [en]
          exact q H2 p2

end K38
namespace K38
open PySem PySem.Spec PyProof.Rows L2 TL
theorem sizes_zs {L : List (Str × Int)} (ok : VarsOk L) {sc : List Str} (h : ∀ x ∈ sc, x ∈ L.map (·.1)) : ∀ x ∈ sc, valV (kvL L) (Sum.inr x) = some (.int (sizeOf L x)) := fun x hx => (sizes_val ok (h x hx)).1
def sp_arebad (K : PySem.W.Frag) : Sp := fun vs H Q _ => ∃ (a p : Addr) (ys : List V) (bad : List (List Int)) (G : Addr → Prop) (zs : List Int), vs = [.ref a, .ref p] ∧ Sq K H a ys ∧ Paired (isTupI H G) ys bad ∧ H p = some (.lst (zs.map V.int)) ∧ zs.length ≤ 8 ∧ bad.length ≤ 12 ∧ bad.Nodup ∧ (∀ ns ∈ bad, ns.length = zs.length) ∧
  (∀ ns ∈ bad, ∀ (i : Nat) (n z : Int), ns[i]? = some n → zs[i]? = some z → 0 ≤ n ∧ n < z) ∧ ∀ H', Same H H' → Q (.bl true) H'
theorem pd_take {α β : Type} {F : α → β → Prop} : ∀ {l₁ : List α} {l₂ : List β} (i : Nat), Paired F l₁ l₂ → Paired F (l₁.take i) (l₂.take i)
  | _, _, 0, _ => by simp only [List.take_zero]; exact .nil
  | _, _, _ + 1, .nil => .nil
  | _, _, i + 1, .cons r t => .cons r (pd_take i t)
theorem ok__are_bad_tuples {P : Program} {w : World} {K : PySem.W.Frag} {mg : Str → Option Value} {base : Heap} (T : Txt P K mg) : FnOk P w K mg base CX0 4 T.f__are_bad_tuples T.fd__are_bad_tuples ["bad_tuples", "sizes"] (sp_arebad K) := by
  refine T.F__are_bad_tuples.ok sc__are_bad_tuples (fun vs H Q E h => ?_) (fun cdv A outer s H vs Q E hr h => ?_)
  · obtain ⟨_, _, _, _, _, _, rfl, _⟩ := h; rfl
  · obtain ⟨a, p, ys, bad, G, zs, rfl, hS, pd, hp, z8, b12, nd, bl, bv, q⟩ := h
    have lys := pd.length
    refine ⟨_, PSs.nox (pss_cons (ps_set (i := 2) sc__are_bad_tuples.nd rfl (Or.inl rfl) (pe_lst pa_nil))
      (pss_cons (ps_for PassesOwn.never rfl (pi_or (pi_list (pv 0)) (pi_tup (pv 0))) (pg_name (i := 3) sc__are_bad_tuples.nd rfl (Or.inl rfl)) (pss_cons (ps_if (PW.pt (pw_or (pt_not (pt_val (pe_call (ok__are_values T) (hr.mono (by decide)) (by rfl) T.g__are_values T.F__are_values.kp (b__are_values T) .nil pass0 (pa_cons (pv 3) (pa_cons (pv 1) pa_nil))))) (pw_or1 (pt_cmpR (show OpR _ (compareOp .In) (rInD K) from op_inD (hu65 hr)) (pv 3) (pv 2) (by first | rfl | with_unfolding_all rfl))))) (pss_one (ps_ret pe_bl)) pss_nil)
      (pss_one (ps_expr (pe_bm PySem.F.plainAttrs_list PySem.F.slot_list_append PySem.F.type_list_append mt_append (pv 2) (pa_cons (pv 3) pa_nil))))))
      (pss_one (ps_ret pe_bl)))), ?_⟩
    refine ⟨Nat.zero_le _, fun l nl => ?_⟩
    refine or_walkA (fun R' h => ⟨_, rfl, h⟩) hS.sq (fun o e => Same.new nl a o e) fun J G1 w g => for_it w (fun i σ H' => ∃ x3, σ = [some (.ref a), some (.ref p), some (.ref l), x3] ∧ Same H H' ∧ H' l = some (.lst (ys.take i))) ?_ ?_ ?_ ?_
    · exact ⟨_, rfl, Same.new nl, upd_same⟩
    · rintro i σ H' _ ⟨x3, rfl, s1, hl⟩
      exact g H' (s1 a)
    · rintro i x σ Hx H' hi ⟨x3, rfl, s1, hl⟩ ⟨rfl, hx⟩
      obtain ⟨ns, hn, hT⟩ := pd_get pd hx
      obtain ⟨li, ens⟩ := List.getElem?_eq_some_iff.mp hn
      have hT' := hT
      obtain ⟨t, rfl, _, ht⟩ := hT'
      have mm := List.mem_of_getElem? hn
      refine ⟨_, rfl, _, rfl, .ref t, p, zs, rfl, s1 _ _ hp, z8, .inr ⟨t, _, rfl, s1 _ _ ht, fun x hx => (by obtain ⟨i, _, rfl⟩ := List.mem_map.mp hx; exact .inl ⟨i, rfl⟩), fun H2 s2 => ?_⟩⟩
      rw [valsB_ok (bl ns mm) (bv ns mm)]
      have s12 := s1.trans s2
      refine ⟨_, rfl, ?_⟩
      refine ⟨_, rfl, _, rfl, tupD ns, (bad.take i).map tupD, dp_tup (hT.same s12), .lst (SqL.of (s2 _ _ hl)) (dp_all (fun _ _ z => dp_tup z) (pd_take i (Paired.mono (fun _ _ z => isTupI.same z s12) pd))), (shd_tup ns).shaped (by decide), (shd_tups _).shaped (by decide), _, rfl, ?_⟩
      rw [any_tups, decide_eq_false (by rw [← ens]; exact not_mem_take nd li)]
      refine iteF ⟨_, rfl, .inl ⟨rfl, _, SqL.of (s2 _ _ hl)⟩, _, rfl, l, _, _, rfl, rfl, s2 _ _ hl, by rw [List.length_take, sizeLine_eq]; omega, ?_⟩
      obtain ⟨lj, ex⟩ := List.getElem?_eq_some_iff.mp hx
      exact ⟨_, rfl, Same.upd_p s12 nl, by rw [upd_same, take_snoc lj, ex]⟩
    · rintro σ H' ⟨x3, rfl, s1, hl⟩
      exact q H' s1
def sp_erow (K : PySem.W.Frag) : Sp := fun vs H Q _ => ∃ (t a b : Addr) (x : Str) (xs ys : List V), vs = [.ref t] ∧ H t = some (.tup [.str x, .ref a, .ref b]) ∧ NameOk x ∧ Sq K H a xs ∧ Sq K H b ys ∧ 1 ≤ xs.length ∧ xs.length ≤ 4 ∧ ys.length ≤ 12 ∧ ∀ H', Same H H' → Q (.bl true) H'
theorem ok__is_event_row {P : Program} {w : World} {K : PySem.W.Frag} {mg : Str → Option Value} {base : Heap} (T : Txt P K mg) : FnOk P w K mg base CX0 2 T.f__is_event_row T.fd__is_event_row ["row"] (sp_erow K) := by
  refine T.F__is_event_row.ok sc__is_event_row (fun vs H Q E h => ?_) (fun cdv A outer s H vs Q E hr h => ?_)
  · obtain ⟨_, _, _, _, _, _, rfl, _⟩ := h; rfl
  · obtain ⟨t, a, b, x, xs, ys, rfl, ht, hn, ha, hb, x1, x4, y12, q⟩ := h
    refine ⟨_, PSs.nox (pss_cons (ps_if (PW.pt (pw_or (pt_not (pt_val (pe_callB (show CallR _ _ (rIsi K) from call_isi) (by rfl) T.n_isinstance (by decide +kernel) (pa_cons (pv 0) (pa_cons (pe_bltn (v := .ty "tuple") (by rfl) T.n_tuple (by decide +kernel) rfl) pa_nil))))) (pw_or1 (pt_cmpR op_ne (pe_callB (show CallR _ _ (rLenSeq K) from call_len_seq) (by rfl) T.n_len (by decide +kernel) (pa_cons (pv 0) pa_nil)) pe_int (nomark _))))) (pss_one (ps_ret pe_bl)) pss_nil)
      (pss_one (ps_ret (pe_and (pe_call (ok_is_name T) (hr.mono (by decide)) (by rfl) T.g_is_name T.F_is_name.kp (b_is_name T) .nil pass0 (pa_cons (pe_ix (show IxR _ (rIxT K) from ix_tup) (pv 0) pe_int (fun _ _ => rfl)) pa_nil)) (pe_and (pe_call (ok_is_list T) (hr.mono (by decide)) (by rfl) T.g_is_list T.F_is_list.kp (b_is_list T) .nil pass0 (pa_cons (pe_ix (show IxR _ (rIxT K) from ix_tup) (pv 0) pe_int (fun _ _ => rfl)) (pa_cons pe_int (pa_cons pe_int pa_nil)))) (pe_one (pe_call (ok_is_list T) (hr.mono (by decide)) (by rfl) T.g_is_list T.F_is_list.kp (b_is_list T) .nil pass0 (pa_cons (pe_ix (show IxR _ (rIxT K) from ix_tup) (pv 0) pe_int (fun _ _ => rfl)) (pa_cons pe_int (pa_cons pe_int pa_nil)))))))))), ?_⟩
    refine ⟨_, rfl, _, _, _, _, _, rfl, .ty _, .base (.tup ht), kit_tt, _, rfl, ?_⟩
    refine ⟨_, rfl, t, _, rfl, .inr (.inl (.inl ht)), rfl, _, rfl, ?_⟩
    refine ⟨_, rfl, t, _, (0 : Int), _, rfl, rfl, .inl (.inl ht), rfl, x, rfl, hn, fun H1 s1 => ?_⟩
    refine ⟨_, rfl, ?_⟩
    refine ⟨_, rfl, t, _, (1 : Int), _, rfl, rfl, .inl (.inl (s1 _ _ ht)), rfl, a, xs, 1, 4, rfl, ha.same s1, by omega, by omega, fun H2 s2 => ?_⟩
    have s12 := s1.trans s2
    refine ⟨_, rfl, ?_⟩
    exact ⟨_, rfl, t, _, (2 : Int), _, rfl, rfl, .inl (.inl (s12 _ _ ht)), rfl, b, ys, 0, 12, rfl, hb.same s12, by omega, by omega, fun H3 s3 => q H3 (s12.trans s3)⟩
def sp_evs (K : PySem.W.Frag) : Sp := fun vs H Q _ => ∃ (a d : Addr) (xs : List V) (F G : Addr → Prop) (L : List (Str × Int)) (R : List Row), vs = [.ref a, .ref d] ∧ Sq K H a xs ∧ Paired (isRow H F G) xs R ∧ H d = some (.dK (kvL L)) ∧ VarsOk L ∧ EvsOk L R ∧ ∀ H', Same H H' → Q .non H'
theorem ok__check_events {P : Program} {w : World} {K : PySem.W.Frag} {mg : Str → Option Value} {base : Heap} (T : Txt P K mg) : FnOk P w K mg base CX0 5 T.f__check_events T.fd__check_events ["events", "sizes"] (sp_evs K) := by
  refine T.F__check_events.ok sc__check_events (fun vs H Q E h => ?_) (fun cdv A outer s H vs Q E hr h => ?_)
  · obtain ⟨_, _, _, _, _, _, _, rfl, _⟩ := h; rfl
  · obtain ⟨a, d, xs, F, G, L, R, rfl, hS, pd, hd, okL, okR, q⟩ := h
    have lxs := pd.length
    have r8 := okR.few
    refine ⟨_, PSs.nox (pss_cons (ps_if (PW.pt (pw_or (pt_not (pt_val (pe_call (ok_is_list T) (hr.mono (by decide)) (by rfl) T.g_is_list T.F_is_list.kp (b_is_list T) .nil pass0 (pa_cons (pv 0) (pa_cons pe_int (pa_cons (pe_glob (v := .int 8) (by rfl) T.c_MOST_EVENTS.choose_spec ⟨_, rfl⟩) pa_nil)))))) (pw_or1 (pt_not (pt_val (pe_callB (show CallR _ _ (rAll K) from cr_all rfl) (by rfl) T.n_all (by decide +kernel) (pa_cons (pe_lc (own := [("row", 6)]) (g := gName 6) rfl sc__check_events.nd (pi_or (pi_list (pv 0)) (pi_tup (pv 0))) (blkOk_by (own := [("row", 6)]) (N := N__check_events) (sc := defScope s__check_events) (by decide +kernel)) (fun _ _ _ _ _ => (pg_name (i := 6) sc__check_events.nd rfl (Or.inl rfl))) (fun _ _ _ _ _ => pts_nil) (fun _ _ _ _ _ => (pe_call (ok__is_event_row T) (hr.mono (by decide)) (by rfl) T.g__is_event_row T.F__is_event_row.kp (b__is_event_row T) .nil pass0 (pa_cons (pv 6) pa_nil)))) pa_nil))))))) (pss_one ps_never) pss_nil)
      (pss_cons (ps_set (i := 2) sc__check_events.nd rfl (Or.inl rfl) (pe_lst pa_nil))
      (pss_one (ps_for PassesOwn.never rfl (pi_or (pi_list (pv 0)) (pi_tup (pv 0))) (pg_tup rfl (pgs_cons (pg_name (i := 3) sc__check_events.nd rfl (Or.inl rfl)) (pgs_cons (pg_name (i := 4) sc__check_events.nd rfl (Or.inl rfl)) (pgs_cons (pg_name (i := 5) sc__check_events.nd rfl (Or.inl rfl)) pgs_nil)))) (pss_cons (ps_if (pt_cmpR (show OpR _ (compareOp .In) (rIn K false) from op_in_seq) (pv 3) (pv 2) (by first | rfl | with_unfolding_all rfl)) (pss_one ps_never) pss_nil)
      (pss_cons (ps_expr (pe_bm PySem.F.plainAttrs_list PySem.F.slot_list_append PySem.F.type_list_append mt_append (pv 2) (pa_cons (pv 3) pa_nil)))
      (pss_cons (ps_expr (pe_call (ok__check_scope T) (hr.mono (by decide)) (by rfl) T.g__check_scope T.F__check_scope.kp (b__check_scope T) .nil pass0 (pa_cons (pv 4) (pa_cons (pv 1) pa_nil))))
      (pss_one (ps_if (pt_not (pt_val (pe_call (ok__are_bad_tuples T) (hr.mono (by decide)) (by rfl) T.g__are_bad_tuples T.F__are_bad_tuples.kp (b__are_bad_tuples T) .nil pass0 (pa_cons (pv 5) (pa_cons (pe_lc (own := [("variable", 7)]) (g := gName 7) rfl sc__check_events.nd (pi_or (pi_list (pv 4)) (pi_tup (pv 4))) (blkOk_by (own := [("variable", 7)]) (N := N__check_events) (sc := defScope s__check_events) (by decide +kernel)) (fun _ _ _ _ _ => (pg_name (i := 7) sc__check_events.nd rfl (Or.inl rfl))) (fun _ _ _ _ _ => pts_nil) (fun _ _ _ _ _ => (pe_dget (hu_of hr) (pv 1) (pv 7) (fun _ _ => rfl)))) pa_nil))))) (pss_one ps_never) pss_nil))))))))), ?_⟩
    refine ⟨_, rfl, a, xs, 0, 8, rfl, hS, by omega, by omega, fun H1 s1 => ?_⟩
    refine ⟨_, rfl, ?_⟩
    refine or_walkA (fun R' h => ⟨_, rfl, h⟩) hS.sq (s1 a) fun J G1 w g D nD => ?_
    refine lc_it w (fun i H' => H' D = some (.lst (List.replicate i (.bl true))) ∧ Same H1 H') ⟨upd_same, Same.new nD⟩ (fun i H' _ p => g H' fun o e => p.2 a o (s1 a o e)) ?_ ?_
    · rintro i x H2 H3 hi ⟨p1, p2⟩ ⟨rfl, hx⟩
      obtain ⟨r, hr', t, ta, tb, ys, rfl, _, ht, la, lb, pb⟩ := pd_get pd hx
      have rok := okR.ok r (List.mem_of_getElem? hr')
      have s13 := s1.trans p2
      have k1 := rok.pos
      have k2 := rok.few
      have k3 := rok.bfew
      have k4 := pb.length
      refine ⟨rfl, _, rfl, t, ta, tb, r.1, _, ys, rfl, s13 _ _ ht, rok.nm, la.s.same s13, lb.s.same s13, by rw [List.length_map]; omega, by rw [List.length_map]; omega, by omega, fun H4 s4 => ?_⟩
      exact ⟨_, s4 _ _ p1, by rw [List.length_replicate, sizeLine_eq]; omega, by rw [upd_same, List.replicate_succ'], Same.upd_p (p2.trans s4) nD⟩
    · rintro H2 ⟨p1, p2⟩
      refine ⟨D, List.replicate xs.length true, rfl, SqL.of (by rw [p1, List.map_replicate]), ?_⟩
      have e : (List.replicate xs.length true).all id = true := by simp
      rw [e]
      refine ⟨_, rfl, ?_⟩
      have s2 := s1.trans p2
      refine ⟨Nat.zero_le _, fun l nl => ?_⟩
      have nlH : H l = none := by
        cases e : H l with
        | none => rfl
        | some o => rw [s2 _ _ e] at nl; cases nl
      refine or_walkA (fun R' h => ⟨_, rfl, h⟩) hS.sq (fun o e => (s2.trans (Same.new nl)) a o e) fun J G2 w g2 => for_it w (fun i σ H' => ∃ x3 x4 x5, σ = [some (.ref a), some (.ref d), some (.ref l), x3, x4, x5, none, none] ∧ Same H H' ∧ H' l = some (.lst ((R.take i).map fun r => V.str r.1))) ?_ ?_ ?_ ?_
      · exact ⟨_, _, _, rfl, s2.trans (Same.new nl), upd_same⟩
      · rintro i σ H' _ ⟨x3, x4, x5, rfl, s3, hl⟩
        exact g2 H' (s3 a)
      · rintro i x σ Hx H' hi ⟨x3, x4, x5, rfl, s3, hl⟩ ⟨rfl, hx⟩
        obtain ⟨r, hr', t, ta, tb, ys, rfl, _, ht, la, lb, pb⟩ := pd_get pd hx
        obtain ⟨li, er⟩ := List.getElem?_eq_some_iff.mp hr'
        have rok := okR.ok r (List.mem_of_getElem? hr')
        have nin : r.1 ∉ (R.map (·.1)).take i := by
          have := not_mem_take okR.nd (i := i) (by rw [List.length_map]; exact li)
          rw [List.getElem_map, er] at this
          exact this
        have hl2 : H' l = some (.lst (((R.map (·.1)).take i).map V.str)) := by rw [hl, ← List.map_take, List.map_map]; rfl
        have k2 := rok.few
        refine ⟨t, _, rfl, .inl (.inl (s3 _ _ ht)), rfl, _, _, rfl, _, _, rfl, _, _, rfl, rfl, ?_⟩
        refine ⟨_, rfl, _, rfl, l, _, rfl, .inl (SqL.of hl2), rfl, flat_str _, _, rfl, ?_⟩
        rw [inV_str, decide_eq_false nin]
        refine iteF ⟨_, rfl, .inl ⟨rfl, _, SqL.of hl2⟩, _, rfl, l, _, _, rfl, rfl, hl2, by rw [List.length_map, List.length_take, sizeLine_eq]; omega, ?_⟩
        have s4 := Same.upd_p (o := .lst (((R.map (·.1)).take i).map V.str ++ [V.str r.1])) s3 nlH
        have hl4 : upd H' l (.lst (((R.map (·.1)).take i).map V.str ++ [V.str r.1])) l = some (.lst ((R.take (i + 1)).map fun r => V.str r.1)) := by
          rw [upd_same, take_snoc li, List.map_append, ← List.map_take, List.map_map, er]; rfl
        generalize upd H' l (.lst (((R.map (·.1)).take i).map V.str ++ [V.str r.1])) = H4 at s4 hl4
        have hv := sizes_zs okL rok.sub
        refine ⟨_, rfl, _, rfl, ta, d, r.2.1, _, rfl, (la.s.same s4).sq, s4 _ _ hd, fun x hx => ⟨_, hv x hx⟩, rok.nd, by omega, fun H5 s5 => ?_⟩
        have s45 := s4.trans s5
        refine ⟨_, rfl, ?_⟩
        refine or_walkA (fun R' h => ⟨_, rfl, h⟩) la.s.sq (s45 ta) fun J3 G3 w3 g3 D3 nD3 => ?_
        refine lc_it w3 (fun i H' => H' D3 = some (.lst (((r.2.1.take i).map (sizeOf L)).map V.int)) ∧ Same H5 H') ⟨upd_same, Same.new nD3⟩ (fun i H' _ p => g3 H' fun o e => p.2 ta o (s45 ta o e)) ?_ ?_
        · rintro j y H6 H7 hj ⟨p1, p2⟩ ⟨rfl, hy⟩
          obtain ⟨lj, rfl⟩ := str_at' hy
          have hvj := hv _ (List.getElem_mem lj)
          have dg : DGet H7 d (.str r.2.1[j]) (some (.int (sizeOf L r.2.1[j]))) := by rw [← hvj]; exact DGet.k (k := Sum.inr r.2.1[j]) (p2 _ _ (s45 _ _ hd))
          refine ⟨rfl, _, rfl, _, rfl, d, _, rfl, dg, _, p1, by rw [List.length_map, List.length_map, List.length_take, sizeLine_eq]; omega, ?_, Same.upd_p p2 nD3⟩
          rw [upd_same, take_snoc lj, List.map_append, List.map_append]; rfl
        · rintro H6 ⟨p1, p2⟩
          rw [List.length_map, List.take_length] at p1
          have s6 := s45.trans p2
          refine ⟨tb, D3, ys, r.2.2, G, r.2.1.map (sizeOf L), rfl, lb.s.same s6, Paired.mono (fun _ _ z => isTupI.same z s6) pb, p1, by rw [List.length_map]; omega, rok.bfew, rok.bnd, fun ns hns => by rw [List.length_map]; exact rok.bl ns hns, fun ns hns k n z h1 h2 => ?_, fun H7 s7 => ?_⟩
          · rw [List.getElem?_map] at h2
            cases e : r.2.1[k]? with
            | none => rw [e] at h2; cases h2
            | some x => rw [e] at h2; cases h2; exact rok.bv ns hns k x n e h1
          · exact ⟨_, rfl, _, _, _, rfl, s6.trans s7, s7 _ _ (p2 _ _ (s5 _ _ hl4))⟩
      · rintro σ H' ⟨x3, x4, x5, rfl, s3, hl⟩
        exact q H' s3

end K38
namespace K38
open PySem PySem.Spec PyProof.Rows L2 TL
/-! ### making a problem -/
def sp_pinit (K : PySem.W.Frag) (C : Addr) : Sp := fun vs H Q _ => ∃ (H0 : Hp) (p dx a e : Addr) (xs ys : List V) (L : List (Str × Int)) (R : List Row), vs = [.ref p, .ref a, .ref e] ∧ H p = some (.ins C dx []) ∧ H0 p = none ∧ Same H0 H ∧
  Sq K H0 a xs ∧ Paired (isPair H0 (Old H0)) xs L ∧ VarsOk L ∧ Sq K H0 e ys ∧ Paired (isRow H0 (Old H0) (Old H0)) ys R ∧ EvsOk L R ∧ ∀ H', Same H0 H' → IsP C H' (New H0) (Old H0) p L R → Q .non H'
theorem same_p {H0 H : Hp} {p : Addr} {o : HO} (s : Same H0 H) (n : H0 p = none) : Same H0 (upd H p o) := Same.upd_p s n
theorem ent_keys {H : Hp} {F G : Addr → Prop} : ∀ {E : List Ent} {R : List Row}, Paired (isEnt H F G) E R → E.map (·.1) = R.map (·.1)
  | _, _, .nil => rfl
  | _, _, .cons r t => by rw [List.map_cons, List.map_cons, r.1, ent_keys t]
theorem putK_len' (c : List (Key × V)) (k : Key) (x : V) : (putK c k x).length ≤ c.length + 1 := by
  unfold putK
  split
  · rw [List.length_map]; omega
  · rw [List.length_append]; exact Nat.le_refl _
theorem ok_Problem_init {P : Program} {w : World} {K : PySem.W.Frag} {mg : Str → Option Value} {base : Heap} (T : Txt P K mg) : FnOk P w K mg base CX0 6 T.f_Problem_init T.fd_Problem_init ["self", "variables", "events"] (sp_pinit K T.C_Problem) := by
  refine T.F_Problem_init.ok sc_Problem_init (fun vs H Q E h => ?_) (fun cdv A outer s H vs Q E hr h => ?_)
  · obtain ⟨_, _, _, _, _, _, _, _, _, rfl, _⟩ := h; rfl
  · obtain ⟨H0, p, dx, a, e, xs, ys, L, R, rfl, hp, n0, s0, hA, pdL, okL, hE, pdR, okR, q⟩ := h
    have lxs := pdL.length
    have lys := pdR.length
    have l8 := okL.few
    have r8 := okR.few
    refine ⟨_, PSs.nox (pss_cons (ps_expr (pe_call (ok__check_variables T) (hr.mono (by decide)) (by rfl) T.g__check_variables T.F__check_variables.kp (b__check_variables T) .nil pass0 (pa_cons (pv 1) pa_nil)))
      (pss_cons (ps_fld (pv 0) (pe_callTy (show CallR _ _ (rListOf K) from call_list_of) (by rfl) T.n_list (by decide +kernel) (pa_cons (pv 1) pa_nil)) rfl)
      (pss_cons (ps_fld (pv 0) (pe_dc (own := [("name", 3), ("size", 4)]) (g := gTup K 2 (gCons (gName 3) (gCons (gName 4) gNil))) rfl sc_Problem_init.nd (pi_or (pi_list (pv 1)) (pi_tup (pv 1))) (blkOk_by (own := [("name", 3), ("size", 4)]) (N := N_Problem_init) (sc := defScope s_Problem_init) (by decide +kernel)) (fun _ _ _ _ _ => (pg_tup rfl (pgs_cons (pg_name (i := 3) sc_Problem_init.nd rfl (Or.inl rfl)) (pgs_cons (pg_name (i := 4) sc_Problem_init.nd rfl (Or.inl rfl)) pgs_nil)))) (fun _ _ _ _ _ => pts_nil) (fun _ _ _ _ _ => (pv 3)) (fun _ _ _ _ _ => (pv 4))) rfl)
      (pss_cons (ps_fld (pv 0) (pe_lock (pe_dc (own := [("place", 5), ("name", 3)]) (g := gTup K 2 (gCons (gName 5) (gCons (gName 3) gNil))) rfl sc_Problem_init.nd (pi_enumD (by rfl) T.n_enumerate (pa_cons (show PE _ _ (tFld K _ _) from pe_fld (pv 0) rfl) pa_nil)) (blkOk_by (own := [("place", 5), ("name", 3)]) (N := N_Problem_init) (sc := defScope s_Problem_init) (by decide +kernel)) (fun _ _ _ _ _ => (pg_tup rfl (pgs_cons (pg_name (i := 5) sc_Problem_init.nd rfl (Or.inl rfl)) (pgs_cons (pg_name (i := 3) sc_Problem_init.nd rfl (Or.inl rfl)) pgs_nil)))) (fun _ _ _ _ _ => pts_nil) (fun _ _ _ _ _ => (pv 3)) (fun _ _ _ _ _ => (pv 5)))) rfl)
      (pss_cons (ps_expr (pe_call (ok__check_events T) (hr.mono (by decide)) (by rfl) T.g__check_events T.F__check_events.kp (b__check_events T) .nil pass0 (pa_cons (pv 2) (pa_cons (show PE _ _ (tFld K _ _) from pe_fld (pv 0) rfl) pa_nil))))
      (pss_cons (ps_fld (pv 0) (pe_lc (own := [("name", 3), ("scope", 6), ("bad_tuples", 7)]) (g := gTup K 3 (gCons (gName 3) (gCons (gName 6) (gCons (gName 7) gNil)))) rfl sc_Problem_init.nd (pi_or (pi_list (pv 2)) (pi_tup (pv 2))) (blkOk_by (own := [("name", 3), ("scope", 6), ("bad_tuples", 7)]) (N := N_Problem_init) (sc := defScope s_Problem_init) (by decide +kernel)) (fun _ _ _ _ _ => (pg_tup rfl (pgs_cons (pg_name (i := 3) sc_Problem_init.nd rfl (Or.inl rfl)) (pgs_cons (pg_name (i := 6) sc_Problem_init.nd rfl (Or.inl rfl)) (pgs_cons (pg_name (i := 7) sc_Problem_init.nd rfl (Or.inl rfl)) pgs_nil))))) (fun _ _ _ _ _ => pts_nil) (fun _ _ _ _ _ => (pe_tup (pa_cons (pv 3) (pa_cons (pe_callTy (show CallR _ _ (rListOf K) from call_list_of) (by rfl) T.n_list (by decide +kernel) (pa_cons (pv 6) pa_nil)) (pa_cons (pe_callB (show CallR _ _ (rSortTT K) from cr_sortTT) (by rfl) T.n_sorted (by decide +kernel) (pa_cons (pv 7) pa_nil)) pa_nil)))))) rfl)
      (pss_cons (ps_fld (pv 0) (pe_dc (own := [("name", 3), ("scope", 6), ("_", 8)]) (g := gTup K 3 (gCons (gName 3) (gCons (gName 6) (gCons (gName 8) gNil)))) rfl sc_Problem_init.nd (pi_list (show PE _ _ (tFld K _ _) from pe_fld (pv 0) rfl)) (blkOk_by (own := [("name", 3), ("scope", 6), ("_", 8)]) (N := N_Problem_init) (sc := defScope s_Problem_init) (by decide +kernel)) (fun _ _ _ _ _ => (pg_tup rfl (pgs_cons (pg_name (i := 3) sc_Problem_init.nd rfl (Or.inl rfl)) (pgs_cons (pg_name (i := 6) sc_Problem_init.nd rfl (Or.inl rfl)) (pgs_cons (pg_name (i := 8) sc_Problem_init.nd rfl (Or.inl rfl)) pgs_nil))))) (fun _ _ _ _ _ => pts_nil) (fun _ _ _ _ _ => (pv 3)) (fun _ _ _ _ _ => (pv 6))) rfl)
      (pss_cons (ps_fld (pv 0) (pe_dc (own := [("name", 3), ("_", 8), ("bad_tuples", 7)]) (g := gTup K 3 (gCons (gName 3) (gCons (gName 8) (gCons (gName 7) gNil)))) rfl sc_Problem_init.nd (pi_list (show PE _ _ (tFld K _ _) from pe_fld (pv 0) rfl)) (blkOk_by (own := [("name", 3), ("_", 8), ("bad_tuples", 7)]) (N := N_Problem_init) (sc := defScope s_Problem_init) (by decide +kernel)) (fun _ _ _ _ _ => (pg_tup rfl (pgs_cons (pg_name (i := 3) sc_Problem_init.nd rfl (Or.inl rfl)) (pgs_cons (pg_name (i := 8) sc_Problem_init.nd rfl (Or.inl rfl)) (pgs_cons (pg_name (i := 7) sc_Problem_init.nd rfl (Or.inl rfl)) pgs_nil))))) (fun _ _ _ _ _ => pts_nil) (fun _ _ _ _ _ => (pv 3)) (fun _ _ _ _ _ => (pv 7))) rfl)
      (pss_one (ps_fld (pv 0) (pe_lock (pe_dc (own := [("name", 3)]) (g := gName 3) rfl sc_Problem_init.nd (pi_keys (show PE _ _ (tFld K _ _) from pe_fld (pv 0) rfl)) (blkOk_by (own := [("name", 3)]) (N := N_Problem_init) (sc := defScope s_Problem_init) (by decide +kernel)) (fun _ _ _ _ _ => (pg_name (i := 3) sc_Problem_init.nd rfl (Or.inl rfl))) (fun _ _ _ _ _ => pts_nil) (fun _ _ _ _ _ => (pv 3)) (fun _ _ _ _ _ => (pe_call (ok__neighbors_of T) (hr.mono (by decide)) (by rfl) T.g__neighbors_of T.F__neighbors_of.kp (b__neighbors_of T) .nil pass0 (pa_cons (pv 3) (pa_cons (show PE _ _ (tFld K _ _) from pe_fld (pv 0) rfl) pa_nil)))))) rfl)))))))))), ?_⟩
    -- the check of the variables
    refine ⟨_, rfl, a, xs, Old H0, L, rfl, hA.same s0, Paired.mono (fun _ _ z => z.same s0) pdL, okL, fun H1 s1 => ?_⟩
    have hp1 := s1 _ _ hp
    replace s1 := s0.trans s1
    clear hp s0
    -- self._variables
    refine ⟨_, rfl, a, xs, rfl, (hA.same s1).sq, fun av nav => ?_⟩
    have nvp : av ≠ p := (ne_of_none hp1 nav).symm
    refine ⟨_, rfl, p, _, dx, _, rfl, Same.new nav _ _ hp1, T.cl_Problem, T.na_Problem__variables, (by decide), ?_⟩
    have s2 := same_p (o := .ins T.C_Problem dx (putF "_variables" (.ref av) [])) (s1.trans (Same.new (o := .lst xs) nav)) n0
    have hp2 : upd (upd H1 av (.lst xs)) p (.ins T.C_Problem dx (putF "_variables" (.ref av) [])) p = some (.ins T.C_Problem dx (putF "_variables" (.ref av) [])) := upd_same
    have hav2 : upd (upd H1 av (.lst xs)) p (.ins T.C_Problem dx (putF "_variables" (.ref av) [])) av = some (.lst xs) := by rw [upd_ne nvp, upd_same]
    have nav0 := Same.none s1 nav
    generalize upd (upd H1 av (.lst xs)) p (.ins T.C_Problem dx (putF "_variables" (.ref av) [])) = H2 at s2 hp2 hav2
    clear s1 hp1 nav
    -- self._sizes
    refine or_walkA (fun R' h => ⟨_, rfl, h⟩) hA.sq (s2 a) fun J G1 w g ds nds => ?_
    refine dc_it w (fun i H' => H' ds = some (.dK (kvL (L.take i))) ∧ Same H2 H') ⟨upd_same, Same.new nds⟩ (fun i H' _ h => g H' fun o e => h.2 a o (s2 a o e)) ?_ ?_
    · rintro i x H3 H4 hi ⟨h1, h2⟩ ⟨rfl, hx⟩
      obtain ⟨y, hy, t, rfl, _, ht⟩ := pd_get pdL hx
      obtain ⟨li, ey⟩ := List.getElem?_eq_some_iff.mp hy
      have ht4 := h2 _ _ (s2 _ _ ht)
      refine ⟨t, _, rfl, .inl (.inl ht4), rfl, _, _, rfl, _, _, rfl, rfl, rfl, _, rfl, _, rfl, _, Sum.inr y.1, rfl, h1, by have := kvL_take_len L i; rw [sizeLine_eq]; omega, ?_, Same.upd_p h2 nds⟩
      rw [upd_same, ← ey, kvL_put okL.nd li]
    rintro H3 ⟨hds, s3⟩
    rw [lxs, List.take_length] at hds
    have hp3 := s3 _ _ hp2
    have hav3 := s3 _ _ hav2
    have ndp : ds ≠ p := (ne_of_none hp2 nds).symm
    refine ⟨_, rfl, p, _, dx, _, rfl, hp3, T.cl_Problem, T.na_Problem__sizes, (by show 1 < 1000; decide), ?_⟩
    have s4 := same_p (o := .ins T.C_Problem dx (putF "_sizes" (.ref ds) (putF "_variables" (.ref av) []))) (s2.trans s3) n0
    have hp4 : upd H3 p (.ins T.C_Problem dx (putF "_sizes" (.ref ds) (putF "_variables" (.ref av) []))) p = some (.ins T.C_Problem dx (putF "_sizes" (.ref ds) (putF "_variables" (.ref av) []))) := upd_same
    have hav4 : upd H3 p (.ins T.C_Problem dx (putF "_sizes" (.ref ds) (putF "_variables" (.ref av) []))) av = some (.lst xs) := by rw [upd_ne nvp]; exact hav3
    have hds4 : upd H3 p (.ins T.C_Problem dx (putF "_sizes" (.ref ds) (putF "_variables" (.ref av) []))) ds = some (.dK (kvL L)) := by rw [upd_ne ndp]; exact hds
    have nds0 := Same.none s2 nds
    generalize upd H3 p (.ins T.C_Problem dx (putF "_sizes" (.ref ds) (putF "_variables" (.ref av) []))) = H4 at s4 hp4 hav4 hds4
    clear s3 hp3 hav3 hds s2 hp2 hav2 nds
    -- self._places
    refine ⟨ds, _, hds4, trivial, fun od => ?_⟩
    refine ⟨_, rfl, p, _, dx, _, _, rfl, by rw [upd_ne (Ne.symm ndp)]; exact hp4, T.cl_Problem, T.na_Problem__sizes, (lookup_putF ..).trans (if_pos rfl), ds, od, kvL L, rfl, upd_same, fun dp ndp' => ?_⟩
    refine dc_it walk_enumD (fun i H' => H' dp = some (.dK (kvP (L.take i))) ∧ Same (upd H4 ds (.frz od (.dK (kvL L)))) H') ⟨upd_same, Same.new ndp'⟩ (fun i H' _ h => frz_at h.2) ?_ ?_
    · rintro i x H5 H6 hi ⟨h1, h2⟩ ⟨T', y1, y2, rfl, nT, rfl, e1, e2⟩
      have li : i < L.length := by unfold kvL at hi; rwa [List.length_map] at hi
      have eq1 : (kvL L)[i]? = some (Sum.inr L[i].1, V.int L[i].2) := by unfold kvL; rw [List.getElem?_map, List.getElem?_eq_getElem li]; rfl
      simp only [eq1, Option.map_some] at e1 e2
      cases e1
      cases e2
      have hdT : upd H5 T' (.tup [.int (i : Nat), kV (Sum.inr L[i].1)]) dp = some (.dK (kvP (L.take i))) := by rw [upd_ne (ne_of_none h1 nT)]; exact h1
      refine ⟨T', _, rfl, .inl (.inl upd_same), rfl, _, _, rfl, _, _, rfl, rfl, rfl, _, rfl, _, rfl, _, Sum.inr L[i].1, rfl, hdT, by rw [kvP_len, List.length_take, sizeLine_eq]; omega, ?_, Same.upd_p (h2.trans (Same.new nT)) ndp'⟩
      rw [upd_same, kvP_put okL.nd li]
    rintro H5 ⟨hdp, s5⟩
    have lkL : (kvL L).length = L.length := by unfold kvL; rw [List.length_map]
    rw [lkL, List.take_length] at hdp
    have ndpp : dp ≠ p := fun e => by rw [e, upd_ne (Ne.symm ndp), hp4] at ndp'; cases ndp'
    have nddd : dp ≠ ds := fun e => by rw [e, upd_same] at ndp'; cases ndp'
    have ndp0 : H0 dp = none := Same.none s4 (by rw [upd_ne nddd] at ndp'; exact ndp')
    refine ⟨frz_at s5, ?_⟩
    have s6 := Same.unlock hds4 s5
    have hdp6 : upd H5 ds (.dK (kvL L)) dp = some (.dK (kvP L)) := by rw [upd_ne nddd]; exact hdp
    generalize upd H5 ds (.dK (kvL L)) = H6 at s6 hdp6
    have hp6 := s6 _ _ hp4
    refine ⟨_, rfl, p, _, dx, _, rfl, hp6, T.cl_Problem, T.na_Problem__places, (by show 2 < 1000; decide), ?_⟩
    have s7 := same_p (o := .ins T.C_Problem dx (putF "_places" (.ref dp) (putF "_sizes" (.ref ds) (putF "_variables" (.ref av) [])))) (s4.trans s6) n0
    have hp7 : upd H6 p (.ins T.C_Problem dx (putF "_places" (.ref dp) (putF "_sizes" (.ref ds) (putF "_variables" (.ref av) [])))) p = some (.ins T.C_Problem dx (putF "_places" (.ref dp) (putF "_sizes" (.ref ds) (putF "_variables" (.ref av) [])))) := upd_same
    have hav7 : upd H6 p (.ins T.C_Problem dx (putF "_places" (.ref dp) (putF "_sizes" (.ref ds) (putF "_variables" (.ref av) [])))) av = some (.lst xs) := by rw [upd_ne nvp]; exact s6 _ _ hav4
    have hds7 : upd H6 p (.ins T.C_Problem dx (putF "_places" (.ref dp) (putF "_sizes" (.ref ds) (putF "_variables" (.ref av) [])))) ds = some (.dK (kvL L)) := by rw [upd_ne ndp]; exact s6 _ _ hds4
    have hdp7 : upd H6 p (.ins T.C_Problem dx (putF "_places" (.ref dp) (putF "_sizes" (.ref ds) (putF "_variables" (.ref av) [])))) dp = some (.dK (kvP L)) := by rw [upd_ne ndpp]; exact hdp6
    generalize upd H6 p (.ins T.C_Problem dx (putF "_places" (.ref dp) (putF "_sizes" (.ref ds) (putF "_variables" (.ref av) [])))) = H7 at s7 hp7 hav7 hds7 hdp7
    clear s6 hp6 s5 hdp s4 hp4 hav4 hds4 ndp'
    -- the check of the events
    refine ⟨_, rfl, _, rfl, p, _, dx, _, _, rfl, hp7, T.cl_Problem, T.na_Problem__sizes, (lookup_putF ..).trans ((if_neg (by decide +kernel)).trans ((lookup_putF ..).trans (if_pos rfl))), e, ds, ys, Old H0, Old H0, L, R, rfl, hE.same s7, Paired.mono (fun _ _ z => z.same s7) pdR, hds7, okL, okR, fun H8 s8 => ?_⟩
    have hp8 := s8 _ _ hp7
    have hav8 := s8 _ _ hav7
    have hds8 := s8 _ _ hds7
    have hdp8 := s8 _ _ hdp7
    replace s8 := s7.trans s8
    clear s7 hp7 hav7 hds7
    -- self._events
    refine or_walkA (fun R' h => ⟨_, rfl, h⟩) hE.sq (s8 e) fun J2 G2 w2 g2 ae nae => ?_
    have nep : ae ≠ p := (ne_of_none hp8 nae).symm
    have nae0 := Same.none s8 nae
    let F1 : Addr → Prop := fun t => H0 t = none ∧ t ≠ ae ∧ t ≠ p
    refine lc_it w2 (fun i H' => ∃ (es : List V) (E : List Ent), H' ae = some (.lst es) ∧ es.length = i ∧ Paired (isEv H' F1) es E ∧ Paired (isEnt H' F1 (Old H0)) E (R.take i) ∧ Same H8 H') ⟨[], [], upd_same, rfl, .nil, .nil, Same.new nae⟩ (fun i H' _ ⟨_, _, _, _, _, _, h⟩ => g2 H' fun o e' => h e o (s8 e o e')) ?_ ?_
    · rintro i x H9 H10 hi ⟨es, E, h1, h2, h3, h4, h5⟩ ⟨rfl, hx⟩
      obtain ⟨r, hr', t, ta, tb, bs, rfl, _, ht, la, lb, pb⟩ := pd_get pdR hx
      obtain ⟨li, er⟩ := List.getElem?_eq_some_iff.mp hr'
      have rok := okR.ok r (List.mem_of_getElem? hr')
      have s9 := s8.trans h5
      have k1 := rok.pos
      have k3 := rok.bfew
      have k4 := pb.length
      refine ⟨t, _, rfl, .inl (.inl (s9 _ _ ht)), rfl, _, _, rfl, _, _, rfl, _, _, rfl, rfl, rfl, ?_⟩
      refine ⟨_, rfl, _, rfl, ta, _, rfl, (la.s.same s9).sq, fun l nl => ?_⟩
      have sl := Same.new (o := .lst (r.2.1.map V.str)) nl
      have hl : upd H10 l (.lst (r.2.1.map V.str)) l = some (.lst (r.2.1.map V.str)) := upd_same
      have nl0 := Same.none s9 nl
      have nlae : l ≠ ae := (ne_of_none h1 nl).symm
      have nlp : l ≠ p := (ne_of_none (h5 _ _ hp8) nl).symm
      generalize upd H10 l (.lst (r.2.1.map V.str)) = H11 at sl hl
      have s11 := s9.trans sl
      have pb11 := Paired.mono (fun _ _ z => isTupI.same z s11) pb
      refine ⟨_, rfl, tb, bs, rdT H11, r.2.1.length, 6, rfl, (lb.s.same s11).sq, by omega, k1, sort_in pb11 (row_bd okL rok), fun out bq pm pw nq => ?_⟩
      obtain ⟨sr, pout⟩ := sort_out pb11 pm pw
      have sq := Same.new (o := .lst out) nq
      have hq : upd H11 bq (.lst out) bq = some (.lst out) := upd_same
      have nq0 := Same.none s11 nq
      have nqae : bq ≠ ae := (ne_of_none (sl _ _ h1) nq).symm
      have nqp : bq ≠ p := (ne_of_none (sl _ _ (h5 _ _ hp8)) nq).symm
      generalize upd H11 bq (.lst out) = H12 at sq hq
      refine ⟨lenk 3 rfl (by decide), fun u nu => ?_⟩
      have su := Same.new (o := .tup [.str r.1, .ref l, .ref bq]) nu
      have hu : upd H12 u (.tup [.str r.1, .ref l, .ref bq]) u = some (.tup [.str r.1, .ref l, .ref bq]) := upd_same
      have s12 := s11.trans sq
      have nu0 := Same.none s12 nu
      have nuae : u ≠ ae := (ne_of_none (sq _ _ (sl _ _ h1)) nu).symm
      have nup : u ≠ p := (ne_of_none (sq _ _ (sl _ _ (h5 _ _ hp8))) nu).symm
      generalize upd H12 u (.tup [.str r.1, .ref l, .ref bq]) = H13 at su hu
      have t13 := (sl.trans sq).trans su
      have mve : Mv (fun a => a = ae) H13 (upd H13 ae (.lst (es ++ [.ref u]))) := fun a o na e => by rw [upd_ne na]; exact e
      have oae : ∀ a, Old H0 a → ¬ a = ae := fun a ⟨o, ho⟩ ea => by rw [ea, nae0] at ho; cases ho
      refine ⟨es, t13 _ _ h1, by rw [h2, sizeLine_eq]; omega, es ++ [.ref u], E ++ [(r.1, l, bq)], upd_same, by rw [List.length_append, h2]; rfl, ?_, ?_, Same.upd_p (h5.trans t13) nae⟩
      · refine Paired.snoc (Paired.mono (fun _ _ z => ?_) h3) ?_
        · exact isEv.mv (isEv.mv z (Mv.of_same t13 (W := fun _ => False)) (fun _ _ z => z)) mve fun a ha => ha.2.1
        · exact ⟨u, rfl, ⟨nu0, nuae, nup⟩, by rw [upd_ne nuae]; exact hu⟩
      · rw [take_snoc li, er]
        refine Paired.snoc (Paired.mono (fun _ _ z => ?_) h4) ?_
        · exact isEnt.mv (isEnt.mv z (Mv.of_same t13 (W := fun _ => False)) (fun _ _ z => z) (fun _ _ z => z)) mve (fun a ha => ha.2.1) oae
        · refine ⟨rfl, ⟨nl0, nlae, nlp⟩, ⟨nq0, nqae, nqp⟩, by rw [upd_ne nlae]; exact su _ _ (sq _ _ hl), out, _, by rw [upd_ne nqae]; exact su _ _ hq, sr, Paired.mono (fun _ _ z => ?_) pout⟩
          exact isTupI.mv (isTupI.same z (sq.trans su)) mve oae
    rintro H9 ⟨es, E, hae, -, pev, pent, s9⟩
    rw [lys, List.take_length] at pent
    have hp9 := s9 _ _ hp8
    have hav9 := s9 _ _ hav8
    have hds9 := s9 _ _ hds8
    have hdp9 := s9 _ _ hdp8
    refine ⟨_, rfl, p, _, dx, _, rfl, hp9, T.cl_Problem, T.na_Problem__events, (by show 3 < 1000; decide), ?_⟩
    let fE := putF "_events" (.ref ae) (putF "_places" (.ref dp) (putF "_sizes" (.ref ds) (putF "_variables" (.ref av) [])))
    have s10 := same_p (o := .ins T.C_Problem dx fE) (s8.trans s9) n0
    have hp10 : upd H9 p (.ins T.C_Problem dx fE) p = some (.ins T.C_Problem dx fE) := upd_same
    have hav10 : upd H9 p (.ins T.C_Problem dx fE) av = some (.lst xs) := by rw [upd_ne nvp]; exact hav9
    have hds10 : upd H9 p (.ins T.C_Problem dx fE) ds = some (.dK (kvL L)) := by rw [upd_ne ndp]; exact hds9
    have hdp10 : upd H9 p (.ins T.C_Problem dx fE) dp = some (.dK (kvP L)) := by rw [upd_ne ndpp]; exact hdp9
    have hae10 : upd H9 p (.ins T.C_Problem dx fE) ae = some (.lst es) := by rw [upd_ne nep]; exact hae
    have mvp : Mv (fun a => a = p) H9 (upd H9 p (.ins T.C_Problem dx fE)) := fun a o na e => by rw [upd_ne na]; exact e
    have oap : ∀ a, Old H0 a → ¬ a = p := fun a ⟨o, ho⟩ ea => by rw [ea, n0] at ho; cases ho
    have pev10 := Paired.mono (fun _ _ z => isEv.mv z mvp fun a ha => ha.2.2) pev
    have pent10 := Paired.mono (fun _ _ z => isEnt.mv z mvp (fun a ha => ha.2.2) oap) pent
    generalize upd H9 p (.ins T.C_Problem dx fE) = H10 at s10 hp10 hav10 hds10 hdp10 hae10 pev10 pent10
    clear mvp hae pev pent s9 hp9 hav9 hds9 hp8 hav8 hds8 nae
    have ekeys := ent_keys pent10
    have end' : (E.map (·.1)).Nodup := by rw [ekeys]; exact okR.nd
    have lE := pent10.length
    have les := pev10.length
    -- self._scopes
    have evs : ∀ {H' : Hp} {i : Nat} {x : V}, Same H10 H' → es[i]? = some x → ∃ t, ∃ hi : i < E.length, x = .ref t ∧ H' t = some (.tup [.str E[i].1, .ref E[i].2.1, .ref E[i].2.2]) := fun s' hx => by
      obtain ⟨q, hq, t, e, _, ht⟩ := pd_get pev10 hx
      obtain ⟨li, eq⟩ := List.getElem?_eq_some_iff.mp hq
      exact ⟨t, li, e, by rw [eq]; exact s' _ _ ht⟩
    refine ⟨_, rfl, p, _, dx, _, _, rfl, hp10, T.cl_Problem, T.na_Problem__events, (lookup_putF ..).trans (if_pos rfl), ae, rfl, ⟨_, SqL.of hae10⟩, fun dsc ndsc => ?_⟩
    refine dc_it (walk_list (K := K) (a := ae) (xs := es)) (fun i H' => H' dsc = some (.dK (kvS (E.take i))) ∧ Same H10 H') ⟨upd_same, Same.new ndsc⟩ (fun i H' _ h => SqL.of (h.2 _ _ hae10)) ?_ ?_
    · rintro i x H11 H12 hi ⟨h1, h2⟩ ⟨rfl, hx⟩
      obtain ⟨t, li, rfl, ht⟩ := evs h2 hx
      refine ⟨t, _, rfl, .inl (.inl ht), rfl, _, _, rfl, _, _, rfl, _, _, rfl, rfl, rfl, _, rfl, _, rfl, _, Sum.inr E[i].1, rfl, h1, by unfold kvS; rw [List.length_map, List.length_take, sizeLine_eq]; omega, ?_, Same.upd_p h2 ndsc⟩
      rw [upd_same]
      exact congrArg (fun z => some (HO.dK z)) (ent_put (g := fun q => V.ref q.2.1) end' li)
    rintro H11 ⟨hdsc, s11⟩
    rw [les, List.take_length] at hdsc
    have hp11 := s11 _ _ hp10
    have nscp : dsc ≠ p := (ne_of_none hp10 ndsc).symm
    refine ⟨_, rfl, p, _, dx, _, rfl, hp11, T.cl_Problem, T.na_Problem__scopes, (by show 4 < 1000; decide), ?_⟩
    let fS := putF "_scopes" (.ref dsc) fE
    have mvp : Mv (fun a => a = p) H11 (upd H11 p (.ins T.C_Problem dx fS)) := fun a o na e => by rw [upd_ne na]; exact e
    have s12 := same_p (o := .ins T.C_Problem dx fS) (s10.trans s11) n0
    have hp12 : upd H11 p (.ins T.C_Problem dx fS) p = some (.ins T.C_Problem dx fS) := upd_same
    have hav12 := mvp _ _ nvp (s11 _ _ hav10)
    have hds12 := mvp _ _ ndp (s11 _ _ hds10)
    have hdp12 := mvp _ _ ndpp (s11 _ _ hdp10)
    have hae12 := mvp _ _ nep (s11 _ _ hae10)
    have hdsc12 := mvp _ _ nscp hdsc
    have pev12 := Paired.mono (fun _ _ z => isEv.mv (isEv.mv z (Mv.of_same s11 (W := fun _ => False)) (fun _ _ z => z)) mvp fun a ha => ha.2.2) pev10
    have pent12 := Paired.mono (fun _ _ z => isEnt.mv (isEnt.mv z (Mv.of_same s11 (W := fun _ => False)) (fun _ _ z => z) (fun _ _ z => z)) mvp (fun a ha => ha.2.2) oap) pent10
    have nsc0 := Same.none s10 ndsc
    generalize upd H11 p (.ins T.C_Problem dx fS) = H12 at mvp s12 hp12 hav12 hds12 hdp12 hae12 hdsc12 pev12 pent12
    clear mvp hdsc s11 hp11 pev10 pent10 hp10 hav10 hds10 hae10 s10 ndsc evs
    -- self._bad_tuples
    have evs : ∀ {H' : Hp} {i : Nat} {x : V}, Same H12 H' → es[i]? = some x → ∃ t, ∃ hi : i < E.length, x = .ref t ∧ H' t = some (.tup [.str E[i].1, .ref E[i].2.1, .ref E[i].2.2]) := fun s' hx => by
      obtain ⟨q, hq, t, e, _, ht⟩ := pd_get pev12 hx
      obtain ⟨li, eq⟩ := List.getElem?_eq_some_iff.mp hq
      exact ⟨t, li, e, by rw [eq]; exact s' _ _ ht⟩
    refine ⟨_, rfl, p, _, dx, _, _, rfl, hp12, T.cl_Problem, T.na_Problem__events, (lookup_putF ..).trans ((if_neg (by decide +kernel)).trans ((lookup_putF ..).trans (if_pos rfl))), ae, rfl, ⟨_, SqL.of hae12⟩, fun dbt ndbt => ?_⟩
    refine dc_it (walk_list (K := K) (a := ae) (xs := es)) (fun i H' => H' dbt = some (.dK (kvB (E.take i))) ∧ Same H12 H') ⟨upd_same, Same.new ndbt⟩ (fun i H' _ h => SqL.of (h.2 _ _ hae12)) ?_ ?_
    · rintro i x H13 H14 hi ⟨h1, h2⟩ ⟨rfl, hx⟩
      obtain ⟨t, li, rfl, ht⟩ := evs h2 hx
      refine ⟨t, _, rfl, .inl (.inl ht), rfl, _, _, rfl, _, _, rfl, _, _, rfl, rfl, rfl, _, rfl, _, rfl, _, Sum.inr E[i].1, rfl, h1, by unfold kvB; rw [List.length_map, List.length_take, sizeLine_eq]; omega, ?_, Same.upd_p h2 ndbt⟩
      rw [upd_same]
      exact congrArg (fun z => some (HO.dK z)) (ent_put (g := fun q => V.ref q.2.2) end' li)
    rintro H13 ⟨hdbt, s13⟩
    rw [les, List.take_length] at hdbt
    have hp13 := s13 _ _ hp12
    have nbtp : dbt ≠ p := (ne_of_none hp12 ndbt).symm
    refine ⟨_, rfl, p, _, dx, _, rfl, hp13, T.cl_Problem, T.na_Problem__bad_tuples, (by show 5 < 1000; decide), ?_⟩
    let fB := putF "_bad_tuples" (.ref dbt) fS
    have mvp : Mv (fun a => a = p) H13 (upd H13 p (.ins T.C_Problem dx fB)) := fun a o na e => by rw [upd_ne na]; exact e
    have s14 := same_p (o := .ins T.C_Problem dx fB) (s12.trans s13) n0
    have hp14 : upd H13 p (.ins T.C_Problem dx fB) p = some (.ins T.C_Problem dx fB) := upd_same
    have hav14 := mvp _ _ nvp (s13 _ _ hav12)
    have hds14 := mvp _ _ ndp (s13 _ _ hds12)
    have hdp14 := mvp _ _ ndpp (s13 _ _ hdp12)
    have hae14 := mvp _ _ nep (s13 _ _ hae12)
    have hdsc14 := mvp _ _ nscp (s13 _ _ hdsc12)
    have hdbt14 := mvp _ _ nbtp hdbt
    have pev14 := Paired.mono (fun _ _ z => isEv.mv (isEv.mv z (Mv.of_same s13 (W := fun _ => False)) (fun _ _ z => z)) mvp fun a ha => ha.2.2) pev12
    have pent14 := Paired.mono (fun _ _ z => isEnt.mv (isEnt.mv z (Mv.of_same s13 (W := fun _ => False)) (fun _ _ z => z) (fun _ _ z => z)) mvp (fun a ha => ha.2.2) oap) pent12
    have nbt0 := Same.none s12 ndbt
    generalize upd H13 p (.ins T.C_Problem dx fB) = H14 at mvp s14 hp14 hav14 hds14 hdp14 hae14 hdsc14 hdbt14 pev14 pent14
    clear mvp hdbt s13 hp13 pev12 pent12 hp12 hav12 hds12 hae12 hdsc12 s12 ndbt evs
    -- self._neighbors
    refine ⟨dsc, _, hdsc14, trivial, fun od2 => ?_⟩
    have hpu : upd H14 dsc (.frz od2 (.dK (kvS E))) p = some (.ins T.C_Problem dx fB) := by rw [upd_ne (Ne.symm nscp)]; exact hp14
    refine ⟨_, rfl, p, _, dx, _, _, rfl, hpu, T.cl_Problem, T.na_Problem__scopes, (lookup_putF ..).trans ((if_neg (by decide +kernel)).trans ((lookup_putF ..).trans (if_pos rfl))), dsc, od2, rfl, .inl ⟨kvS E, upd_same, fun dn ndn => ?_⟩⟩
    let F2 : Addr → Prop := fun t => H0 t = none ∧ t ≠ dn ∧ t ≠ p ∧ t ≠ dsc
    have scs : ∀ {H' : Hp}, Same (upd H14 dsc (.frz od2 (.dK (kvS E)))) H' → Paired (scAt H') E R := fun s' => Paired.mono (fun q r ⟨e1, _, _, hsc, _⟩ => ⟨e1, s' _ _ (by rw [upd_ne (ne_of hsc hdsc14 (by simp))]; exact hsc)⟩) pent14
    have ndn0 : H0 dn = none := Same.none s14 (by
      by_cases e : dn = dsc
      · rw [e, upd_same] at ndn; cases ndn
      · rw [upd_ne e] at ndn; exact ndn)
    have nndp : dn ≠ p := fun e => by rw [e, hpu] at ndn; cases ndn
    refine dc_it walk_keys (fun i H' => (∃ N : List (Str × Addr), H' dn = some (.dK (kvN N)) ∧ Paired (isNb H' F2 R) N (R.take i)) ∧ Same (upd H14 dsc (.frz od2 (.dK (kvS E)))) H') ⟨⟨[], upd_same, .nil⟩, Same.new ndn⟩ (fun i H' _ h => frz_at h.2) ?_ ?_
    · rintro i x H15 H16 hi ⟨⟨N, h1, hN⟩, h2⟩ ⟨rfl, k, v, hk, rfl⟩
      have li : i < E.length := by unfold kvS at hi; rwa [List.length_map] at hi
      have liR : i < R.length := by omega
      obtain ⟨w, hw, ew, _⟩ := pd_get pent14 (List.getElem?_eq_getElem li)
      obtain ⟨_, ew2⟩ := List.getElem?_eq_some_iff.mp hw
      have mw := List.mem_of_getElem? hw
      have eq1 : (kvS E)[i]? = some (Sum.inr w.1, V.ref E[i].2.1) := by unfold kvS; rw [List.getElem?_map, List.getElem?_eq_getElem li, ← ew]; rfl
      rw [eq1] at hk
      cases hk
      refine ⟨rfl, _, rfl, _, rfl, _, rfl, p, _, dx, _, _, rfl, h2 _ _ hpu, T.cl_Problem, T.na_Problem__scopes, (lookup_putF ..).trans ((if_neg (by decide +kernel)).trans ((lookup_putF ..).trans (if_pos rfl))), ?_⟩
      refine ⟨dsc, od2, E, R, w, rfl, frz_at h2, r8, okR.nd, mw, scs h2, fun r hr => (okR.ok r hr).few, fun p' H17 s17 np' hp' => ?_⟩
      have kN : N.map (·.1) = (R.take i).map (·.1) := by
        clear h1
        revert hN
        generalize R.take i = R'
        intro hN
        induction hN with
        | nil => rfl
        | cons r t ih => rw [List.map_cons, List.map_cons, r.1, ih]
      have hn := val_none (l := N) (f := fun q => q.1) (g := fun q => V.ref q.2) (x := w.1) (by
        rw [kN, List.map_take, ← ew2]
        have h := not_mem_take okR.nd (i := i) (by rw [List.length_map]; exact liR)
        rw [List.getElem_map] at h
        exact h)
      have lN := hN.length
      have np0 : H0 p' = none := Same.none s14 (by
        have := Same.none h2 np'
        by_cases e : p' = dsc
        · rw [e, upd_same] at this; cases this
        · rw [upd_ne e] at this; exact this)
      have nd1 : p' ≠ dn := fun e => by rw [e, h1] at np'; cases np'
      have nd2 : p' ≠ p := fun e => by rw [e, h2 _ _ hpu] at np'; cases np'
      have nd3 : p' ≠ dsc := fun e => by rw [e, frz_at h2] at np'; cases np'
      refine ⟨kvN N, Sum.inr w.1, rfl, s17 _ _ h1, by unfold kvN; rw [List.length_map, lN, List.length_take, sizeLine_eq]; omega, ⟨N ++ [(w.1, p')], ?_, ?_⟩, Same.upd_p (h2.trans s17) ndn⟩
      · rw [upd_same]; unfold kvN; rw [putK_new _ hn, List.map_append]; rfl
      · have mdn : Mv (fun a => a = dn) H17 (upd H17 dn (.dK (putK (kvN N) (Sum.inr w.1) (.ref p')))) := fun a o na e => by rw [upd_ne na]; exact e
        rw [take_snoc liR, ew2]
        refine Paired.snoc (Paired.mono (fun _ _ z => isNb.mv (isNb.mv z (Mv.of_same s17 (W := fun _ => False)) fun _ _ z => z) mdn fun a ha => ha.2.1) hN) ?_
        exact ⟨rfl, ⟨np0, nd1, nd2, nd3⟩, mdn _ _ nd1 hp'⟩
    rintro H15 ⟨⟨N, hdn, hN⟩, s15⟩
    have lkE : (kvS E).length = R.length := by unfold kvS; rw [List.length_map, lE]
    rw [lkE, List.take_length] at hN
    refine ⟨frz_at s15, ?_⟩
    have s16 := Same.unlock hdsc14 s15
    have mdsc : Mv (fun a => a = dsc) H15 (upd H15 dsc (.dK (kvS E))) := fun a o na e => by rw [upd_ne na]; exact e
    have nndsc : dn ≠ dsc := fun e => by rw [e, upd_same] at ndn; cases ndn
    have hdn16 := mdsc _ _ nndsc hdn
    have hN16 := Paired.mono (fun _ _ z => isNb.mv z mdsc fun a ha => ha.2.2.2) hN
    generalize upd H15 dsc (.dK (kvS E)) = H16 at s16 mdsc hdn16 hN16
    have hp16 := s16 _ _ hp14
    refine ⟨_, rfl, p, _, dx, _, rfl, hp16, T.cl_Problem, T.na_Problem__neighbors, (by show 6 < 1000; decide), ?_⟩
    have mvp : Mv (fun a => a = p) H16 (upd H16 p (.ins T.C_Problem dx (pfl av ds dp ae dsc dbt dn))) := fun a o na e => by rw [upd_ne na]; exact e
    have ms := Mv.of_same s16 (W := fun _ => False)
    refine q _ (same_p (s14.trans s16) n0) ⟨dx, av, ds, dp, ae, dsc, dbt, dn, E, xs, es, upd_same, ⟨n0, nav0, nds0, nae0, nsc0, nbt0, ⟨N, ndn0, mvp _ _ nndp hdn16, Paired.mono (fun _ _ z => ?_) hN16⟩, ndp0, mvp _ _ ndpp (ms _ _ id hdp14)⟩, ⟨mvp _ _ nvp (ms _ _ id hav14), ?_⟩, mvp _ _ ndp (ms _ _ id hds14), ⟨mvp _ _ nep (ms _ _ id hae14), ?_, ?_⟩, mvp _ _ nscp (ms _ _ id hdsc14), mvp _ _ nbtp (ms _ _ id hdbt14)⟩
    · obtain ⟨z1, z2, z3⟩ := isNb.mv z mvp fun a ha => ha.2.2.1
      exact ⟨z1, z2.1, z3⟩
    · exact Paired.mono (fun _ _ z => isPair.same z (same_p (s14.trans s16) n0)) pdL
    · exact Paired.mono (fun _ _ z => isEv.wk (isEv.mv (isEv.mv z ms (fun _ _ z => z)) mvp fun a ha => ha.2.2) fun a ha => ha.1) pev14
    · exact Paired.mono (fun _ _ z => isEnt.wk (isEnt.mv (isEnt.mv z ms (fun _ _ z => z) (fun _ _ z => z)) mvp (fun a ha => ha.2.2) oap) fun a ha => ha.1) pent14

end K38
namespace K38
open PySem PySem.Spec PyProof.Rows L2 TL
/-! ### what a problem tells -/
theorem pfl_no {m : Str} (av ds dp ae dsc dbt dn : Addr) (h : ([("_neighbors" : Str), "_bad_tuples", "_scopes", "_events", "_places", "_sizes", "_variables"].all fun k => decide (¬ m = k)) = true) : (pfl av ds dp ae dsc dbt dn).lookup m = none := by
  simp only [List.all_cons, List.all_nil, Bool.and_eq_true, decide_eq_true_eq] at h
  obtain ⟨h1, h2, h3, h4, h5, h6, h7, _⟩ := h
  unfold pfl
  exact (lookup_putF ..).trans ((if_neg h1).trans ((lookup_putF ..).trans ((if_neg h2).trans ((lookup_putF ..).trans ((if_neg h3).trans ((lookup_putF ..).trans ((if_neg h4).trans ((lookup_putF ..).trans ((if_neg h5).trans ((lookup_putF ..).trans ((if_neg h6).trans ((lookup_putF ..).trans ((if_neg h7).trans rfl)))))))))))))
theorem ent_of {H : Hp} {F G : Addr → Prop} {E : List Ent} {R : List Row} (h : Paired (isEnt H F G) E R) (nd : (R.map (·.1)).Nodup) {r : Row} (hr : r ∈ R) : ∃ q : Ent, q ∈ E ∧ isEnt H F G q r ∧ valV (kvS E) (Sum.inr r.1) = some (.ref q.2.1) ∧ valV (kvB E) (Sum.inr r.1) = some (.ref q.2.2) := by
  have nde : (E.map (·.1)).Nodup := by rw [ent_keys h]; exact nd
  obtain ⟨i, hi⟩ := List.getElem?_of_mem hr
  obtain ⟨q, hq, f⟩ := pd_get' h hi
  have mq := List.mem_of_getElem? hq
  have e := f.1
  refine ⟨q, mq, f, ?_, ?_⟩
  · rw [← e]; exact val_map (fun q => q.1) (fun q => V.ref q.2.1) nde mq
  · rw [← e]; exact val_map (fun q => q.1) (fun q => V.ref q.2.2) nde mq
def sp_pevs (C : Addr) : Sp := fun vs H Q _ => ∃ (p : Addr) (F G : Addr → Prop) (L : List (Str × Int)) (R : List Row), vs = [.ref p] ∧ IsP C H F G p L R ∧ ∀ l, H l = none → Q (.ref l) (upd H l (.lst ((R.map (·.1)).map V.str)))
theorem kvS_keys {H : Hp} {F G : Addr → Prop} {E : List Ent} {R : List Row} (h : Paired (isEnt H F G) E R) : (kvS E).map (fun kv => kV kv.1) = (R.map (·.1)).map V.str := by
  rw [← ent_keys h]; unfold kvS; rw [List.map_map, List.map_map]; rfl
theorem ok_Problem_events {P : Program} {w : World} {K : PySem.W.Frag} {mg : Str → Option Value} {base : Heap} (T : Txt P K mg) : FnOk P w K mg base CX0 1 T.f_Problem_events T.fd_Problem_events ["self"] (sp_pevs T.C_Problem) := by
  refine T.F_Problem_events.ok sc_Problem_events (fun vs H Q E h => ?_) (fun cdv A outer s H vs Q E hr h => ?_)
  · obtain ⟨_, _, _, _, _, rfl, _⟩ := h; rfl
  · obtain ⟨p, F, G, L, R, rfl, ⟨dx, av, ds, dp, ae, dsc, dbt, dn, E, xs, es, hp, _, _, _, ⟨_, _, h6⟩, h7, _⟩, q⟩ := h
    refine ⟨_, PSs.nox (pss_one (ps_ret (pe_callTy (show CallR _ _ rListD from call_list_dK (by rfl)) (by rfl) T.n_list (by decide +kernel) (pa_cons (show PE _ _ (tFld K _ _) from pe_fld (pv 0) rfl) pa_nil)))), ?_⟩
    exact ⟨_, rfl, p, _, dx, _, _, rfl, hp, T.cl_Problem, T.na_Problem__scopes, pfl_scopes .., dsc, _, rfl, h7, fun l nl => by rw [kvS_keys h6]; exact q l nl⟩
def sp_pev (C : Addr) (v : V) : Sp := fun vs H Q _ => ∃ (p : Addr) (F G : Addr → Prop) (L : List (Str × Int)) (R : List Row) (r : Row), vs = [.ref p, .str r.1] ∧ IsP C H F G p L R ∧ (R.map (·.1)).Nodup ∧ r ∈ R ∧ Q v H
theorem ok_Problem_is_event {P : Program} {w : World} {K : PySem.W.Frag} {mg : Str → Option Value} {base : Heap} (T : Txt P K mg) : FnOk P w K mg base CX0 1 T.f_Problem_is_event T.fd_Problem_is_event ["self", "value"] (sp_pev T.C_Problem (.bl true)) := by
  refine T.F_Problem_is_event.ok sc_Problem_is_event (fun vs H Q E h => ?_) (fun cdv A outer s H vs Q E hr h => ?_)
  · obtain ⟨_, _, _, _, _, _, rfl, _⟩ := h; rfl
  · obtain ⟨p, F, G, L, R, r, rfl, ⟨dx, av, ds, dp, ae, dsc, dbt, dn, E, xs, es, hp, _, _, _, ⟨_, _, h6⟩, h7, _⟩, nd, hr', q⟩ := h
    obtain ⟨qe, _, _, v1, _⟩ := ent_of h6 nd hr'
    refine ⟨_, PSs.nox (pss_one (ps_ret (pe_and (pe_callB (show CallR _ _ (rIsi K) from call_isi) (by rfl) T.n_isinstance (by decide +kernel) (pa_cons (pv 1) (pa_cons (pe_bltn (v := .ty "str") (by rfl) T.n_str (by decide +kernel) rfl) pa_nil))) (pe_one (pe_cmp (pc_din (hu_of hr) (pv 1) (show PE _ _ (tFld K _ _) from pe_fld (pv 0) rfl))))))), ?_⟩
    have dg : DGet H dsc (.str r.1) (some (.ref qe.2.1)) := by rw [← v1]; exact DGet.k (k := Sum.inr r.1) h7
    exact ⟨_, rfl, _, _, _, _, _, rfl, .ty _, .base (.str _), kit_ss, _, rfl, _, rfl, _, rfl, p, _, dx, _, _, rfl, hp, T.cl_Problem, T.na_Problem__scopes, pfl_scopes .., dsc, _, rfl, dg, q⟩
theorem ok_Problem_check_event {P : Program} {w : World} {K : PySem.W.Frag} {mg : Str → Option Value} {base : Heap} (T : Txt P K mg) : FnOk P w K mg base CX0 2 T.f_Problem_check_event T.fd_Problem_check_event ["self", "value"] (sp_pev T.C_Problem .non) := by
  refine T.F_Problem_check_event.ok sc_Problem_check_event (fun vs H Q E h => ?_) (fun cdv A outer s H vs Q E hr h => ?_)
  · obtain ⟨_, _, _, _, _, _, rfl, _⟩ := h; rfl
  · obtain ⟨p, F, G, L, R, r, rfl, hP, nd, hr', q⟩ := h
    have hP' := hP
    obtain ⟨dx, av, ds, dp, ae, dsc, dbt, dn, E, xs, es, hp, _⟩ := hP'
    refine ⟨_, PSs.nox (pss_one (ps_if (pt_not (pt_val (pe_meth (pl := _) (pv 0) T.cl_Problem T.m_Problem_is_event (ok_Problem_is_event T) (hr.mono (by decide)) (b_Problem_is_event T) .nil pass0 (pa_cons (pv 1) pa_nil)))) (pss_one ps_never) pss_nil)), ?_⟩
    exact ⟨_, rfl, p, dx, _, rfl, hp, pfl_no _ _ _ _ _ _ _ (by decide +kernel), _, rfl, p, F, G, L, R, r, rfl, hP, nd, hr', _, rfl, q⟩
theorem pfl_nb (av ds dp ae dsc dbt dn : Addr) : (pfl av ds dp ae dsc dbt dn).lookup ("_neighbors" : Str) = some (.ref dn) := (lookup_putF ..).trans (if_pos rfl)
theorem nb_of {H : Hp} {F : Addr → Prop} {N : List (Str × Addr)} {R R' : List Row} (h : Paired (isNb H F R') N R) (nd : (R.map (·.1)).Nodup) {r : Row} (hr : r ∈ R) : ∃ z : Str × Addr, valV (kvN N) (Sum.inr r.1) = some (.ref z.2) ∧ H z.2 = some (.lst ((nbs R' r).map V.str)) := by
  have kN : N.map (·.1) = R.map (·.1) := by
    clear nd hr
    induction h with
    | nil => rfl
    | cons r t ih => rw [List.map_cons, List.map_cons, r.1, ih]
  obtain ⟨i, hi⟩ := List.getElem?_of_mem hr
  obtain ⟨z, hz, e, _, hl⟩ := pd_get' h hi
  refine ⟨z, ?_, hl⟩
  rw [← e]
  exact val_map (fun q => q.1) (fun q => V.ref q.2) (by rw [kN]; exact nd) (List.mem_of_getElem? hz)
def sp_pnbs (C : Addr) : Sp := fun vs H Q _ => ∃ (p : Addr) (F G : Addr → Prop) (L : List (Str × Int)) (R : List Row) (r : Row), vs = [.ref p, .str r.1] ∧ IsP C H F G p L R ∧ (R.map (·.1)).Nodup ∧ r ∈ R ∧ ∀ l, H l = none → Q (.ref l) (upd H l (.lst ((nbs R r).map V.str)))
theorem ok_Problem_neighbors {P : Program} {w : World} {K : PySem.W.Frag} {mg : Str → Option Value} {base : Heap} (T : Txt P K mg) : FnOk P w K mg base CX0 3 T.f_Problem_neighbors T.fd_Problem_neighbors ["self", "event"] (sp_pnbs T.C_Problem) := by
  refine T.F_Problem_neighbors.ok sc_Problem_neighbors (fun vs H Q E h => ?_) (fun cdv A outer s H vs Q E hr h => ?_)
  · obtain ⟨_, _, _, _, _, _, rfl, _⟩ := h; rfl
  · obtain ⟨p, F, G, L, R, r, rfl, hP, nd, hr', q⟩ := h
    have hP' := hP
    obtain ⟨dx, av, ds, dp, ae, dsc, dbt, dn, E1, xs, es, hp, ⟨_, _, _, _, _, _, ⟨N, _, hN, pN⟩, _⟩, _⟩ := hP'
    obtain ⟨z, v1, hz⟩ := nb_of pN nd hr'
    have dg : DGet H dn (.str r.1) (some (.ref z.2)) := by rw [← v1]; exact DGet.k (k := Sum.inr r.1) hN
    refine ⟨_, PSs.nox (pss_cons (ps_expr (pe_meth (pl := _) (pv 0) T.cl_Problem T.m_Problem_check_event (ok_Problem_check_event T) (hr.mono (by decide)) (b_Problem_check_event T) .nil pass0 (pa_cons (pv 1) pa_nil)))
      (pss_one (ps_ret (pe_callTy (show CallR _ _ (rListOf K) from call_list_of) (by rfl) T.n_list (by decide +kernel) (pa_cons (pe_dget (hu_of hr) (show PE _ _ (tFld K _ _) from pe_fld (pv 0) rfl) (pv 1) (fun _ _ => rfl)) pa_nil))))), ?_⟩
    refine ⟨_, rfl, p, dx, _, rfl, hp, pfl_no _ _ _ _ _ _ _ (by decide +kernel), _, rfl, p, F, G, L, R, r, rfl, hP, nd, hr', ?_⟩
    exact ⟨_, rfl, p, _, dx, _, _, rfl, hp, T.cl_Problem, T.na_Problem__neighbors, pfl_nb .., _, rfl, dn, _, rfl, dg, z.2, _, rfl, .inl (SqL.of hz), fun l nl => q l nl⟩
/-- no problem: isinstance says no -/
def NotP (K : PySem.W.Frag) (C : Addr) (H : Hp) (v : V) : Prop := ∃ t, TyX K H v t ∧ PySem.W.kitOne K t (.ref C) = some false
def raisesP (CI : Addr) (E : XK) (v : V) (H : Hp) : Prop := ∀ e, H e = none → E (.ref CI) (some e) (upd H e (.xd [("value", v)]))
def sp_chkp (K : PySem.W.Frag) (C CI : Addr) : Sp := fun vs H Q E => ∃ v : V, vs = [v] ∧ ((∃ (p : Addr) (F G : Addr → Prop) (L : List (Str × Int)) (R : List Row), v = .ref p ∧ IsP C H F G p L R ∧ Q .non H) ∨ (NotP K C H v ∧ raisesP CI E v H))
theorem ok_check_problem {P : Program} {w : World} {K : PySem.W.Frag} {mg : Str → Option Value} {base : Heap} (T : Txt P K mg) : FnOk P w K mg base (L2.CX P w) 1 T.f_check_problem T.fd_check_problem ["value"] (sp_chkp K T.C_Problem T.C_InvalidProblem) := by
  refine T.F_check_problem.ok sc_check_problem (fun vs H Q E h => ?_) (fun cdv A outer s H vs Q E hr h => ?_)
  · obtain ⟨_, rfl, _⟩ := h; rfl
  · obtain ⟨v, rfl, h⟩ := h
    refine ⟨_, (pss_one (ps_if (pt_not (pt_val (pe_callB (show CallR _ _ (rIsi K) from call_isi) (by rfl) T.n_isinstance (by decide +kernel) (pa_cons (pv 0) (pa_cons (pe_glob (v := .ref T.C_Problem) (by rfl) T.g_Problem rfl) pa_nil))))) (pss_one (ps_raiseX rfl T.x_InvalidProblem hr (takes_of rfl rfl rfl rfl) (pa_cons (pv 0) pa_nil))) pss_nil)), ?_⟩
    rcases h with ⟨p, F, G, L, R, rfl, ⟨dx, av, ds, dp, ae, dsc, dbt, dn, E1, xs, es, hp, _⟩, q⟩ | ⟨⟨t, ty, k⟩, q⟩
    · exact ⟨_, rfl, _, _, _, _, _, rfl, .own _, T.ow_Problem.ty hp, T.ow_Problem.me, _, rfl, q⟩
    · exact ⟨_, rfl, _, _, t, _, _, rfl, .own _, ty, k, _, rfl, _, rfl, _, rfl, fun e ne => q e ne⟩
/-- what adjacent events are -/
theorem in_nbs {R : List Row} (nd : (R.map (·.1)).Nodup) {r s : Row} (hs : s ∈ R) : decide (s.1 ∈ nbs R r) = ((!decide (s.1 = r.1)) && share r.2.1 s.2.1) := by
  rw [← Bool.decide_coe ((!decide (s.1 = r.1)) && share r.2.1 s.2.1), decide_eq_decide]
  unfold nbs
  constructor
  · intro h
    obtain ⟨w, hw, e⟩ := List.mem_map.mp h
    obtain ⟨hw1, hw2⟩ := List.mem_filter.mp hw
    have : w = s := by
      clear h hw hw2
      induction R with
      | nil => cases hs
      | cons x R ih =>
        rw [List.map_cons, List.nodup_cons] at nd
        rcases List.mem_cons.mp hw1 with h1 | h1 <;> rcases List.mem_cons.mp hs with h2 | h2
        · rw [h1, h2]
        · exact absurd (List.mem_map.mpr ⟨s, h2, by rw [← e, h1]⟩) nd.1
        · exact absurd (List.mem_map.mpr ⟨w, h1, by rw [e, h2]⟩) nd.1
        · exact ih nd.2 h2 h1
    rw [← this]; exact hw2
  · intro h
    exact List.mem_map.mpr ⟨s, List.mem_filter.mpr ⟨hs, h⟩, rfl⟩
theorem nd_at {l : List Str} (nd : l.Nodup) {i j : Nat} {x : Str} (hi : l[i]? = some x) (hj : l[j]? = some x) : i = j := by
  obtain ⟨la, ea⟩ := List.getElem?_eq_some_iff.mp hi
  obtain ⟨lb, eb⟩ := List.getElem?_eq_some_iff.mp hj
  have p := List.pairwise_iff_getElem.mp (List.nodup_iff_pairwise_ne.mp nd)
  rcases Nat.lt_trichotomy i j with h | h | h
  · exact absurd (ea.trans eb.symm) (p i j la lb h)
  · exact h
  · exact absurd (eb.trans ea.symm) (p j i lb la h)
theorem pd_set {α β : Type} {F : α → β → Prop} : ∀ {l : List α} {m : List β} {i : Nat} {x : α} {y : β}, Paired F l m → F x y → Paired F (l.set i x) (m.set i y)
  | _, _, _, _, _, .nil, _ => .nil
  | _, _, 0, _, _, .cons _ t, h => .cons h t
  | _, _, i + 1, _, _, .cons r t, h => .cons r (pd_set t h)


end K38
namespace K38
open PySem PySem.Spec PyProof.Rows L2 TL
/-! ### groups of places, level by level -/
def nxt (ad : Nat → Nat → Bool) (n : Nat) (g : List Nat) : List Nat := (List.range n).filter fun k => g.all fun j => decide (j < k) && !ad j k
def lvl (ad : Nat → Nat → Bool) (n : Nat) : Nat → List (List Nat)
  | 0 => [[]]
  | k + 1 => (lvl ad n k).flatMap fun g => (nxt ad n g).map fun j => g ++ [j]
def pre (ad : Nat → Nat → Bool) (n m : Nat) : List (List Nat) := ((List.range m).map (lvl ad n)).flatten
section
variable {ad : Nat → Nat → Bool} {n : Nat}
theorem nxt_sorted (g : List Nat) : (nxt ad n g).Pairwise (· < ·) := List.Pairwise.filter _ List.pairwise_lt_range
theorem nxt_lt {g : List Nat} {k : Nat} (h : k ∈ nxt ad n g) : k < n := List.mem_range.mp (List.mem_filter.mp h).1
theorem drop_filter : ∀ {l : List Nat} {p k : Nat}, l.Pairwise (· < ·) → l[p]? = some k → l.drop (p + 1) = l.filter fun x => decide (k < x)
  | [], _, _, _, h => by simp at h
  | a :: l, 0, k, hs, h => by
    simp at h; subst h
    have h1 := List.pairwise_cons.mp hs
    rw [List.drop_succ_cons, List.drop_zero, List.filter_cons, if_neg (by simp)]
    exact (List.filter_eq_self.mpr fun x hx => decide_eq_true (h1.1 x hx)).symm
  | a :: l, p + 1, k, hs, h => by
    have h1 := List.pairwise_cons.mp hs
    have hk : l[p]? = some k := by simpa using h
    have hak : a < k := h1.1 k (List.mem_of_getElem? hk)
    rw [List.drop_succ_cons, drop_filter h1.2 hk, List.filter_cons, if_neg (by simp; omega)]
theorem nxt_snoc {g : List Nat} {p k : Nat} (h : (nxt ad n g)[p]? = some k) : nxt ad n (g ++ [k]) = ((nxt ad n g).drop (p + 1)).filter fun x => !ad k x := by
  rw [drop_filter (nxt_sorted g) h]
  unfold nxt
  rw [List.filter_filter, List.filter_filter]
  refine List.filter_congr fun x _ => ?_
  simp only [List.all_append, List.all_cons, List.all_nil, Bool.and_true]
  cases ad k x <;> cases decide (k < x) <;> cases (g.all fun j => decide (j < x) && !ad j x) <;> rfl
theorem lvl_mem : ∀ {k : Nat} {g : List Nat}, g ∈ lvl ad n k → g.length = k ∧ (∀ j ∈ g, j < n) ∧ g.Pairwise (· < ·)
  | 0, g, h => by
    rw [lvl, List.mem_singleton] at h; subst h
    exact ⟨rfl, fun _ h => (by cases h), .nil⟩
  | k + 1, g, h => by
    rw [lvl, List.mem_flatMap] at h
    obtain ⟨f, hf, h⟩ := h
    obtain ⟨j, hj, rfl⟩ := List.mem_map.mp h
    obtain ⟨h1, h2, h3⟩ := lvl_mem hf
    have hj2 := (List.mem_filter.mp hj).2
    refine ⟨by rw [List.length_append, h1]; rfl, fun x hx => ?_, List.pairwise_append.mpr ⟨h3, List.pairwise_singleton _ _, fun a ha b hb => ?_⟩⟩
    · rcases List.mem_append.mp hx with q | q
      · exact h2 x q
      · rw [List.mem_singleton.mp q]; exact nxt_lt hj
    · rw [List.mem_singleton.mp hb]
      have := List.all_eq_true.mp hj2 a ha
      simp at this
      exact this.1
/-- a weight that tells how many there can be -/
def wgt (ad : Nat → Nat → Bool) (n : Nat) (L : List (List Nat)) : Nat := (L.map fun g => 2 ^ (nxt ad n g).length).sum
theorem wgt_app (A B : List (List Nat)) : wgt ad n (A ++ B) = wgt ad n A + wgt ad n B := by unfold wgt; rw [List.map_append, List.sum_append]
theorem wgt_grow (g : List Nat) : ∀ d, d ≤ (nxt ad n g).length → wgt ad n (((nxt ad n g).drop ((nxt ad n g).length - d)).map fun j => g ++ [j]) + 1 ≤ 2 ^ d
  | 0, _ => by rw [Nat.sub_zero, List.drop_length]; exact Nat.le_refl _
  | d + 1, h => by
    have ih := wgt_grow g d (by omega)
    have hl : (nxt ad n g).length - (d + 1) < (nxt ad n g).length := by omega
    rw [List.drop_eq_getElem_cons hl, show (nxt ad n g).length - (d + 1) + 1 = (nxt ad n g).length - d by omega, List.map_cons, ← List.singleton_append, wgt_app]
    have e : (nxt ad n (g ++ [(nxt ad n g)[(nxt ad n g).length - (d + 1)]])).length ≤ d := by
      rw [nxt_snoc (List.getElem?_eq_getElem hl)]
      refine Nat.le_trans (List.length_filter_le _ _) ?_
      rw [List.length_drop]; omega
    have e2 : wgt ad n [g ++ [(nxt ad n g)[(nxt ad n g).length - (d + 1)]]] ≤ 2 ^ d := by
      unfold wgt
      simp only [List.map_cons, List.map_nil, List.sum_cons, List.sum_nil, Nat.add_zero]
      exact Nat.pow_le_pow_right (by decide) e
    rw [Nat.pow_succ]; omega
theorem wgt_next : ∀ L : List (List Nat), wgt ad n (L.flatMap fun g => (nxt ad n g).map fun j => g ++ [j]) + L.length ≤ wgt ad n L
  | [] => Nat.le_refl _
  | g :: L => by
    have ih := wgt_next L
    have h := wgt_grow (ad := ad) (n := n) g _ (Nat.le_refl _)
    rw [Nat.sub_self, List.drop_zero] at h
    rw [List.flatMap_cons, wgt_app, List.length_cons, ← List.singleton_append, wgt_app]
    have e : wgt ad n [g] = 2 ^ (nxt ad n g).length := by simp [wgt]
    rw [e]; omega
theorem wgt_0 : wgt ad n [[]] = 2 ^ n := by
  have e : nxt ad n [] = List.range n := List.filter_eq_self.mpr fun _ _ => rfl
  simp [wgt, e]
theorem pre_succ (m : Nat) : pre ad n (m + 1) = pre ad n m ++ lvl ad n m := by
  unfold pre; rw [List.range_succ, List.map_append, List.flatten_append]; simp
theorem wgt_lvl : ∀ m, wgt ad n (lvl ad n m) + (pre ad n m).length ≤ 2 ^ n
  | 0 => by rw [lvl, wgt_0]; exact Nat.le_refl _
  | m + 1 => by
    have ih := wgt_lvl m
    have h := wgt_next (ad := ad) (n := n) (lvl ad n m)
    rw [pre_succ, List.length_append, lvl]; omega
theorem lvl_len (m : Nat) : (lvl ad n m).length ≤ wgt ad n (lvl ad n m) := by
  have h := wgt_next (ad := ad) (n := n) (lvl ad n m); omega
theorem lvl_nil {m : Nat} (h : lvl ad n m = []) : ∀ d, lvl ad n (m + d) = []
  | 0 => h
  | d + 1 => by rw [← Nat.add_assoc, lvl, lvl_nil h d]; rfl
theorem pre_uniq {m m' : Nat} (h : lvl ad n m = []) (h' : lvl ad n m' = []) : pre ad n m = pre ad n m' := by
  have key : ∀ {m : Nat}, lvl ad n m = [] → ∀ d, pre ad n (m + d) = pre ad n m := fun {m} h d => by
    induction d with
    | zero => rfl
    | succ d ih => rw [← Nat.add_assoc, pre_succ, ih, lvl_nil h d, List.append_nil]
  rcases Nat.le_total m m' with l | l
  · obtain ⟨d, rfl⟩ := Nat.le.dest l; exact (key h d).symm
  · obtain ⟨d, rfl⟩ := Nat.le.dest l; exact key h' d
theorem sorted_len : ∀ {n : Nat} {g : List Nat}, (∀ j ∈ g, j < n) → g.Pairwise (· < ·) → g.length ≤ n := by
  intro n g h p
  have nd : g.Nodup := List.nodup_iff_pairwise_ne.mpr (p.imp fun h => Nat.ne_of_lt h)
  have key : ∀ {l m : List Nat}, l.Nodup → (∀ x ∈ l, x ∈ m) → l.length ≤ m.length := by
    intro l
    induction l with
    | nil => intro m _ _; exact Nat.zero_le _
    | cons x t ih =>
      intro m nd h
      rw [List.nodup_cons] at nd
      have hx := h x List.mem_cons_self
      have := ih (m := m.erase x) nd.2 fun y hy => (List.mem_erase_of_ne (fun e => nd.1 (by rw [← e]; exact hy))).mpr (h y (List.mem_cons_of_mem _ hy))
      rw [List.length_erase_of_mem hx] at this
      have hp := List.length_pos_of_mem hx
      rw [List.length_cons]
      omega
  have := key nd (m := List.range n) fun x hx => List.mem_range.mpr (h x hx)
  rwa [List.length_range] at this
theorem pre_mem {m : Nat} {g : List Nat} (h : g ∈ pre ad n m) : g.length < m ∧ (∀ j ∈ g, j < n) ∧ g.Pairwise (· < ·) := by
  unfold pre at h
  obtain ⟨L, hL, hg⟩ := List.mem_flatten.mp h
  obtain ⟨k, hk, rfl⟩ := List.mem_map.mp hL
  obtain ⟨h1, h2, h3⟩ := lvl_mem hg
  exact ⟨by rw [h1]; exact List.mem_range.mp hk, h2, h3⟩
/-! ### sums by size -/
def Stp : Nat → List (List Nat) → Prop
  | _, [] => True
  | t, g :: gs => (g.length = t ∧ Stp (t + 1) gs) ∨ (g.length + 1 = t ∧ Stp t gs)
theorem stp_run {k : Nat} : ∀ {L r : List (List Nat)}, (∀ g ∈ L, g.length = k) → Stp (k + 1) r → Stp (k + 1) (L ++ r)
  | [], _, _, h => h
  | g :: L, r, hL, h => .inr ⟨by rw [hL g List.mem_cons_self], stp_run (fun x hx => hL x (List.mem_cons_of_mem _ hx)) h⟩
theorem stp_lvl {k : Nat} {L r : List (List Nat)} (ne : L ≠ []) (hL : ∀ g ∈ L, g.length = k) (h : Stp (k + 1) r) : Stp k (L ++ r) := by
  cases L with
  | nil => exact absurd rfl ne
  | cons g L => exact .inl ⟨hL g List.mem_cons_self, stp_run (fun x hx => hL x (List.mem_cons_of_mem _ hx)) h⟩
theorem stp_pre : ∀ (d k : Nat), Stp k (((List.range' k d).map (lvl ad n)).flatten)
  | 0, k => by simp [Stp]
  | d + 1, k => by
    rw [List.range'_succ, List.map_cons, List.flatten_cons]
    by_cases h : lvl ad n k = []
    · have e : ((List.range' (k + 1) d).map (lvl ad n)).flatten = [] := by
        rw [List.flatten_eq_nil_iff]
        intro l hl
        obtain ⟨j, hj, rfl⟩ := List.mem_map.mp hl
        rw [List.mem_range'] at hj
        obtain ⟨i, _, rfl⟩ := hj
        rw [show k + 1 + 1 * i = k + (1 + i) by omega]
        exact lvl_nil h _
      rw [h, e]; simp [Stp]
    · exact stp_lvl h (fun g hg => (lvl_mem hg).1) (stp_pre d (k + 1))
theorem stp0 (m : Nat) : Stp 0 (pre ad n m) := by
  have := stp_pre (ad := ad) (n := n) m 0
  rwa [← List.range_eq_range'] at this
end
def sgn (k : Nat) (p : Int) : Int := if k % 2 = 0 then p else -p
def prodAt (c : Nat → Int) (g : List Nat) : Int := (g.map c).foldl (· * ·) 1
def stepS (c : Nat → Int) (T : List Int) (g : List Nat) : List Int :=
  let T' := if g.length = T.length then T ++ [0] else T
  T'.set g.length (T'.getD g.length 0 + sgn g.length (prodAt c g))
def stepL (c : Nat → Int) (T : List Int) (g : List Nat) : List Int := T.set g.length (T.getD g.length 0 + sgn g.length (prodAt c g))
theorem stepS_len (c : Nat → Int) (T : List Int) (g : List Nat) : (stepS c T g).length = if g.length = T.length then T.length + 1 else T.length := by
  unfold stepS; simp only [List.length_set]; split <;> simp
theorem fold_pad (c : Nat → Int) (N : Nat) : ∀ {gs : List (List Nat)} {T : List Int}, Stp T.length gs → (∀ g ∈ gs, g.length < N) → T.length ≤ N →
    ∃ z, gs.foldl (stepL c) (T ++ List.replicate (N - T.length) 0) = gs.foldl (stepS c) T ++ List.replicate z 0
  | [], T, _, _, _ => ⟨_, rfl⟩
  | g :: gs, T, hs, hl, hT => by
    have hg := hl g List.mem_cons_self
    have key : stepL c (T ++ List.replicate (N - T.length) 0) g = stepS c T g ++ List.replicate (N - (stepS c T g).length) 0 := by
      rw [stepS_len]
      unfold stepL stepS
      rcases hs with ⟨e, _⟩ | ⟨e, _⟩
      · simp only [e, if_true]
        rw [show N - T.length = (N - (T.length + 1)) + 1 by omega, List.replicate_succ, ← List.singleton_append, ← List.append_assoc]
        rw [List.set_append_left _ _ (by simp), List.getD_eq_getElem?_getD, List.getD_eq_getElem?_getD, List.getElem?_append_left (by simp)]
      · have ne : ¬ g.length = T.length := by omega
        simp only [ne, if_false]
        rw [List.set_append_left _ _ (by omega), List.getD_eq_getElem?_getD, List.getD_eq_getElem?_getD, List.getElem?_append_left (by omega)]
    have hS : Stp (stepS c T g).length gs ∧ (stepS c T g).length ≤ N := by
      rw [stepS_len]
      rcases hs with ⟨e, h⟩ | ⟨e, h⟩
      · rw [if_pos e]; exact ⟨h, by omega⟩
      · rw [if_neg (by omega)]; exact ⟨h, hT⟩
    obtain ⟨z, hz⟩ := fold_pad c N hS.1 (fun x hx => hl x (List.mem_cons_of_mem _ hx)) hS.2
    exact ⟨z, by rw [List.foldl_cons, List.foldl_cons, key]; exact hz⟩
/-- trailing zeros fall -/
def trimZ (T : List Int) : List Int := (T.reverse.dropWhile fun x => decide (x = 0)).reverse
theorem trim_snoc0 (T : List Int) : trimZ (T ++ [0]) = trimZ T := by unfold trimZ; simp
theorem trim_pad (T : List Int) : ∀ z, trimZ (T ++ List.replicate z 0) = trimZ T
  | 0 => by simp
  | z + 1 => by rw [List.replicate_succ', ← List.append_assoc, trim_snoc0, trim_pad T z]
theorem trim_last {T : List Int} {x : Int} (h : x ≠ 0) : trimZ (T ++ [x]) = T ++ [x] := by unfold trimZ; simp [h]
/-- the first entry stays 1 -/
theorem fold_head (c : Nat → Int) : ∀ {gs : List (List Nat)} {T : List Int}, Stp T.length gs → T.head? = some 1 → (∀ g ∈ gs, 1 ≤ g.length) → (gs.foldl (stepS c) T).head? = some 1
  | [], _, _, h, _ => h
  | g :: gs, T, hs, h, h1 => by
    have hg := h1 g List.mem_cons_self
    obtain ⟨a, T', rfl⟩ : ∃ a T', T = a :: T' := by cases T with
      | nil => cases h
      | cons a T' => exact ⟨a, T', rfl⟩
    have hS : Stp (stepS c (a :: T') g).length gs := by
      rw [stepS_len]
      rcases hs with ⟨e, h⟩ | ⟨e, h⟩
      · rw [if_pos e]; exact h
      · rw [if_neg (by omega)]; exact h
    rw [List.foldl_cons]
    refine fold_head c hS ?_ fun x hx => h1 x (List.mem_cons_of_mem _ hx)
    obtain ⟨k, hk⟩ : ∃ k, g.length = k + 1 := ⟨g.length - 1, by omega⟩
    unfold stepS
    rw [hk]
    split <;> simpa using h
theorem nxt_range {ad : Nat → Nat → Bool} {n : Nat} {g : List Nat} {M : Nat} (h : ∀ j ∈ g, j < M) (e : M = 0 ∨ M - 1 ∈ g) (hM : M ≤ n) : nxt ad n g = (List.range' M (n - M)).filter fun k => g.all fun j => !ad j k := by
  have er : List.range n = List.range' 0 M ++ List.range' M (n - M) := by
    rw [List.range_eq_range', show List.range' M (n - M) = List.range' (0 + M) (n - M) by rw [Nat.zero_add], List.range'_append_1]
    congr 1; omega
  unfold nxt
  rw [er, List.filter_append]
  have e1 : ((List.range' 0 M).filter fun k => g.all fun j => decide (j < k) && !ad j k) = [] := by
    rw [List.filter_eq_nil_iff]
    intro k hk
    rw [List.mem_range'] at hk
    obtain ⟨i, hi, rfl⟩ := hk
    rcases e with e | e
    · omega
    · intro hh
      have := List.all_eq_true.mp hh _ e
      simp at this
      omega
  rw [e1, List.nil_append]
  refine List.filter_congr fun k hk => ?_
  rw [List.mem_range'] at hk
  obtain ⟨i, hi, rfl⟩ := hk
  rw [Bool.eq_iff_iff, List.all_eq_true, List.all_eq_true]
  refine forall_congr' fun j => forall_congr' fun hj => ?_
  have := h j hj
  simp
  intro _
  omega
theorem pre_cons {ad : Nat → Nat → Bool} {n m : Nat} : ∃ r, pre ad n (m + 1) = [] :: r ∧ ∀ g ∈ r, 1 ≤ g.length := by
  refine ⟨((List.range' 1 m).map (lvl ad n)).flatten, ?_, fun g hg => ?_⟩
  · unfold pre
    rw [List.range_eq_range', List.range'_succ, List.map_cons, List.flatten_cons]
    rfl
  · obtain ⟨L, hL, hg⟩ := List.mem_flatten.mp hg
    obtain ⟨k, hk, rfl⟩ := List.mem_map.mp hL
    rw [List.mem_range'] at hk
    obtain ⟨i, _, rfl⟩ := hk
    rw [(lvl_mem hg).1]; omega
theorem head_one {ad : Nat → Nat → Bool} {n m : Nat} (c : Nat → Int) (h : lvl ad n m = []) : ((pre ad n m).foldl (stepS c) []).head? = some 1 := by
  cases m with
  | zero => exact absurd h (by simp [lvl])
  | succ m =>
    obtain ⟨r, e, hr⟩ := pre_cons (ad := ad) (n := n) (m := m)
    have hs := stp0 (ad := ad) (n := n) (m + 1)
    rw [e] at hs ⊢
    have e1 : stepS c [] [] = [1] := by simp [stepS, sgn, prodAt]
    rw [List.foldl_cons, e1]
    rcases hs with ⟨_, hs⟩ | ⟨h0, _⟩
    · exact fold_head c hs rfl hr
    · simp at h0
/-- what one turn of the while loop at the end does -/
theorem trim_turn {X : List Int} (h : X.head? = some 1) : ∃ Y x, X = Y ++ [x] ∧ (x = 0 → Y.head? = some 1 ∧ trimZ X = trimZ Y) ∧ (x ≠ 0 → trimZ X = X) := by
  obtain ⟨Y, x, rfl⟩ : ∃ Y x, X = Y ++ [x] := by
    rcases List.eq_nil_or_concat X with e | ⟨Y, x, e⟩
    · rw [e] at h; cases h
    · exact ⟨Y, x, by rw [e, List.concat_eq_append]⟩
  refine ⟨Y, x, rfl, fun e => ?_, fun e => trim_last e⟩
  subst e
  cases Y with
  | nil => simp at h
  | cons a Y => exact ⟨by simpa using h, trim_snoc0 _⟩
theorem fold_len {c : Nat → Int} : ∀ {gs : List (List Nat)} {T : List Int}, (gs.foldl (stepL c) T).length = T.length
  | [], _ => rfl
  | g :: gs, T => by rw [List.foldl_cons, fold_len]; unfold stepL; rw [List.length_set]
theorem law_sums {ad : Nat → Nat → Bool} {n m : Nat} (c : Nat → Int) (h8 : n ≤ 8) (h : lvl ad n m = []) :
    ∃ X, (pre ad n m).foldl (stepL c) (List.replicate 9 0) = X ∧ X.head? = some 1 ∧ trimZ X = trimZ ((pre ad n m).foldl (stepS c) []) := by
  obtain ⟨z, hz⟩ := fold_pad c 9 (T := []) (stp0 (ad := ad) (n := n) m) (fun g hg => by
    obtain ⟨_, h2, h3⟩ := pre_mem hg
    have := sorted_len h2 h3
    omega) (Nat.zero_le _)
  refine ⟨_, hz, ?_, trim_pad _ _⟩
  have := head_one c h
  cases e : (pre ad n m).foldl (stepS c) [] with
  | nil => rw [e] at this; cases this
  | cons a t => rw [e] at this; simpa using this

end K38
namespace K38
open PySem PySem.Spec PyProof.Rows L2 TL
/-! ### equal problems, and a problem's text -/
theorem dp_strs {K : PySem.W.Frag} {H : Hp} : ∀ ns : List Str, DpAll K H (ns.map V.str) (ns.map PyData.str)
  | [] => .nil
  | n :: r => .cons (.str n) (dp_strs r)
def pairD (q : Str × Int) : PyData := .tuple [.str q.1, .int q.2]
def rowD (r : Row) : PyData := .tuple [.str r.1, .list (r.2.1.map PyData.str), .list (r.2.2.map tupD)]
theorem dp_pair {K : PySem.W.Frag} {H : Hp} {G : Addr → Prop} {x : V} {q : Str × Int} (h : isPair H G x q) : Dp K H x (pairD q) := by
  obtain ⟨t, rfl, _, h⟩ := h
  exact .tup (.inl (.inl h)) (.cons (.str _) (.cons (.int _) .nil))
theorem eqvAll_refl : ∀ {ds : List PyData}, (∀ d ∈ ds, PyData.eqv d d = true) → PyData.eqvAll ds ds = true
  | [], _ => by simp [PyData.eqvAll]
  | d :: r, h => by
    simp only [PyData.eqvAll]
    rw [h d List.mem_cons_self, eqvAll_refl fun x hx => h x (List.mem_cons_of_mem _ hx)]; rfl
theorem eqv_str (s : Str) : PyData.eqv (.str s) (.str s) = true := by simp [PyData.eqv]
theorem eqv_int (s : Int) : PyData.eqv (.int s) (.int s) = true := by simp [PyData.eqv]
theorem eqv_lst {ds : List PyData} (h : ∀ d ∈ ds, PyData.eqv d d = true) : PyData.eqv (.list ds) (.list ds) = true := by
  simp only [PyData.eqv]; exact eqvAll_refl h
theorem eqv_tp {ds : List PyData} (h : ∀ d ∈ ds, PyData.eqv d d = true) : PyData.eqv (.tuple ds) (.tuple ds) = true := by
  simp only [PyData.eqv]; exact eqvAll_refl h
theorem eqv_pair (q : Str × Int) : PyData.eqv (pairD q) (pairD q) = true := eqv_tp (allC (eqv_str _) (all1 (eqv_int _)))
theorem eqv_tupD (ns : List Int) : PyData.eqv (tupD ns) (tupD ns) = true := by rw [eqv_tup]; exact decide_eq_true rfl
theorem eqv_row (r : Row) : PyData.eqv (rowD r) (rowD r) = true := eqv_tp (allC (eqv_str _) (allC (eqv_lst fun d hd => by
  obtain ⟨s, _, rfl⟩ := List.mem_map.mp hd; exact eqv_str s) (all1 (eqv_lst fun d hd => by
  obtain ⟨s, _, rfl⟩ := List.mem_map.mp hd; exact eqv_tupD s))))
theorem eqv_map {α : Type} (f : α → PyData) (h : ∀ x, PyData.eqv (f x) (f x) = true) (l : List α) : PyData.eqv (.list (l.map f)) (.list (l.map f)) = true := eqv_lst fun d hd => by
  obtain ⟨s, _, rfl⟩ := List.mem_map.mp hd; exact h s
theorem shd_le {k j : Nat} {d : PyData} (h : Shd k d) (l : k ≤ j) : Shd j d := ⟨h.1, Nat.le_trans h.2 l⟩
theorem shd_pair {q : Str × Int} (h : NameOk q.1) : Shd 1 (pairD q) := Shd.tuple (allC (Shd.str h) (all1 (Shd.int _)))
theorem shd_vars {L : List (Str × Int)} (h : VarsOk L) : Shd 2 (.list (L.map pairD)) := Shd.list fun d hd => by
  obtain ⟨q, hq, rfl⟩ := List.mem_map.mp hd
  exact shd_pair (h.nm q hq)
theorem sub_nm {L : List (Str × Int)} (h : VarsOk L) {x : Str} (hx : x ∈ L.map (·.1)) : NameOk x := by
  obtain ⟨q, hq, rfl⟩ := List.mem_map.mp hx
  exact h.nm q hq
theorem shd_row {L : List (Str × Int)} (h : VarsOk L) {r : Row} (hr : RowOk L r) : Shd 3 (rowD r) := Shd.tuple (allC (shd_le (Shd.str hr.nm) (by decide)) (allC (shd_le (Shd.list (k := 0) fun d hd => by
  obtain ⟨s, hs, rfl⟩ := List.mem_map.mp hd; exact Shd.str (sub_nm h (hr.sub s hs))) (by decide)) (all1 (shd_tups _))))
theorem shd_rows {L : List (Str × Int)} (h : VarsOk L) {R : List Row} (hr : ∀ r ∈ R, RowOk L r) : Shd 4 (.list (R.map rowD)) := Shd.list fun d hd => by
  obtain ⟨r, hm, rfl⟩ := List.mem_map.mp hd
  exact shd_row h (hr r hm)
/-- the rows with their bad tuples in order -/
def SrtR (r s : Row) : Prop := s.1 = r.1 ∧ s.2.1 = r.2.1 ∧ Srt r.2.2 s.2.2
theorem RowOk.srt {L : List (Str × Int)} {r s : Row} (h : RowOk L r) (q : SrtR r s) : RowOk L s := by
  obtain ⟨x, sc, out⟩ := s
  obtain ⟨e1, e2, pm, _⟩ := q
  simp only at e1 e2 pm
  subst e1 e2
  exact ⟨h.nm, h.pos, h.few, h.sub, h.nd, by rw [pm.length_eq]; exact h.bfew, pm.nodup_iff.mpr h.bnd, fun ns hns => h.bl ns (pm.mem_iff.mp hns), fun ns hns => h.bv ns (pm.mem_iff.mp hns)⟩
theorem srtR_uniq {L : List (Str × Int)} (ok : VarsOk L) : ∀ {R S S' : List Row}, (∀ r ∈ R, RowOk L r) → Paired SrtR R S → Paired SrtR R S' → S = S'
  | _, _, _, _, .nil, .nil => rfl
  | r :: _, s :: _, s' :: _, h, .cons a t, .cons a' t' => by
    obtain ⟨x, sc, out⟩ := s
    obtain ⟨x', sc', out'⟩ := s'
    obtain ⟨e1, e2, e3⟩ := a
    obtain ⟨f1, f2, f3⟩ := a'
    simp only at e1 e2 e3 f1 f2 f3
    rw [e1, e2, f1, f2, Srt.uniq (row_bd ok (h r List.mem_cons_self)) e3 f3, srtR_uniq ok (fun q hq => h q (List.mem_cons_of_mem _ hq)) t t']
theorem ev_rows {H : Hp} {F G : Addr → Prop} : ∀ {es : List V} {E : List Ent} {R : List Row}, Paired (isEv H F) es E → Paired (isEnt H F G) E R → ∃ S : List Row, Paired SrtR R S ∧ Paired (isRow H F G) es S
  | _, _, _, .nil, .nil => ⟨[], .nil, .nil⟩
  | _, q :: _, r :: _, .cons ⟨t, e, f, ht⟩ u, .cons ⟨e1, f1, f2, hsc, ys, out, hys, hs, hpd⟩ u' => by
    obtain ⟨S, p1, p2⟩ := ev_rows u u'
    exact ⟨(r.1, r.2.1, out) :: S, .cons ⟨rfl, rfl, hs⟩ p1, .cons ⟨t, q.2.1, q.2.2, ys, e, f, by rw [← e1]; exact ht, ⟨f1, .inl hsc⟩, ⟨f2, .inl hys⟩, hpd⟩ p2⟩
/-- a row of lists -/
def isRowL (H : Hp) (F G : Addr → Prop) (x : V) (r : Row) : Prop := ∃ p a b ys, x = .ref p ∧ H p = some (.tup [.str r.1, .ref a, .ref b]) ∧ H a = some (.lst (r.2.1.map V.str)) ∧ H b = some (.lst ys) ∧ Paired (isTupI H G) ys r.2.2
theorem ev_rowsL {H : Hp} {F G : Addr → Prop} : ∀ {es : List V} {E : List Ent} {R : List Row}, Paired (isEv H F) es E → Paired (isEnt H F G) E R → ∃ S : List Row, Paired SrtR R S ∧ Paired (isRowL H F G) es S
  | _, _, _, .nil, .nil => ⟨[], .nil, .nil⟩
  | _, q :: _, r :: _, .cons ⟨t, e, f, ht⟩ u, .cons ⟨e1, f1, f2, hsc, ys, out, hys, hs, hpd⟩ u' => by
    obtain ⟨S, p1, p2⟩ := ev_rowsL u u'
    exact ⟨(r.1, r.2.1, out) :: S, .cons ⟨rfl, rfl, hs⟩ p1, .cons ⟨t, q.2.1, q.2.2, ys, e, by rw [← e1]; exact ht, hsc, hys, hpd⟩ p2⟩
theorem dp_row {K : PySem.W.Frag} {H : Hp} {F G : Addr → Prop} {x : V} {r : Row} (h : isRowL H F G x r) : Dp K H x (rowD r) := by
  obtain ⟨p, a, b, ys, rfl, hp, ha, hb, hpd⟩ := h
  exact .tup (.inl (.inl hp)) (.cons (.str _) (.cons (.lst (SqL.of ha) (dp_strs _)) (.cons (.lst (SqL.of hb) (dp_all (fun _ _ z => dp_tup z) hpd)) .nil)))
theorem cp_name {x : Str} (h : NameOk x) : CpOk x := fun c hc => by
  have := (h.2.2 c hc).2
  exact Nat.lt_of_le_of_lt this (by decide)
theorem okd_name {x : Str} (h : NameOk x) : OkD 82 0 (.str x) := okd_str (n := 8) (cp_name h) (by rw [len_tl]; exact h.2.1)
theorem dx_map {K : PySem.W.Frag} {H : Hp} {α : Type} {F : V → α → Prop} {B k : Nat} : ∀ {xs : List V} {ys : List α}, Paired F xs ys → (∀ x y, F x y → y ∈ ys → ∃ d, Dx K H x d ∧ OkD B k d) → ∃ ds, DxAll K H xs ds ∧ ∀ d ∈ ds, OkD B k d
  | _, _, .nil, _ => ⟨[], .nil, fun _ h => by cases h⟩
  | _, _, .cons r t, h => by
    obtain ⟨d, h1, h2⟩ := h _ _ r List.mem_cons_self
    obtain ⟨ds, h3, h4⟩ := dx_map t fun x y f hy => h x y f (List.mem_cons_of_mem _ hy)
    exact ⟨d :: ds, .cons h1 h3, allC h2 h4⟩
theorem dxAll_len {K : PySem.W.Frag} {H : Hp} : ∀ {xs : List V} {ds : List PyData}, DxAll K H xs ds → ds.length = xs.length
  | _, _, .nil => rfl
  | _, _, .cons _ t => congrArg (· + 1) (dxAll_len t)
theorem dx_lt {K : PySem.W.Frag} {H : Hp} {a : Addr} {xs : List V} {ds : List PyData} {B k m : Nat} (h : H a = some (.lst xs) ∨ H a = some (.tup xs)) (hd : DxAll K H xs ds) (ho : ∀ d ∈ ds, OkD B k d) (l : xs.length ≤ m) :
    ∃ d, Dx K H (.ref a) d ∧ OkD (m * (B + 2) + 3) (k + 1) d := by
  have le : ds.length ≤ m := by rw [dxAll_len hd]; exact l
  rcases h with h | h
  · exact ⟨_, .lst (SqL.of h) hd, okd_list ho le⟩
  · exact ⟨_, .tup (.inl (.inl h)) hd, okd_tuple ho le⟩
theorem dx_pair {K : PySem.W.Frag} {H : Hp} {G : Addr → Prop} {x : V} {q : Str × Int} (h : isPair H G x q) (n : NameOk q.1) (i : 1 ≤ q.2 ∧ q.2 ≤ 6) : ∃ d, Dx K H x d ∧ OkD 1009 1 d := by
  obtain ⟨t, rfl, _, h⟩ := h
  exact ⟨_, .tup (.inl (.inl h)) (.cons (.str _) (.cons (.int _) .nil)), okd_tuple (B := 501) (k := 0) (m := 2) (allC ((okd_name n).mono (by decide) (by decide)) (all1 (okd_int (by omega)))) (Nat.le_refl _)⟩
theorem dx_tup {K : PySem.W.Frag} {H : Hp} {G : Addr → Prop} {x : V} {ns : List Int} (h : isTupI H G x ns) (l : ns.length ≤ 4) (b : TS.Bd 6 ns) : ∃ d, Dx K H x d ∧ OkD 2015 1 d := by
  obtain ⟨t, rfl, _, h⟩ := h
  obtain ⟨ds, h1, h2⟩ := dx_map (K := K) (H := H) (F := fun v (i : Int) => v = .int i) (B := 501) (k := 0) (pd_map V.int (l := ns) fun _ _ => rfl) fun x i e hi => by
    subst e
    have := b i hi
    exact ⟨_, .int i, okd_int (by omega)⟩
  exact dx_lt (.inr h) h1 h2 (by rw [List.length_map]; exact l)
theorem dx_row {K : PySem.W.Frag} {L : List (Str × Int)} {H : Hp} {F G : Addr → Prop} {x : V} {r : Row} (ok : VarsOk L) (h : isRow H F G x r) (hr : RowOk L r) : ∃ d, Dx K H x d ∧ OkD 72630 3 d := by
  obtain ⟨p, a, b, ys, rfl, _, hp, ⟨_, la⟩, ⟨_, lb⟩, pd⟩ := h
  have x4 := hr.few
  have x12 := hr.bfew
  obtain ⟨ds, h1, h2⟩ := dx_map (K := K) (H := H) (F := fun v (i : Str) => v = .str i) (B := 82) (k := 0) (pd_map V.str (l := r.2.1) fun _ _ => rfl) fun x i e hi => by
    subst e
    exact ⟨_, .str i, okd_name (sub_nm ok (hr.sub i hi))⟩
  obtain ⟨d1, u1, v1⟩ := dx_lt la h1 h2 (m := 4) (by rw [List.length_map]; exact x4)
  obtain ⟨ds2, h3, h4⟩ := dx_map (K := K) (H := H) (B := 2015) (k := 1) pd fun x ns z hz => by
    obtain ⟨l, bd⟩ := row_bd ok hr ns hz
    exact dx_tup z (by omega) bd
  obtain ⟨d2, u2, v2⟩ := dx_lt lb h3 h4 (m := 12) (by rw [pd.length]; exact x12)
  exact ⟨_, .tup (.inl (.inl hp)) (.cons (.str _) (.cons u1 (.cons u2 .nil))), okd_tuple (B := 24207) (k := 2) (m := 3) (allC ((okd_name hr.nm).mono (by decide) (by decide)) (allC (v1.mono (by decide) (by decide)) (all1 (v2.mono (by decide) (by decide))))) (Nat.le_refl _)⟩
theorem dx_vars {K : PySem.W.Frag} {L : List (Str × Int)} {H : Hp} {G : Addr → Prop} {a : Addr} {xs : List V} (ok : VarsOk L) (h : H a = some (.lst xs) ∨ H a = some (.tup xs)) (pd : Paired (isPair H G) xs L) : ∃ d, Dx K H (.ref a) d ∧ OkD 8091 2 d := by
  obtain ⟨ds, h1, h2⟩ := dx_map (K := K) pd fun x q z hz => dx_pair z (ok.nm q hz) (ok.sz q hz)
  exact dx_lt h h1 h2 (m := 8) (by rw [pd.length]; exact ok.few)
theorem dx_evs {K : PySem.W.Frag} {L : List (Str × Int)} {H : Hp} {F G : Addr → Prop} {a : Addr} {xs : List V} {R : List Row} (ok : VarsOk L) (h : H a = some (.lst xs) ∨ H a = some (.tup xs)) (pd : Paired (isRow H F G) xs R) (n : R.length ≤ 8) (okR : ∀ r ∈ R, RowOk L r) : ∃ d, Dx K H (.ref a) d ∧ OkD 581059 4 d := by
  obtain ⟨ds, h1, h2⟩ := dx_map (K := K) pd fun x q z hz => dx_row ok z (okR q hz)
  exact dx_lt h h1 h2 (m := 8) (by rw [pd.length]; exact n)

end K38
namespace K38
open PySem PySem.Spec PyProof.Rows L2 TL
def LS : List Str := (Str.ofString "abcdefghijklmnopqrstuvwxyz").cps.toList.map fun c => (⟨#[c]⟩ : Str)
theorem ls_nd : LS.Nodup := by decide +kernel
theorem ls_len : LS.length = 26 := by decide +kernel
theorem ls_ok : ∀ x ∈ LS, NameOk x := fun x hx => by
  have h : (LS.all fun x => decide (1 ≤ (tl x).length) && decide ((tl x).length ≤ 8) && (tl x).all fun c => decide (97 ≤ c) && decide (c ≤ 122)) = true := by decide +kernel
  have := List.all_eq_true.mp h x hx
  simp only [Bool.and_eq_true, decide_eq_true_eq, List.all_eq_true] at this
  exact ⟨this.1.1, this.1.2, fun c hc => this.2 c hc⟩
theorem php : ∀ {l m : List Str}, l.Nodup → (∀ x ∈ l, x ∈ m) → l.length ≤ m.length
  | [], _, _, _ => Nat.zero_le _
  | x :: t, m, nd, h => by
    rw [List.nodup_cons] at nd
    have hx := h x List.mem_cons_self
    have := php (l := t) (m := m.erase x) nd.2 fun y hy => (List.mem_erase_of_ne (fun e => nd.1 (by rw [← e]; exact hy))).mpr (h y (List.mem_cons_of_mem _ hy))
    rw [List.length_erase_of_mem hx] at this
    have hp := List.length_pos_of_mem hx
    rw [List.length_cons]
    omega
def sp_names : Sp := fun vs H Q _ => ∃ (b : Addr) (n : Nat) (c : Int), vs = [.ref b, .int c] ∧ Bag H b n ∧ n + 60 ≤ 1000000 ∧ 0 ≤ c ∧ c ≤ 8 ∧
  ∀ (p : Addr) (ys : List Str) H', Fr b H H' → H p = none → p ≠ b → H' p = some (.lst (ys.map V.str)) → (ys.length : Int) = c → (∀ y ∈ ys, NameOk y) → ys.Nodup → Bag H' b (n + 60) → Q (.ref p) H'
/-- a word that is no name yet -/
def spare (w : Str) (nms : List Str) (k : Nat) : List Str := ((LS.take k).filter fun x => !decide (cutS w none (some (7 : Nat)) ++ x ∈ nms)).map fun x => cutS w none (some (7 : Nat)) ++ x
theorem spare_some {w : Str} {nms : List Str} (h : nms.length ≤ 8) : ∃ x t, spare w nms 26 = x :: t := by
  refine List.exists_cons_of_ne_nil fun e => ?_
  unfold spare at e
  rw [List.map_eq_nil_iff, show LS.take 26 = LS by rw [← ls_len, List.take_length]] at e
  have nd : (LS.map fun x => cutS w none (some (7 : Nat)) ++ x).Nodup := by
    refine nodup_of_key (fun y => y) fun i j x y hij hx hy e => ?_
    rw [List.getElem?_map] at hx hy
    obtain ⟨x', hx', rfl⟩ := Option.map_eq_some_iff.mp hx
    obtain ⟨y', hy', rfl⟩ := Option.map_eq_some_iff.mp hy
    have e2 := congrArg tl e
    simp only [tl_append] at e2
    have e3 := ext_tl (List.append_cancel_left e2)
    subst e3
    obtain ⟨li, gi⟩ := List.getElem?_eq_some_iff.mp hx'
    obtain ⟨lj, gj⟩ := List.getElem?_eq_some_iff.mp hy'
    have n1 := List.nodup_iff_pairwise_ne.mp ls_nd
    rw [List.pairwise_iff_getElem] at n1
    exact n1 i j li lj hij (gi.trans gj.symm)
  have := php nd (m := nms) fun x hx => by
    obtain ⟨y, hy, rfl⟩ := List.mem_map.mp hx
    by_cases h : cutS w none (some (7 : Nat)) ++ y ∈ nms
    · exact h
    · have : y ∈ LS.filter fun x => !decide (cutS w none (some (7 : Nat)) ++ x ∈ nms) := List.mem_filter.mpr ⟨hy, by simpa using h⟩
      rw [e] at this
      cases this
  rw [List.length_map, ls_len] at this
  omega
theorem spare_mem {w : Str} {nms : List Str} {k : Nat} {x : Str} (h : x ∈ spare w nms k) : x ∉ nms ∧ ∃ c, x = cutS w none (some (7 : Nat)) ++ c ∧ c ∈ LS := by
  unfold spare at h
  obtain ⟨c, hc, rfl⟩ := List.mem_map.mp h
  obtain ⟨h1, h2⟩ := List.mem_filter.mp hc
  exact ⟨by simpa using h2, c, rfl, List.mem_of_mem_take h1⟩
theorem one_ls {c : Str} (h : c ∈ LS) : ∃ d, tl c = [d] ∧ 97 ≤ d ∧ d ≤ 122 := by
  obtain ⟨h1, h2, h3⟩ := ls_ok c h
  obtain ⟨d, hd, rfl⟩ := List.mem_map.mp h
  have : tl (⟨#[d]⟩ : Str) = [d] := rfl
  exact ⟨d, this, h3 d (by rw [this]; exact List.mem_singleton.mpr rfl)⟩
theorem ok_l_names {P : Program} {w : World} {K : PySem.W.Frag} {mg : Str → Option Value} {base : Heap} (T : Txt P K mg) : FnOk P w K mg base CX0 2 T.f_l_names T.fd_l_names ["_law_box_here", "_law_many"] (sp_names) := by
  refine T.F_l_names.ok sc_l_names (fun vs H Q E h => ?_) (fun cdv A outer s H vs Q E hr h => ?_)
  · obtain ⟨_, _, _, rfl, _⟩ := h; rfl
  · obtain ⟨b, n, c, rfl, hB, hn, c0, c8, q⟩ := h
    refine ⟨_, PSs.nox (pss_cons (ps_set (i := 2) sc_l_names.nd rfl (Or.inr rfl) pe_str)
      (pss_cons (ps_set (i := 3) sc_l_names.nd rfl (Or.inr rfl) (pe_lst pa_nil))
      (pss_cons (ps_for PassesOwn.never rfl (pi_range1 (by rfl) T.n_range (pa_cons (pv 1) pa_nil)) (pg_name (i := 4) sc_l_names.nd rfl (Or.inl rfl)) (pss_cons (ps_set (i := 5) sc_l_names.nd rfl (Or.inl rfl) pe_str)
      (Evl.pss_cut (ps_if (PW.pt (pw_and (pt_cmpR (show OpR _ (compareOp .NotEq) (rNeD K) from op_neD hr.units) (pv 3) (pe_lst pa_nil) (nomark _)) (pw_and1 (pt_cmpR op_eq (pe_call (ok_l_take T) (hr.mono (by decide)) (by rfl) T.g_l_take T.F_l_take.kp (b_l_take T) .nil pass0 (pa_cons (pv 0) (pa_cons pe_int pa_nil))) pe_int (nomark _))))) (pss_one (ps_set (i := 5) sc_l_names.nd rfl (Or.inl rfl) (pe_ix (show IxR _ (rIxL K) from ix_list) (pv 3) (pe_call (ok_l_take T) (hr.mono (by decide)) (by rfl) T.g_l_take T.F_l_take.kp (b_l_take T) .nil pass0 (pa_cons (pv 0) (pa_cons (pe_callB (show CallR _ _ (rLenSeq K) from call_len_seq) (by rfl) T.n_len (by decide +kernel) (pa_cons (pv 3) pa_nil)) pa_nil))) (fun _ _ => rfl)))) pss_nil)
      (pss_cons (ps_set (i := 6) sc_l_names.nd rfl (Or.inr rfl) (pe_slice sl_str (pe_op op_add_str (pv 5) (pe_join pe_str (pe_lc (own := [("_law_j", 9)]) (g := gName 9) rfl sc_l_names.nd (pi_range1 (by rfl) T.n_range (pa_cons (pe_op op_add pe_int (pe_call (ok_l_take T) (hr.mono (by decide)) (by rfl) T.g_l_take T.F_l_take.kp (b_l_take T) .nil pass0 (pa_cons (pv 0) (pa_cons pe_int pa_nil)))) pa_nil)) (blkOk_by (own := [("_law_j", 9)]) (N := N_l_names) (sc := defScope s_l_names) (by decide +kernel)) (fun _ _ _ _ _ => (pg_name (i := 9) sc_l_names.nd rfl (Or.inl rfl))) (fun _ _ _ _ _ => pts_nil) (fun _ _ _ _ _ => (pe_ix ix_str (pv 2) (pe_call (ok_l_take T) (hr.mono (by decide)) (by rfl) T.g_l_take T.F_l_take.kp (b_l_take T) .nil pass0 (pa_cons (pv 0) (pa_cons pe_int pa_nil))) (fun _ _ => rfl)))))) po_none (po_some pe_int)))
      (pss_cons (ps_setLc (i := 7) (own := [("_law_letter", 8)]) (g := gName 8) rfl sc_l_names.nd rfl rfl (sw_true rfl rfl rfl (by decide +kernel)) (pi_str (pv 2)) (blkOk_by (own := [("_law_letter", 8)]) (N := N_l_names) (sc := defScope s_l_names) (by decide +kernel)) (fun _ _ _ _ _ => (pg_name (i := 8) sc_l_names.nd rfl (Or.inl rfl))) (fun _ _ _ _ _ => pts_one (pt_cmpR (show OpR _ (compareOp .NotIn) (rIn K true) from op_notIn_seq) (pe_op op_add_str (pe_slice sl_str (pv 6) po_none (po_some pe_int)) (pv 8)) (pv 3) (by first | rfl | with_unfolding_all rfl))) (fun _ _ _ _ _ => (pe_op op_add_str (pe_slice sl_str (pv 6) po_none (po_some pe_int)) (pv 8))))
      (pss_one (ps_expr (pe_bm PySem.F.plainAttrs_list PySem.F.slot_list_append PySem.F.type_list_append mt_append (pv 3) (pa_cons (pe_ifExp (pt_cmpR (show OpR _ (compareOp .In) (rIn K false) from op_in_seq) (pv 6) (pv 3) (by first | rfl | with_unfolding_all rfl)) (pe_ix (show IxR _ (rIxL K) from ix_list) (pv 7) pe_int (fun _ _ => rfl)) (pv 6)) pa_nil)))))))))
      (pss_one (ps_ret (pv 3)))))), ?_⟩
    refine ⟨Nat.zero_le _, fun l nl => ?_⟩
    have nbl := hB.ne nl
    refine ⟨_, rfl, c, rfl, by omega, by omega, for_it walk_range (fun i σ H' => ∃ (ys : List Str) (x4 x5 x6 x7 : Option V), σ = [some (.ref b), some (.int c), some (.str AZ), some (.ref l), x4, x5, x6, x7, none, none] ∧
      Fr b H H' ∧ Bag H' b (n + 7 * i) ∧ H' l = some (.lst (ys.map V.str)) ∧ ys.length = i ∧ (∀ y ∈ ys, NameOk y) ∧ ys.Nodup) ?_ (fun _ _ _ _ _ => trivial) ?_ ?_⟩
    · exact ⟨[], _, _, _, _, rfl, Fr.new nl, hB.upd nbl, upd_same, rfl, (fun _ h => by cases h), .nil⟩
    · rintro i x σ H1 H1' hi ⟨ys, x4, x5, x6, x7, rfl, f1, b1, hl, ly, oky, nd⟩ ⟨rfl, rfl⟩
      have i8 : (i : Int) < c := by omega
      have hlb : l ≠ b := Ne.symm nbl
      refine ⟨fun σ H' => ∃ (w : Str) (x6 x7 : Option V), σ = [some (.ref b), some (.int c), some (.str AZ), some (.ref l), some (.int (0 + (i : Nat))), some (.str w), x6, x7, none, none] ∧ Fr b H H' ∧ Bag H' b (n + 7 * i + 2) ∧ H' l = some (.lst (ys.map V.str)) ∧ (∀ c ∈ tl w, 97 ≤ c ∧ c ≤ 122) ∧ (tl w).length ≤ 8, ?_, ?_⟩
      · repeat (first | refine ⟨_, rfl, ?_⟩ | refine ⟨_, _, rfl, rfl, ?_⟩ | refine ⟨_, _, rfl, ?_⟩ | refine ⟨rfl, ?_⟩)
        refine ⟨Nat.zero_le _, fun e0 ne0 => ?_⟩
        have nbe := b1.ne ne0
        refine ⟨.list (ys.map PyData.str), .list [], .lst (SqL.of (by rw [upd_ne (ne_of_none hl ne0)]; exact hl)) (dp_strs _), .lst (SqL.of upd_same) .nil, (Shd.list (k := 0) fun d hd => by
          obtain ⟨s, hs, rfl⟩ := List.mem_map.mp hd; exact Shd.str (oky s hs)).shaped (by decide), (Shd.list (k := 0) all0).shaped (by decide), ?_⟩
        repeat (first | refine ⟨_, rfl, ?_⟩ | refine ⟨_, _, rfl, rfl, ?_⟩ | refine ⟨_, _, rfl, ?_⟩ | refine ⟨rfl, ?_⟩)
        have f2 : Fr b H (upd H1' e0 (.lst [])) := f1.trans (Fr.new ne0)
        have b2 := b1.upd (o := .lst []) nbe
        have hl2 : upd H1' e0 (.lst []) l = some (.lst (ys.map V.str)) := by rw [upd_ne (ne_of_none hl ne0)]; exact hl
        generalize upd H1' e0 (.lst []) = H2 at f2 b2 hl2
        have e0c : (∀ c ∈ tl (Str.ofString ""), 97 ≤ c ∧ c ≤ 122) ∧ (tl (Str.ofString "")).length ≤ 8 := by decide +kernel
        have em : ∀ {H3 : Hp}, Fr b H H3 → Bag H3 b (n + 7 * i + 2) → H3 l = some (.lst (ys.map V.str)) → ∃ (w : Str) (x6' x7' : Option V), [some (.ref b), some (.int c), some (.str AZ), some (.ref l), some (.int (0 + (i : Nat))), some (.str (Str.ofString "")), x6, x7, none, none] = [some (.ref b), some (.int c), some (.str AZ), some (.ref l), some (.int (0 + (i : Nat))), some (.str w), x6', x7', none, none] ∧ Fr b H H3 ∧ Bag H3 b (n + 7 * i + 2) ∧ H3 l = some (.lst (ys.map V.str)) ∧ (∀ c ∈ tl w, 97 ≤ c ∧ c ≤ 122) ∧ (tl w).length ≤ 8 := fun f h3 hl3 =>
          ⟨Str.ofString "", _, _, rfl, f, h3, hl3, e0c.1, e0c.2⟩
        refine ite2 (fun c1 => ?_) (fun _ => em f2 (b2.mono (by omega)) hl2)
        have ne : ys ≠ [] := fun e => by rw [e] at c1; simp [PyData.eqv, PyData.eqvAll] at c1
        have l0 : 0 < ys.length := List.length_pos_iff.mpr ne
        repeat (first | refine ⟨_, rfl, ?_⟩ | refine ⟨_, _, rfl, rfl, ?_⟩ | refine ⟨_, _, rfl, ?_⟩ | refine ⟨rfl, ?_⟩)
        refine ⟨b, _, 3, rfl, b2, by omega, by decide, by decide, fun d1 H3 f3 b3 d10 d11 => ?_⟩
        have hl3 := f3 l _ hlb hl2
        refine ⟨rfl, _, rfl, ite2 (fun _ => ?_) (fun _ => em (f2.trans f3) (b3.mono (by omega)) hl3)⟩
        repeat (first | refine ⟨_, rfl, ?_⟩ | refine ⟨_, _, rfl, rfl, ?_⟩ | refine ⟨_, _, rfl, ?_⟩ | refine ⟨rfl, ?_⟩)
        refine ⟨l, _, rfl, .inl (SqL.of hl3), ?_⟩
        rw [List.length_map]
        refine ⟨b, _, _, rfl, b3, by omega, by omega, by omega, fun d2 H4 f4 b4 d20 d21 => ?_⟩
        have hl4 := f4 l _ hlb hl3
        obtain ⟨k, rfl⟩ := Int.eq_ofNat_of_zero_le d20
        have lk : k < ys.length := by omega
        refine ⟨l, _, _, .str ys[k], rfl, rfl, SqL.of hl4, atI_nat (by rw [List.getElem?_map, List.getElem?_eq_getElem lk]; rfl), ?_⟩
        have ok := oky _ (List.getElem_mem lk)
        exact ⟨_, _, _, rfl, (f2.trans f3).trans f4, b4.mono (by omega), hl4, ok.2.2, ok.2.1⟩
      · rintro σ H2 ⟨w, x6, x7, rfl, f2, b2, hl2, cw, lw⟩
        clear hl b1 f1
        repeat (first | refine ⟨_, rfl, ?_⟩ | refine ⟨_, _, rfl, rfl, ?_⟩ | refine ⟨_, _, rfl, ?_⟩ | refine ⟨rfl, ?_⟩)
        refine ⟨⟨_, rfl⟩, _, rfl, b, _, 4, rfl, b2, by omega, by decide, by decide, fun d1 H3 f3 b3 d10 d11 => ?_⟩
        have hl3 := f3 l _ hlb hl2
        repeat (first | refine ⟨_, rfl, ?_⟩ | refine ⟨_, _, rfl, rfl, ?_⟩ | refine ⟨_, _, rfl, ?_⟩ | refine ⟨rfl, ?_⟩)
        obtain ⟨k, rfl⟩ := Int.eq_ofNat_of_zero_le d10
        refine ⟨by omega, by omega, fun D nD => lc_range (PvP b D H3 (n + 7 * i + 2 + 1) 1 One) (pvP_0 b3 nD) (fun j H' hj p => ⟨rfl, ?_⟩) (fun H4 p => ?_)⟩
        · obtain ⟨-, -, zs, -, -, -, -, hb'⟩ := _root_.id p
          have hj4 : j < 4 := by omega
          refine ⟨_, rfl, _, rfl, b, _, 26, rfl, hb', by omega, by decide, by decide, fun d2 H5 f5 b5 d20 d21 => ?_⟩
          exact ⟨_, _, _, rfl, rfl, az_len, az_at d20 d21, pvP_put p f5 (b5.mono (by omega)) ⟨_, rfl, by omega, by omega⟩ (by omega)⟩
        obtain ⟨hD0, nDb, zs, lz, hz, hD, f4, b4⟩ := p
        have hl4 := f4 l _ hlb hl3
        obtain ⟨o1, o2⟩ := one_flat hz
        have lz4 : 1 ≤ zs.length ∧ zs.length ≤ 4 := by rw [lz]; omega
        have hjs := join_size (a := Str.ofString "") (L := 1) (fun s hs' => by obtain ⟨c, rfl, _⟩ := hz s hs'; exact Nat.le_refl _) (n := 4) (A := 0) lz4.2 (by decide +kernel)
        refine ⟨_, D, zs, rfl, rfl, .inl (SqL.of hD), by omega, ?_⟩
        have hst := tl_join0 zs
        generalize Txt.join (Str.ofString "") zs = tail at hst
        have ltail : tail.length ≤ 4 := by rw [len_tl, hst, o1]; exact lz4.2
        have lw' : w.length ≤ 8 := by rw [len_tl]; exact lw
        refine ⟨_, _, rfl, rfl, slen (by omega), ?_⟩
        refine ⟨_, rfl, w ++ tail, rfl, slen (by rw [app_len]; omega), ?_⟩
        have e8 : tl (cutS (w ++ tail) none (some ((8 : Nat) : Int))) = (tl w ++ (zs.map tl).flatten).take 8 := by rw [tl_cut0, tl_append, hst]
        have okw : NameOk (cutS (w ++ tail) none (some ((8 : Nat) : Int))) := by
          refine ⟨by rw [e8, List.length_take, List.length_append, o1]; omega, by rw [e8, List.length_take]; omega, fun c hc => ?_⟩
          rw [e8] at hc
          rcases List.mem_append.mp (List.mem_of_mem_take hc) with h | h
          · exact cw c h
          · exact o2 c h
        show tSeq _ _ _ _ _
        generalize hwd : cutS (w ++ tail) none (some ((8 : Nat) : Int)) = wd at okw
        have lwd : wd.length ≤ 8 := by rw [len_tl]; exact okw.2.1
        have l7 : (cutS wd none (some (7 : Int))).length ≤ wd.length := cutS_length wd none (some (7 : Int))
        have l7' : (cutS wd none (some ((7 : Nat) : Int))).length ≤ wd.length := l7
        have F4 := (f2.trans f3).trans f4
        have b4 : Bag H4 b (n + 7 * (i + 1)) := b4.mono (by omega)
        clear hD f4 f3 f2 b3 hl2 hl3 b2 hst e8
        refine ⟨_, rfl, _, rfl, fun P nP => ?_⟩
        refine lc_it walk_str (fun j H' => H' P = some (.lst ((spare wd ys j).map V.str)) ∧ Same H4 H') ⟨upd_same, Same.new nP⟩ (fun _ _ _ _ => trivial) ?_ ?_
        · rintro j x Hx H5 hj ⟨h1, s1⟩ ⟨rfl, d, hd, rfl⟩
          have hL : LS[j]? = some ⟨#[d]⟩ := by
            unfold LS
            rw [List.getElem?_map, show (Str.ofString "abcdefghijklmnopqrstuvwxyz").cps.toList = AZ.cps.toList from rfl, Array.getElem?_toList, hd]; rfl
          obtain ⟨li, eL⟩ := List.getElem?_eq_some_iff.mp hL
          have l1 : (⟨#[d]⟩ : Str).length = 1 := rfl
          refine ⟨rfl, ?_⟩
          refine ⟨_, rfl, _, rfl, _, rfl, slen (by omega), _, rfl, _, _, rfl, rfl, slen (by omega), ?_⟩
          refine ⟨_, rfl, l, _, rfl, .inl (SqL.of (s1 _ _ hl4)), rfl, flat_str _, _, rfl, ?_⟩
          rw [inV_str]
          have sn : spare wd ys (j + 1) = spare wd ys j ++ (if (!decide (cutS wd none (some ((7 : Nat) : Int)) ++ (⟨#[d]⟩ : Str) ∈ ys)) = true then [cutS wd none (some ((7 : Nat) : Int)) ++ (⟨#[d]⟩ : Str)] else []) := by
            unfold spare
            rw [take_snoc li, List.filter_append, eL, List.filter_cons, List.map_append]
            congr 1
            split <;> rfl
          have l26 : (spare wd ys j).length ≤ 26 := by
            unfold spare
            rw [List.length_map]
            exact Nat.le_trans (List.length_filter_le _ _) (by rw [List.length_take, ls_len]; omega)
          by_cases hm : cutS wd none (some ((7 : Nat) : Int)) ++ (⟨#[d]⟩ : Str) ∈ ys
          · rw [decide_eq_true hm] at sn
            rw [show (7 : Int) = ((7 : Nat) : Int) from rfl, decide_eq_true hm]
            refine iteF ⟨?_, s1⟩
            rw [sn, if_neg (by simp), List.append_nil]
            exact h1
          · rw [decide_eq_false hm] at sn
            rw [show (7 : Int) = ((7 : Nat) : Int) from rfl, decide_eq_false hm]
            refine iteT ⟨_, rfl, _, rfl, _, rfl, slen (by omega), _, rfl, _, _, rfl, rfl, slen (by omega), _, h1, by rw [List.length_map, sizeLine_eq]; omega, ?_, Same.upd_p s1 nP⟩
            rw [upd_same, sn, if_pos (show (!false) = true from rfl), List.map_append]; rfl
        rintro H5 ⟨hP, s5⟩
        have e26 : AZ.cps.size = 26 := by decide +kernel
        have hl5 := s5 _ _ hl4
        have fin : ∀ z : Str, NameOk z → z ∉ ys → ∃ (ys' : List Str) (x4 x5 x6 x7 : Option V), [some (V.ref b), some (.int c), some (.str AZ), some (.ref l), some (.int (0 + (i : Nat))), some (.str w), some (.str wd), some (.ref P), none, none] = [some (.ref b), some (.int c), some (.str AZ), some (.ref l), x4, x5, x6, x7, none, none] ∧
            Fr b H (upd H5 l (.lst (ys.map V.str ++ [.str z]))) ∧ Bag (upd H5 l (.lst (ys.map V.str ++ [.str z]))) b (n + 7 * (i + 1)) ∧ upd H5 l (.lst (ys.map V.str ++ [.str z])) l = some (.lst (ys'.map V.str)) ∧ ys'.length = i + 1 ∧ (∀ y ∈ ys', NameOk y) ∧ ys'.Nodup := fun z oz nz =>
          ⟨ys ++ [z], _, _, _, _, rfl, (F4.trans (Fr.of_same s5)).upd_p nl, (b4.same s5).upd nbl, by rw [upd_same, List.map_append]; rfl, by rw [List.length_append, ly]; rfl, fun y hy => by
            rcases List.mem_append.mp hy with h | h
            · exact oky y h
            · rw [List.mem_singleton.mp h]; exact oz, List.nodup_append.mpr ⟨nd, by simp, fun a ha b hb e => nz (by rw [List.mem_singleton.mp hb] at e; rw [← e]; exact ha)⟩⟩
        refine ⟨_, rfl, .inl ⟨rfl, _, SqL.of hl5⟩, ?_⟩
        refine ⟨_, rfl, _, rfl, l, _, rfl, .inl (SqL.of hl5), rfl, flat_str _, _, rfl, ?_⟩
        rw [inV_str]
        have le : (ys.map V.str).length < sizeLine := by rw [List.length_map, ly, sizeLine_eq]; omega
        refine ite2 (fun hm => ?_) (fun hm => ⟨_, rfl, l, _, _, rfl, rfl, hl5, le, fin wd okw (by simpa using hm)⟩)
        rw [e26] at hP
        obtain ⟨x, t, ex⟩ := spare_some (w := wd) (nms := ys) (by omega)
        obtain ⟨n1, c1, e1, m1⟩ := spare_mem (k := 26) (x := x) (by rw [ex]; exact List.mem_cons_self)
        obtain ⟨d, td, d1, d2⟩ := one_ls m1
        rw [ex] at hP
        refine ⟨_, rfl, P, _, (0 : Int), .str x, rfl, rfl, SqL.of hP, atI_nat (j := 0) rfl, l, _, _, rfl, rfl, hl5, le, fin x ?_ n1⟩
        have ex2 : tl x = (tl wd).take 7 ++ [d] := by rw [e1, tl_append, tl_cut0, td]
        refine ⟨by rw [ex2, List.length_append]; simp, by rw [ex2, List.length_append, List.length_take]; show _ + 1 ≤ 8; omega, fun c hc => ?_⟩
        rw [ex2] at hc
        rcases List.mem_append.mp hc with h | h
        · exact okw.2.2 c (List.mem_of_mem_take h)
        · rw [List.mem_singleton.mp h]; exact ⟨d1, d2⟩
    · rintro σ H' ⟨ys, x4, x5, x6, x7, rfl, f1, b1, hl, ly, oky, nd⟩
      exact ⟨_, rfl, q l ys H' f1 nl (Ne.symm nbl) hl (by omega) oky nd (b1.mono (by omega))⟩

end K38
namespace K38
open PySem PySem.Spec PyProof.Rows L2 TL
/-! ### variables and events that are drawn -/
def NewOff (H : Hp) (ms : List Addr) : Addr → Prop := fun a => H a = none ∧ a ∉ ms
theorem pd_erase {α β : Type} {F : α → β → Prop} : ∀ {l : List α} {m : List β} (k : Nat), Paired F l m → Paired F (l.eraseIdx k) (m.eraseIdx k)
  | _, _, _, .nil => .nil
  | _, _, 0, .cons _ t => t
  | _, _, k + 1, .cons r t => .cons r (pd_erase k t)
theorem isPair.plus {H H0 : Hp} {ms : List Addr} {p : Addr} (np : H p = none) {x : V} {q : Str × Int} (h : isPair H (NewOff H0 ms) x q) : isPair H (NewOff H0 (p :: ms)) x q := by
  obtain ⟨t, e, g, h⟩ := h
  exact ⟨t, e, ⟨g.1, fun m => (List.mem_cons.mp m).elim (ne_of_none h np) g.2⟩, h⟩
theorem isTupI.plus {H H0 : Hp} {ms : List Addr} {p : Addr} (np : H p = none) {x : V} {q : List Int} (h : isTupI H (NewOff H0 ms) x q) : isTupI H (NewOff H0 (p :: ms)) x q := by
  obtain ⟨t, e, g, h⟩ := h
  exact ⟨t, e, ⟨g.1, fun m => (List.mem_cons.mp m).elim (ne_of_none h np) g.2⟩, h⟩
theorem isRowS.plus {H H0 : Hp} {ms : List Addr} {p : Addr} (np : H p = none) {x : V} {q : Row} (h : isRowS H (NewOff H0 ms) (NewOff H0 ms) x q) : isRowS H (NewOff H0 (p :: ms)) (NewOff H0 (p :: ms)) x q := by
  have k : ∀ {a : Addr} {o : HO}, H a = some o → NewOff H0 ms a → NewOff H0 (p :: ms) a := fun h g => ⟨g.1, fun m => (List.mem_cons.mp m).elim (ne_of_none h np) g.2⟩
  obtain ⟨p, a, b, ys, e, f, h, la, lb, hp⟩ := h
  exact ⟨p, a, b, ys, e, k h f, h, ⟨k la.2 la.1, la.2⟩, ⟨k lb.2 lb.1, lb.2⟩, Paired.mono (fun _ _ z => z.plus np) hp⟩
theorem NewOff.sub {H : Hp} {ms ms' : List Addr} (s : ∀ a ∈ ms', a ∈ ms) {a : Addr} (h : NewOff H ms a) : NewOff H ms' a := ⟨h.1, fun m => h.2 (s a m)⟩
/-- all but the addresses of ms stays -/
abbrev MvL (ms : List Addr) (H H' : Hp) : Prop := Mv (fun a => a ∈ ms) H H'
theorem MvL.upd {ms : List Addr} {H : Hp} {m : Addr} {o : HO} (h : m ∈ ms) : MvL ms H (upd H m o) := fun a u na e => by rw [upd_ne fun z => na (by rw [z]; exact h)]; exact e
theorem MvL.fr {ms : List Addr} {H H' : Hp} {b : Addr} (h : b ∈ ms) (f : Fr b H H') : MvL ms H H' := fun a u na e => f a u (fun z => na (by rw [z]; exact h)) e
theorem MvL.same {ms : List Addr} {H H' : Hp} (f : Same H H') : MvL ms H H' := fun a u _ e => f a u e
theorem MvL.trans {ms : List Addr} {H H1 H2 : Hp} (x : MvL ms H H1) (y : MvL ms H1 H2) : MvL ms H H2 := fun a u n e => y a u n (x a u n e)
section
variable {H H' H0 : Hp} {ms : List Addr}
theorem isPair.ml {x : V} {q : Str × Int} (h : isPair H (NewOff H0 ms) x q) (m : MvL ms H H') : isPair H' (NewOff H0 ms) x q := h.mv m fun _ ha => ha.2
theorem isTupI.ml {x : V} {q : List Int} (h : isTupI H (NewOff H0 ms) x q) (m : MvL ms H H') : isTupI H' (NewOff H0 ms) x q := h.mv m fun _ ha => ha.2
theorem isRowS.ml {x : V} {q : Row} (h : isRowS H (NewOff H0 ms) (NewOff H0 ms) x q) (m : MvL ms H H') : isRowS H' (NewOff H0 ms) (NewOff H0 ms) x q := h.mv m (fun _ ha => ha.2) fun _ ha => ha.2
end
theorem sizeOf_mem {L : List (Str × Int)} (nd : (L.map (·.1)).Nodup) {q : Str × Int} (h : q ∈ L) : sizeOf L q.1 = q.2 := by
  obtain ⟨q', hq', e1, e2⟩ := find_mem (List.mem_map.mpr ⟨q, h, rfl⟩)
  have e : q' = q := by
    clear e2
    induction L with
    | nil => cases h
    | cons x L ih =>
      rw [List.map_cons, List.nodup_cons] at nd
      rcases List.mem_cons.mp h with h1 | h1 <;> rcases List.mem_cons.mp hq' with h2 | h2
      · rw [h1, h2]
      · exact absurd (List.mem_map.mpr ⟨q', h2, by rw [e1, h1]⟩) nd.1
      · exact absurd (List.mem_map.mpr ⟨q, h1, by rw [← e1, h2]⟩) nd.1
      · exact ih nd.2 h1 h2
  unfold sizeOf
  rw [e2, e]; rfl
def sp_data : Sp := fun vs H Q _ => ∃ (b : Addr) (n : Nat) (c top : Int), vs = [.ref b, .int c, .int top] ∧ Bag H b n ∧ n + 700 ≤ 1000000 ∧ 1 ≤ c ∧ c ≤ 8 ∧ 1 ≤ top ∧ top ≤ 6 ∧
  ∀ (p D r : Addr) (xs ys : List V) (L : List (Str × Int)) (R : List Row) H', Fr b H H' → H' p = some (.tup [.ref D, .ref r]) → NewOff H [b] D → NewOff H [b, D] r → H' D = some (.lst xs) → Paired (isPair H' (NewOff H [r, D, b])) xs L →
    H' r = some (.lst ys) → Paired (isRowS H' (NewOff H [r, D, b]) (NewOff H [r, D, b])) ys R → VarsOk L → EvsOk L R → Bag H' b (n + 700) → Q (.ref p) H'
theorem ok_l_data {P : Program} {w : World} {K : PySem.W.Frag} {mg : Str → Option Value} {base : Heap} (T : Txt P K mg) : FnOk P w K mg base CX0 3 T.f_l_data T.fd_l_data ["_law_box_here", "_law_many", "_law_top"] (sp_data) := by
  refine T.F_l_data.ok sc_l_data (fun vs H Q E h => ?_) (fun cdv A outer s H vs Q E hr h => ?_)
  · obtain ⟨_, _, _, _, rfl, _⟩ := h; rfl
  · obtain ⟨b, n, c, top, rfl, hB, hn, c1, c8, t1, t6, q⟩ := h
    refine ⟨_, PSs.nox (pss_cons (ps_setLc (i := 3) (own := [("_law_name", 11)]) (g := gName 11) rfl sc_l_data.nd rfl rfl (sw_true rfl rfl rfl (by decide +kernel)) (pi_list (pe_call (ok_l_names T) (hr.mono (by decide)) (by rfl) T.g_l_names T.F_l_names.kp (b_l_names T) .nil pass0 (pa_cons (pv 0) (pa_cons (pv 1) pa_nil)))) (blkOk_by (own := [("_law_name", 11)]) (N := N_l_data) (sc := defScope s_l_data) (by decide +kernel)) (fun _ _ _ _ _ => (pg_name (i := 11) sc_l_data.nd rfl (Or.inl rfl))) (fun _ _ _ _ _ => pts_nil) (fun _ _ _ _ _ => (pe_tup (pa_cons (pv 11) (pa_cons (pe_op op_add pe_int (pe_call (ok_l_take T) (hr.mono (by decide)) (by rfl) T.g_l_take T.F_l_take.kp (b_l_take T) .nil pass0 (pa_cons (pv 0) (pa_cons (pv 2) pa_nil)))) pa_nil)))))
      (pss_cons (ps_set (i := 4) sc_l_data.nd rfl (Or.inl rfl) (pe_lst pa_nil))
      (pss_cons (ps_for PassesOwn.never rfl (pi_list (pe_call (ok_l_names T) (hr.mono (by decide)) (by rfl) T.g_l_names T.F_l_names.kp (b_l_names T) .nil pass0 (pa_cons (pv 0) (pa_cons (pe_call (ok_l_take T) (hr.mono (by decide)) (by rfl) T.g_l_take T.F_l_take.kp (b_l_take T) .nil pass0 (pa_cons (pv 0) (pa_cons pe_int pa_nil))) pa_nil)))) (pg_name (i := 5) sc_l_data.nd rfl (Or.inl rfl)) (pss_cons (ps_set (i := 6) sc_l_data.nd rfl (Or.inl rfl) (pe_callTy (show CallR _ _ (rListOf K) from call_list_of) (by rfl) T.n_list (by decide +kernel) (pa_cons (pv 3) pa_nil)))
      (pss_cons (ps_set (i := 7) sc_l_data.nd rfl (Or.inl rfl) (pe_lst pa_nil))
      (pss_cons (ps_for PassesOwn.never rfl (pi_range1 (by rfl) T.n_range (pa_cons (pe_op op_add pe_int (pe_call (ok_l_take T) (hr.mono (by decide)) (by rfl) T.g_l_take T.F_l_take.kp (b_l_take T) .nil pass0 (pa_cons (pv 0) (pa_cons (pe_callB (call_min2 rfl) (by rfl) T.n_min (by decide +kernel) (pa_cons pe_int (pa_cons (pv 1) pa_nil))) pa_nil)))) pa_nil)) (pg_name (i := 8) sc_l_data.nd rfl (Or.inl rfl)) (pss_one (ps_expr (pe_bm PySem.F.plainAttrs_list PySem.F.slot_list_append PySem.F.type_list_append mt_append (pv 7) (pa_cons (show PE _ _ (tBM K "list" rPopAt _ _) from pe_bm PySem.F.plainAttrs_list PySem.F.slot_list_pop PySem.F.type_list_pop mt_popAt (pv 6) (pa_cons (pe_call (ok_l_take T) (hr.mono (by decide)) (by rfl) T.g_l_take T.F_l_take.kp (b_l_take T) .nil pass0 (pa_cons (pv 0) (pa_cons (pe_callB (show CallR _ _ (rLenSeq K) from call_len_seq) (by rfl) T.n_len (by decide +kernel) (pa_cons (pv 6) pa_nil)) pa_nil))) pa_nil)) pa_nil)))))
      (pss_cons (ps_set (i := 9) sc_l_data.nd rfl (Or.inl rfl) (pe_lst pa_nil))
      (pss_cons (ps_for PassesOwn.never rfl (pi_range1 (by rfl) T.n_range (pa_cons (pe_ix (show IxR _ (rIxL K) from ix_list) (pe_lst (pa_cons (pe_call (ok_l_take T) (hr.mono (by decide)) (by rfl) T.g_l_take T.F_l_take.kp (b_l_take T) .nil pass0 (pa_cons (pv 0) (pa_cons pe_int pa_nil))) (pa_cons (pe_call (ok_l_take T) (hr.mono (by decide)) (by rfl) T.g_l_take T.F_l_take.kp (b_l_take T) .nil pass0 (pa_cons (pv 0) (pa_cons pe_int pa_nil))) pa_nil))) (pe_call (ok_l_take T) (hr.mono (by decide)) (by rfl) T.g_l_take T.F_l_take.kp (b_l_take T) .nil pass0 (pa_cons (pv 0) (pa_cons pe_int pa_nil))) (fun _ _ => rfl)) pa_nil)) (pg_name (i := 8) sc_l_data.nd rfl (Or.inl rfl)) (pss_cons (ps_set (i := 10) sc_l_data.nd rfl (Or.inl rfl) (pe_callTy (show CallR _ _ (rTupOf K) from call_tuple_of) (by rfl) T.n_tuple (by decide +kernel) (pa_cons (pe_lc (own := [("_law_name", 11), ("_law_size", 12)]) (g := gTup K 2 (gCons (gName 11) (gCons (gName 12) gNil))) rfl sc_l_data.nd (pi_list (pv 7)) (blkOk_by (own := [("_law_name", 11), ("_law_size", 12)]) (N := N_l_data) (sc := defScope s_l_data) (by decide +kernel)) (fun _ _ _ _ _ => (pg_tup rfl (pgs_cons (pg_name (i := 11) sc_l_data.nd rfl (Or.inl rfl)) (pgs_cons (pg_name (i := 12) sc_l_data.nd rfl (Or.inl rfl)) pgs_nil)))) (fun _ _ _ _ _ => pts_nil) (fun _ _ _ _ _ => (pe_call (ok_l_take T) (hr.mono (by decide)) (by rfl) T.g_l_take T.F_l_take.kp (b_l_take T) .nil pass0 (pa_cons (pv 0) (pa_cons (pv 12) pa_nil))))) pa_nil)))
      (pss_one (ps_if (pt_cmpR (show OpR _ (compareOp .NotIn) (rNotInD K) from op_notInD (hu65 hr)) (pv 10) (pv 9) (by first | rfl | with_unfolding_all rfl)) (pss_one (ps_expr (pe_bm PySem.F.plainAttrs_list PySem.F.slot_list_append PySem.F.type_list_append mt_append (pv 9) (pa_cons (pv 10) pa_nil)))) pss_nil))))
      (pss_one (ps_expr (pe_bm PySem.F.plainAttrs_list PySem.F.slot_list_append PySem.F.type_list_append mt_append (pv 4) (pa_cons (pe_tup (pa_cons (pv 5) (pa_cons (pe_lc (own := [("_law_name", 11), ("_law_size", 12)]) (g := gTup K 2 (gCons (gName 11) (gCons (gName 12) gNil))) rfl sc_l_data.nd (pi_list (pv 7)) (blkOk_by (own := [("_law_name", 11), ("_law_size", 12)]) (N := N_l_data) (sc := defScope s_l_data) (by decide +kernel)) (fun _ _ _ _ _ => (pg_tup rfl (pgs_cons (pg_name (i := 11) sc_l_data.nd rfl (Or.inl rfl)) (pgs_cons (pg_name (i := 12) sc_l_data.nd rfl (Or.inl rfl)) pgs_nil)))) (fun _ _ _ _ _ => pts_nil) (fun _ _ _ _ _ => (pv 11))) (pa_cons (pv 9) pa_nil)))) pa_nil))))))))))
      (pss_one (ps_ret (pe_tup (pa_cons (pv 3) (pa_cons (pv 4) pa_nil)))))))), ?_⟩
    refine ⟨_, rfl, _, rfl, b, n, c, rfl, hB, by omega, by omega, c8, fun pn ns H1 f1 npn pnb hpn ln okn ndn b1 => ?_⟩
    refine ⟨pn, rfl, ⟨_, SqL.of hpn⟩, fun D nD => ?_⟩
    have nbD : b ≠ D := b1.ne nD
    have nDH : NewOff H [b] D := ⟨f1.free (Ne.symm nbD) nD, by simpa using Ne.symm nbD⟩
    refine lc_it (walk_list (K := K) (a := pn) (xs := ns.map V.str)) (fun i H' => ∃ (xs : List V) (L : List (Str × Int)), H' D = some (.lst xs) ∧ Paired (isPair H' (NewOff H [D, b])) xs L ∧ L.map (·.1) = ns.take i ∧ (∀ q ∈ L, 1 ≤ q.2 ∧ q.2 ≤ 6) ∧ Fr b H1 H' ∧ Bag H' b (n + 60 + i)) ?_ ?_ ?_ ?_
    · exact ⟨[], [], upd_same, .nil, rfl, (fun _ h => by cases h), Fr.new nD, b1.upd nbD⟩
    · rintro i H' hi ⟨xs, L, hD, pd, eL, sz, f, bb⟩
      exact SqL.of (f pn _ pnb hpn)
    · rintro i x Hx H3 hi ⟨xs, L, hD, pd, eL, sz, f3, b3⟩ ⟨rfl, hx⟩
      obtain ⟨li, rfl⟩ := str_at' hx
      refine ⟨rfl, ?_⟩
      repeat (first | refine ⟨_, rfl, ?_⟩ | refine ⟨_, _, rfl, rfl, ?_⟩ | refine ⟨_, _, rfl, ?_⟩ | refine ⟨rfl, ?_⟩)
      refine ⟨b, _, top, rfl, b3, by omega, by omega, by omega, fun d H4 f4 b4 d0 d1 => ?_⟩
      refine ⟨_, _, rfl, rfl, lenk 2 rfl (by decide), fun t nt => ?_⟩
      have nbt := b4.ne nt
      have hD4 := f4 D _ (Ne.symm nbD) hD
      have nDt : D ≠ t := ne_of_none hD4 nt
      have nt1 : H1 t = none := (f3.trans f4).free (Ne.symm nbt) nt
      have ntH : NewOff H [D, b] t := ⟨f1.free (Ne.symm nbt) nt1, by simpa using ⟨Ne.symm nDt, Ne.symm nbt⟩⟩
      have lL : L.length = i := by have := congrArg List.length eL; rw [List.length_map, List.length_take] at this; omega
      refine ⟨xs, by rw [upd_ne nDt]; exact hD4, by rw [pd.length, sizeLine_eq]; omega, xs ++ [.ref t], L ++ [(ns[i], 1 + d)], upd_same, ?_, ?_, ?_, ((f3.trans f4).upd_p nt1).upd_p nD, ((b4.upd nbt).upd nbD).mono (by omega)⟩
      · have ml : MvL [D, b] H3 (upd (upd H4 t (.tup [.str ns[i], .int (1 + d)])) D (.lst (xs ++ [.ref t]))) := (MvL.fr (by simp) f4).trans ((MvL.same (Same.new nt)).trans (MvL.upd (by simp)))
        exact Paired.snoc (Paired.mono (fun _ _ z => z.ml ml) pd) ⟨t, rfl, ntH, by rw [upd_ne (Ne.symm nDt), upd_same]⟩
      · rw [List.map_append, eL, take_snoc li]; rfl
      · intro q hq
        rcases List.mem_append.mp hq with h | h
        · exact sz q h
        · rw [List.mem_singleton.mp h]; exact ⟨by show 1 ≤ 1 + d; omega, by show 1 + d ≤ 6; omega⟩
    rintro H3 ⟨xs, L, hD, pd, eL, sz, f3, b3⟩
    rw [List.length_map, List.take_length] at eL
    rw [List.length_map] at b3
    have lL : L.length = ns.length := by rw [← eL, List.length_map]
    have vok : VarsOk L := ⟨by omega, by omega, fun q hq => okn _ (by rw [← eL]; exact List.mem_map.mpr ⟨q, hq, rfl⟩), sz, by rw [eL]; exact ndn⟩
    have F3 := f1.trans f3
    clear hpn pnb f3 f1 b1 nD
    refine ⟨Nat.zero_le _, fun r nr => ?_⟩
    have nbr := b3.ne nr
    have nDr : D ≠ r := ne_of_none hD nr
    have nrH : NewOff H [b, D] r := ⟨F3.free (Ne.symm nbr) nr, by simpa using ⟨Ne.symm nbr, Ne.symm nDr⟩⟩
    repeat (first | refine ⟨_, rfl, ?_⟩ | refine ⟨_, _, rfl, rfl, ?_⟩ | refine ⟨_, _, rfl, ?_⟩ | refine ⟨rfl, ?_⟩)
    refine ⟨b, _, 9, rfl, b3.upd nbr, by omega, by decide, by decide, fun dc H4 f4 b4 dc0 dc1 => ?_⟩
    refine ⟨b, _, dc, rfl, b4, by omega, by omega, by omega, fun pt ts H5 f5 npt ptb hpt lt okt ndt b5 => ?_⟩
    have f35 : Fr b H3 H5 := ((Fr.new nr).trans f4).trans f5
    have hr5 := f5 r _ (Ne.symm nbr) (f4 r _ (Ne.symm nbr) upd_same)
    have nptr : pt ≠ r := fun e => by rw [e] at npt; rw [f4 r _ (Ne.symm nbr) upd_same] at npt; cases npt
    have hD5 := f35 D _ (Ne.symm nbD) hD
    have pd5 : Paired (isPair H5 (NewOff H [r, D, b])) xs L := Paired.mono (fun _ _ z => by
      obtain ⟨t, e, g, h⟩ := z
      exact ⟨t, e, ⟨g.1, fun m => (List.mem_cons.mp m).elim (ne_of_none h nr) g.2⟩, f35 t _ (fun z => g.2 (by simp [z])) h⟩) pd
    have F5 := F3.trans f35
    clear f35 f4 f5 pd hD b4 b3
    refine ⟨pt, rfl, ⟨_, SqL.of hpt⟩, for_it (walk_list (K := K) (a := pt) (xs := ts.map V.str)) (fun i σ H' => ∃ (ys : List V) (R : List Row) (x5 x6 x7 x8 x9 x10 : Option V), σ = [some (.ref b), some (.int c), some (.int top), some (.ref D), some (.ref r), x5, x6, x7, x8, x9, x10, none, none] ∧ Fr b H H' ∧
      H' D = some (.lst xs) ∧ Paired (isPair H' (NewOff H [r, D, b])) xs L ∧ H' pt = some (.lst (ts.map V.str)) ∧ H' r = some (.lst ys) ∧ Paired (isRowS H' (NewOff H [r, D, b]) (NewOff H [r, D, b])) ys R ∧ R.map (·.1) = ts.take i ∧ (∀ w ∈ R, RowOk L w) ∧ Bag H' b (n + 60 + 8 + 1 + 60 + 60 * i)) ?_ ?_ ?_ ?_⟩
    · exact ⟨[], [], _, _, _, _, _, _, rfl, F5, hD5, pd5, hpt, hr5, .nil, rfl, (fun _ h => by cases h), b5.mono (by omega)⟩
    · rintro i σ H' _ ⟨ys, R, x5, x6, x7, x8, x9, x10, rfl, _, _, _, h, _⟩
      exact SqL.of h
    · rintro i x σ Hx H6 hi ⟨ys, R, x5, x6, x7, x8, x9, x10, rfl, F6, hD6, pd6, hpt6, hr6, pr6, eR, okR, b6⟩ ⟨rfl, hx⟩
      obtain ⟨li, rfl⟩ := str_at' hx
      have i8 : i < 8 := by omega
      clear hpt hr5 hD5 pd5 F5 b5
      -- left, scope
      refine ⟨_, rfl, D, _, rfl, .inl (SqL.of hD6), fun p6 np6 => ?_⟩
      have nb6 := b6.ne np6
      have h67 : Fr b H6 (upd H6 p6 (.lst xs)) := Fr.new np6
      have hp6 : upd H6 p6 (.lst xs) p6 = some (.lst xs) := upd_same
      have b7 := b6.upd (o := .lst xs) nb6
      generalize upd H6 p6 (.lst xs) = H7 at h67 hp6 b7
      refine ⟨Nat.zero_le _, fun p7 np7 => ?_⟩
      have nb7 := b7.ne np7
      have n67 : p6 ≠ p7 := ne_of_none hp6 np7
      have np7' : H6 p7 = none := h67.free (Ne.symm nb7) np7
      have h68 : Fr b H6 (upd H7 p7 (.lst [])) := h67.upd_p np7'
      have hp68 : upd H7 p7 (.lst []) p6 = some (.lst xs) := by rw [upd_ne n67]; exact hp6
      have hp78 : upd H7 p7 (.lst []) p7 = some (.lst []) := upd_same
      have b8 := b7.upd (o := .lst []) nb7
      generalize upd H7 p7 (.lst []) = H8 at h68 hp68 hp78 b8
      clear h67 hp6 b7 np7
      repeat (first | refine ⟨_, rfl, ?_⟩ | refine ⟨_, _, rfl, rfl, ?_⟩ | refine ⟨_, _, rfl, ?_⟩ | refine ⟨rfl, ?_⟩)
      refine ⟨b, _, _, rfl, b8, by omega, ?_, ?_, fun d H9 f9 b9 d0 d1 => ?_⟩
      · split <;> omega
      · split <;> omega
      have d4 : d < 4 ∧ d < c := by split at d1 <;> omega
      have hp69 := f9 p6 _ (Ne.symm nb6) hp68
      have hp79 := f9 p7 _ (Ne.symm nb7) hp78
      have h69 := h68.trans f9
      repeat (first | refine ⟨_, rfl, ?_⟩ | refine ⟨_, _, rfl, rfl, ?_⟩ | refine ⟨_, _, rfl, ?_⟩ | refine ⟨rfl, ?_⟩)
      have n67b : p7 ≠ b := Ne.symm nb7
      have n66b : p6 ≠ b := Ne.symm nb6
      refine ⟨by omega, by omega, for_it walk_range (fun j σ G => ∃ (sx : List V) (SL : List (Str × Int)) (rx : List V) (RL : List (Str × Int)) (x8 : Option V), σ = [some (.ref b), some (.int c), some (.int top), some (.ref D), some (.ref r), some (.str ts[i]), some (.ref p6), some (.ref p7), x8, x9, x10, none, none] ∧ Fr b H6 G ∧
        G p7 = some (.lst sx) ∧ G p6 = some (.lst rx) ∧ Paired (isPair H6 (NewOff H [r, D, b])) sx SL ∧ Paired (isPair H6 (NewOff H [r, D, b])) rx RL ∧ (SL ++ RL).Perm L ∧ SL.length = j ∧ Bag G b (n + 60 + 8 + 1 + 60 + 60 * i + 1 + j)) ?_ (fun _ _ _ _ _ => trivial) ?_ ?_⟩
      · exact ⟨[], [], xs, L, _, rfl, h69, hp79, hp69, .nil, pd6, .refl _, rfl, b9⟩
      · rintro j x σ Gx G hj ⟨sx, SL, rx, RL, x8, rfl, hG, h7, h6, ps, pr, pm, lS, bG⟩ ⟨rfl, rfl⟩
        have hlen : SL.length + RL.length = L.length := by rw [← pm.length_eq, List.length_append]
        have hr1 : 1 ≤ RL.length := by omega
        have lr := pr.length
        refine ⟨_, rfl, .inl ⟨rfl, _, SqL.of h7⟩, _, rfl, .inl ⟨rfl, _, SqL.of h6⟩, ?_⟩
        repeat (first | refine ⟨_, rfl, ?_⟩ | refine ⟨_, _, rfl, rfl, ?_⟩ | refine ⟨_, _, rfl, ?_⟩ | refine ⟨rfl, ?_⟩)
        refine ⟨p6, _, rfl, .inl (SqL.of h6), b, _, _, rfl, bG, by omega, by omega, by omega, fun k G1 g1 bG1 k0 k1 => ?_⟩
        have h61 := g1 p6 _ n66b h6
        have h71 := g1 p7 _ n67b h7
        have hk : k.toNat < rx.length := by omega
        refine ⟨p6, _, k, k.toNat, rx[k.toNat], rfl, rfl, h61, by omega, by omega, seq_at k0 k1, List.getElem?_eq_getElem hk, ?_⟩
        obtain ⟨z, hz, oz⟩ := pd_get pr (List.getElem?_eq_getElem hk)
        obtain ⟨lz, ez⟩ := List.getElem?_eq_some_iff.mp hz
        refine ⟨p7, _, _, rfl, rfl, by rw [upd_ne (Ne.symm n67)]; exact h71, by rw [ps.length, sizeLine_eq]; omega, ?_⟩
        refine ⟨sx ++ [rx[k.toNat]], SL ++ [z], rx.eraseIdx k.toNat, RL.eraseIdx k.toNat, _, rfl, ((hG.trans g1).upd_p np6).upd_p np7', upd_same, by rw [upd_ne n67, upd_same], Paired.snoc ps oz, pd_erase _ pr, ?_, by rw [List.length_append, lS]; rfl, (bG1.upd nb6).upd nb7⟩
        rw [List.append_assoc]
        exact ((popP hz).append_left SL).trans pm
      rintro σ G ⟨sx, SL, rx, RL, x8, rfl, hG, h7, -, ps, -, pm, lS, bG⟩
      have d0' : (1 + d).toNat ≤ 4 := by omega
      have sub : ∀ z ∈ SL, z ∈ L := fun z hz => pm.mem_iff.mp (List.mem_append_left _ hz)
      have ndS : (SL.map (·.1)).Nodup := by
        have := (pm.map (·.1)).nodup_iff.mpr vok.nd
        rw [List.map_append] at this
        exact (List.nodup_append.mp this).1
      clear h69 hp79 hp69 h68 hp68 hp78 b8 b9 f9 pm
      refine ⟨Nat.zero_le _, fun p9 np9 => ?_⟩
      have nb9 := bG.ne np9
      have np9' : H6 p9 = none := hG.free (Ne.symm nb9) np9
      have n79 : p7 ≠ p9 := ne_of_none h7 np9
      have hg9 : Fr b H6 (upd G p9 (.lst [])) := hG.upd_p np9'
      have h79 : upd G p9 (.lst []) p7 = some (.lst sx) := by rw [upd_ne n79]; exact h7
      have h99 : upd G p9 (.lst []) p9 = some (.lst []) := upd_same
      have bg9 := bG.upd (o := .lst []) nb9
      generalize upd G p9 (.lst []) = G1 at hg9 h79 h99 bg9
      clear hG h7 bG np9
      repeat (first | refine ⟨_, rfl, ?_⟩ | refine ⟨_, _, rfl, rfl, ?_⟩ | refine ⟨_, _, rfl, ?_⟩ | refine ⟨rfl, ?_⟩)
      have n97b : p9 ≠ b := Ne.symm nb9
      refine ⟨b, _, 4, rfl, bg9, by omega, by decide, by decide, fun da Ga fa ba da0 da1 => ?_⟩
      repeat (first | refine ⟨_, rfl, ?_⟩ | refine ⟨_, _, rfl, rfl, ?_⟩ | refine ⟨_, _, rfl, ?_⟩ | refine ⟨rfl, ?_⟩)
      refine ⟨b, _, 13, rfl, ba, by omega, by decide, by decide, fun db Gb fb bb db0 db1 => ?_⟩
      refine ⟨lenk 2 rfl (by decide), fun p10 np10 => ?_⟩
      have nb10 := bb.ne np10
      repeat (first | refine ⟨_, rfl, ?_⟩ | refine ⟨_, _, rfl, rfl, ?_⟩ | refine ⟨_, _, rfl, ?_⟩ | refine ⟨rfl, ?_⟩)
      refine ⟨b, _, 2, rfl, bb.upd nb10, by omega, by decide, by decide, fun dc2 Gc fc bc dc20 dc21 => ?_⟩
      have hp10 := fc p10 _ (Ne.symm nb10) upd_same
      obtain ⟨v, hv, hvm⟩ := ints_at (ns := [da, db]) dc20 dc21
      have v12 : 0 ≤ v ∧ v ≤ 12 := by
        simp only [List.mem_cons, List.not_mem_nil, or_false] at hvm
        omega
      refine ⟨p10, _, _, _, rfl, rfl, SqL.of hp10, hv, ?_⟩
      have f1c : Fr b G1 Gc := (fa.trans fb).trans ((Fr.new np10).trans fc)
      have hgc := hg9.trans f1c
      have h7c := f1c p7 _ n67b h79
      have h9c := f1c p9 _ n97b h99
      clear fa fb fc ba bb hp10 h79 h99 bg9 hg9 f1c
      repeat (first | refine ⟨_, rfl, ?_⟩ | refine ⟨_, _, rfl, rfl, ?_⟩ | refine ⟨_, _, rfl, ?_⟩ | refine ⟨rfl, ?_⟩)
      refine ⟨by omega, by omega, for_it walk_range (fun j σ G => ∃ (bs : List V) (bad : List (List Int)) (x8 x10 : Option V), σ = [some (.ref b), some (.int c), some (.int top), some (.ref D), some (.ref r), some (.str ts[i]), some (.ref p6), some (.ref p7), x8, some (.ref p9), x10, none, none] ∧ Fr b H6 G ∧ G p7 = some (.lst sx) ∧
        G p9 = some (.lst bs) ∧ Paired (isTupI G (NewOff H [r, D, b])) bs bad ∧ bad.length ≤ j ∧ bad.Nodup ∧ (∀ ns ∈ bad, ns.length = SL.length ∧ ∀ (k : Nat) (z : Str × Int) (v : Int), SL[k]? = some z → ns[k]? = some v → 0 ≤ v ∧ v < z.2) ∧ Bag G b (n + 60 + 8 + 1 + 60 + 60 * i + 8 + 4 * j)) ?_ (fun _ _ _ _ _ => trivial) ?_ ?_⟩
      · exact ⟨[], [], _, _, rfl, hgc, h7c, h9c, .nil, Nat.zero_le _, .nil, (fun _ h => by cases h), bc.mono (by omega)⟩
      · rintro j x σ Gx G hj ⟨bs, bad, x8, x10, rfl, hG, h7, h9, pb, lb, nd, okb, bG⟩ ⟨rfl, rfl⟩
        repeat (first | refine ⟨_, rfl, ?_⟩ | refine ⟨_, _, rfl, rfl, ?_⟩ | refine ⟨_, _, rfl, ?_⟩ | refine ⟨rfl, ?_⟩)
        refine ⟨⟨_, SqL.of h7⟩, fun A nA => ?_⟩
        have nbA := bG.ne nA
        have nA6 : H6 A = none := hG.free (Ne.symm nbA) nA
        have l4 := ps.length
        refine lc_it (walk_list (K := K) (a := p7) (xs := sx)) (fun k G' => ∃ ns : List Int, G' A = some (.lst (ns.map V.int)) ∧ ns.length = k ∧ Fr b G G' ∧ Bag G' b (n + 60 + 8 + 1 + 60 + 60 * i + 8 + 4 * j + k) ∧ ∀ (k : Nat) (z : Str × Int) (v : Int), SL[k]? = some z → ns[k]? = some v → 0 ≤ v ∧ v < z.2) ?_ ?_ ?_ ?_
        · exact ⟨[], upd_same, rfl, Fr.new nA, bG.upd nbA, fun k z v _ h => by simp at h⟩
        · rintro k G' _ ⟨ns, _, _, f, _⟩
          exact SqL.of (f p7 _ n67b h7)
        · rintro k x Gy G2 hk ⟨ns, hA, ln, g2, b2, okv⟩ ⟨rfl, hx⟩
          obtain ⟨z, hz, tp, rfl, ntp, htp⟩ := pd_get ps hx
          have sz2 := vok.sz z (sub z (List.mem_of_getElem? hz))
          refine ⟨tp, _, rfl, .inl (.inl (g2 _ _ (fun e => ntp.2 (by simp [e])) (hG _ _ (fun e => ntp.2 (by simp [e])) htp))), rfl, _, _, rfl, _, _, rfl, rfl, rfl, ?_⟩
          repeat (first | refine ⟨_, rfl, ?_⟩ | refine ⟨_, _, rfl, rfl, ?_⟩ | refine ⟨_, _, rfl, ?_⟩ | refine ⟨rfl, ?_⟩)
          refine ⟨b, _, z.2, rfl, b2, by omega, by omega, by omega, fun v3 G3 g3 b3 v30 v31 => ?_⟩
          refine ⟨ns.map V.int, g3 A _ (Ne.symm nbA) hA, by rw [List.length_map, sizeLine_eq]; omega, ns ++ [v3], by rw [upd_same, List.map_append]; rfl, by rw [List.length_append, ln]; rfl, (g2.trans g3).upd_p nA, (b3.upd nbA).mono (by omega), fun k' z' v' h1 h2 => ?_⟩
          by_cases hk' : k' < ns.length
          · rw [List.getElem?_append_left hk'] at h2
            exact okv k' z' v' h1 h2
          · have ek : k' = k := by
              have := (List.getElem?_eq_some_iff.mp h2).1
              rw [List.length_append] at this
              simp at this
              omega
            subst ek
            rw [List.getElem?_append_right (by omega), ln, Nat.sub_self] at h2
            rw [hz] at h1
            cases h1
            cases h2
            exact ⟨v30, v31⟩
        · rintro G2 ⟨ns, hA, ln, g2, b2, okv⟩
          refine ⟨A, _, rfl, .inl ⟨SqL.of hA, fun t nt => ?_⟩⟩
          have nbt := b2.ne nt
          have nt0 : G t = none := g2.free (Ne.symm nbt) nt
          have f4 : Fr b G (upd G2 t (.tup (ns.map V.int))) := g2.upd_p nt0
          have b4 : Bag (upd G2 t (.tup (ns.map V.int))) b (n + 60 + 8 + 1 + 60 + 60 * i + 8 + 4 * (j + 1)) := (b2.upd nbt).mono (by omega)
          have ht : upd G2 t (.tup (ns.map V.int)) t = some (.tup (ns.map V.int)) := upd_same
          have nt6 := hG.free (Ne.symm nbt) nt0
          have ntH : NewOff H [r, D, b] t := ⟨F6.free (Ne.symm nbt) nt6, by simpa using ⟨(ne_of_none hr6 nt6).symm, (ne_of_none hD6 nt6).symm, Ne.symm nbt⟩⟩
          generalize upd G2 t (.tup (ns.map V.int)) = G3 at f4 b4 ht
          have h93 := f4 p9 _ n97b h9
          have h73 := f4 p7 _ n67b h7
          have pb3 := Paired.mono (fun _ _ z => isTupI.ml z (MvL.fr (by simp) f4)) pb
          have t3 : isTupI G3 (NewOff H [r, D, b]) (.ref t) ns := ⟨t, rfl, ntH, ht⟩
          repeat (first | refine ⟨_, rfl, ?_⟩ | refine ⟨_, _, rfl, rfl, ?_⟩ | refine ⟨_, _, rfl, ?_⟩ | refine ⟨rfl, ?_⟩)
          refine ⟨tupD ns, bad.map tupD, dp_tup t3, .lst (SqL.of h93) (dp_all (fun _ _ z => dp_tup z) pb3), (shd_tup ns).shaped (by decide), (shd_tups bad).shaped (by decide), _, rfl, ?_⟩
          rw [any_tups]
          by_cases hm : ns ∈ bad
          · rw [decide_eq_true hm]
            exact iteF ⟨bs, bad, _, _, rfl, hG.trans f4, h73, h93, pb3, by omega, nd, okb, b4⟩
          · rw [decide_eq_false hm]
            refine iteT ⟨_, rfl, .inl ⟨rfl, _, SqL.of h93⟩, _, rfl, p9, _, _, rfl, rfl, h93, by rw [pb3.length, sizeLine_eq]; omega, ?_⟩
            refine ⟨bs ++ [.ref t], bad ++ [ns], _, _, rfl, (hG.trans f4).upd_p np9', by rw [upd_ne n79]; exact h73, upd_same, ?_, by rw [List.length_append]; simp; omega, ?_, ?_, b4.upd nb9⟩
            · have k3 : ∀ (x : V) (ms : List Int), isTupI G3 (NewOff H [r, D, b]) x ms → isTupI (upd G3 p9 (.lst (bs ++ [.ref t]))) (NewOff H [r, D, b]) x ms := fun x ms z => by
                obtain ⟨u, e, gu, hu⟩ := z
                exact ⟨u, e, gu, by rw [upd_ne (ne_of hu h93 (by simp))]; exact hu⟩
              exact Paired.snoc (Paired.mono k3 pb3) (k3 _ _ t3)
            · rw [List.nodup_append]
              exact ⟨nd, by simp, fun x hx y hy e => hm (by rw [List.mem_singleton.mp hy] at e; rw [← e]; exact hx)⟩
            · intro ms hms
              rcases List.mem_append.mp hms with h | h
              · exact okb ms h
              · rw [List.mem_singleton.mp h]; exact ⟨by rw [ln, l4], okv⟩
      rintro σ G ⟨bs, bad, x8, x10, rfl, hG, h7, h9, pb, lb, nd, okb, bG⟩
      repeat (first | refine ⟨_, rfl, ?_⟩ | refine ⟨_, _, rfl, rfl, ?_⟩ | refine ⟨_, _, rfl, ?_⟩ | refine ⟨rfl, ?_⟩)
      have hrG := hG r _ (Ne.symm nbr) hr6
      refine ⟨.inl ⟨rfl, _, SqL.of hrG⟩, ?_⟩
      repeat (first | refine ⟨_, rfl, ?_⟩ | refine ⟨_, _, rfl, rfl, ?_⟩ | refine ⟨_, _, rfl, ?_⟩ | refine ⟨rfl, ?_⟩)
      refine ⟨⟨_, SqL.of h7⟩, fun A nA => ?_⟩
      have l4 := ps.length
      refine lc_it (walk_list (K := K) (a := p7) (xs := sx)) (fun k G' => G' A = some (.lst (((SL.take k).map (·.1)).map V.str)) ∧ Same G G') ⟨upd_same, Same.new nA⟩ (fun k G' _ h => SqL.of (h.2 _ _ h7)) ?_ ?_
      · rintro k x Gy G2 hk ⟨k1, k2⟩ ⟨rfl, hx⟩
        obtain ⟨z, hz, tp, rfl, ntp, htp⟩ := pd_get ps hx
        obtain ⟨lz, ez⟩ := List.getElem?_eq_some_iff.mp hz
        refine ⟨tp, _, rfl, .inl (.inl (k2 _ _ (hG _ _ (fun e => ntp.2 (by simp [e])) htp))), rfl, _, _, rfl, _, _, rfl, rfl, rfl, ?_⟩
        repeat (first | refine ⟨_, rfl, ?_⟩ | refine ⟨_, _, rfl, rfl, ?_⟩ | refine ⟨_, _, rfl, ?_⟩ | refine ⟨rfl, ?_⟩)
        refine ⟨_, k1, by rw [List.length_map, List.length_map, List.length_take, sizeLine_eq]; omega, ?_, Same.upd_p k2 nA⟩
        rw [upd_same, take_snoc lz, ez, List.map_append, List.map_append]; rfl
      rintro G2 ⟨hA, s2⟩
      rw [l4, List.take_length] at hA
      repeat (first | refine ⟨_, rfl, ?_⟩ | refine ⟨_, _, rfl, rfl, ?_⟩ | refine ⟨_, _, rfl, ?_⟩ | refine ⟨rfl, ?_⟩)
      refine ⟨lenk 3 rfl (by decide), fun t nt => ?_⟩
      have nA6 : H6 A = none := hG.free (bG.ne nA).symm nA
      have b2 := bG.same s2
      have nbt := b2.ne nt
      have hG2 := hG.trans (Fr.of_same s2)
      have nt6 : H6 t = none := hG2.free (Ne.symm nbt) nt
      have st := Same.new (o := .tup [.str ts[i], .ref A, .ref p9]) nt
      have ht : upd G2 t (.tup [.str ts[i], .ref A, .ref p9]) t = some (.tup [.str ts[i], .ref A, .ref p9]) := upd_same
      have bt := b2.upd (o := .tup [.str ts[i], .ref A, .ref p9]) nbt
      generalize upd G2 t (.tup [.str ts[i], .ref A, .ref p9]) = G3 at st ht bt
      have hG3 := hG2.trans (Fr.of_same st)
      have s23 := s2.trans st
      have newo : ∀ {a : Addr}, H6 a = none → a ≠ b → NewOff H [r, D, b] a := fun h6 hb => ⟨F6.free hb h6, by simpa using ⟨(ne_of_none hr6 h6).symm, (ne_of_none hD6 h6).symm, hb⟩⟩
      have mlr : MvL [r, D, b] G3 (upd G3 r (.lst (ys ++ [.ref t]))) := MvL.upd (by simp)
      have ml6 : MvL [r, D, b] H6 (upd G3 r (.lst (ys ++ [.ref t]))) := (MvL.fr (by simp) hG3).trans mlr
      have nAb := (bG.ne nA).symm
      refine ⟨r, _, _, rfl, rfl, s23 _ _ hrG, by rw [pr6.length]; have := congrArg List.length eR; rw [List.length_map, List.length_take] at this; rw [sizeLine_eq]; omega, ?_⟩
      have hptG := (hG3 pt _ ptb hpt6)
      refine ⟨ys ++ [.ref t], R ++ [(ts[i], SL.map (·.1), bad)], _, _, _, _, _, _, rfl, (F6.trans hG3).upd_p nrH.1, ?_, Paired.mono (fun _ _ z => z.ml ml6) pd6, ?_, upd_same, ?_, ?_, ?_, (bt.upd nbr).mono (by omega)⟩
      · rw [upd_ne nDr]; exact hG3 D _ (Ne.symm nbD) hD6
      · rw [upd_ne nptr]; exact hptG
      · refine Paired.snoc (Paired.mono (fun _ _ z => z.ml ml6) pr6) ?_
        have nt' := newo nt6 (Ne.symm nbt)
        have nA' := newo nA6 nAb
        have n9' := newo np9' n97b
        exact ⟨t, A, p9, bs, rfl, nt', mlr _ _ nt'.2 ht, ⟨nA', mlr _ _ nA'.2 (st _ _ hA)⟩, ⟨n9', mlr _ _ n9'.2 (s23 _ _ h9)⟩, Paired.mono (fun _ _ z => (isTupI.same z s23).ml mlr) pb⟩
      · rw [List.map_append, eR, take_snoc li]; rfl
      · intro w hw
        rcases List.mem_append.mp hw with h | h
        · exact okR w h
        · rw [List.mem_singleton.mp h]
          refine ⟨okt _ (List.getElem_mem li), by rw [List.length_map, lS]; omega, by rw [List.length_map, lS]; omega, fun x hx => ?_, ndS, (by show bad.length ≤ 12; omega), nd, fun ns hns => by rw [List.length_map]; exact (okb ns hns).1, fun ns hns k x v h1 h2 => ?_⟩
          · obtain ⟨z, hz, rfl⟩ := List.mem_map.mp hx
            exact List.mem_map.mpr ⟨z, sub z hz, rfl⟩
          · rw [List.getElem?_map] at h1
            obtain ⟨z, hz, rfl⟩ := Option.map_eq_some_iff.mp h1
            have := (okb ns hns).2 k z v hz h2
            rw [sizeOf_mem vok.nd (sub z (List.mem_of_getElem? hz))]
            exact this
    · rintro σ H' ⟨ys, R, x5, x6, x7, x8, x9, x10, rfl, F6, hD6, pd6, hpt6, hr6, pr6, eR, okR, b6⟩
      rw [List.length_map] at b6 eR
      rw [List.take_length] at eR
      refine ⟨_, rfl, _, rfl, lenk 2 rfl (by decide), fun p np => ?_⟩
      have sp := Same.new (o := .tup [.ref D, .ref r]) np
      have lR : R.length = ts.length := by rw [← eR, List.length_map]
      exact q p D r xs ys L R _ (F6.trans (Fr.of_same sp)) upd_same nDH nrH (sp _ _ hD6) (Paired.mono (fun _ _ z => z.same sp) pd6) (sp _ _ hr6) (Paired.mono (fun _ _ z => z.same sp) pr6) vok ⟨by omega, okR, by rw [eR]; exact ndt⟩ ((b6.upd (b6.ne np)).mono (by omega))

end K38
namespace K38
open PySem PySem.Spec PyProof.Rows L2 TL
/-! ### the law's groups -/
theorem catA_pre {K : PySem.W.Frag} {Q : VK} {a c : Addr} {xs : List V} {y : V} {H : Hp} (ha : H a = some (.tup xs)) (hc : H c = some (.tup [y])) (nz : xs.length + 1 ≤ sizeLine)
    (q : ∀ p H', Same H H' → (p = c ∨ H p = none) → H' p = some (.tup (xs ++ [y])) → Q (.ref p) H') : rCatA K (.ref a) (.ref c) H Q :=
  ⟨a, c, xs, [y], rfl, rfl, .inl (.inl ha), .inl (.inl hc), nz, fun e => by subst e; exact q c H (Same.refl H) (.inl rfl) hc, fun _ e => (by cases e), fun _ _ p np => q p _ (Same.new np) (.inr np) upd_same⟩
theorem eqv_nilL (l : List PyData) : PyData.eqv (.list l) (.list []) = decide (l = []) := by
  cases l <;> simp [PyData.eqv, PyData.eqvAll]
def rowAt (H : Hp) (x : V) (r : Row) : Prop := ∃ t a c ys, x = .ref t ∧ H t = some (.tup [.str r.1, .ref a, .ref c]) ∧ H a = some (.lst (r.2.1.map V.str)) ∧ H c = some (.lst ys) ∧ ys.length = r.2.2.length
theorem rowAt.same {H H' : Hp} {x : V} {r : Row} (h : rowAt H x r) (s : Same H H') : rowAt H' x r := by
  obtain ⟨t, a, c, ys, e, h1, h2, h3, h4⟩ := h
  exact ⟨t, a, c, ys, e, s _ _ h1, s _ _ h2, s _ _ h3, h4⟩
theorem isRowS.at {H : Hp} {F G : Addr → Prop} {x : V} {r : Row} (h : isRowS H F G x r) : rowAt H x r := by
  obtain ⟨p, a, b, ys, e, _, h, la, lb, hp⟩ := h
  exact ⟨p, a, b, ys, e, h, la.2, lb.2, hp.length⟩
def adjB (r s : Row) : Bool := decide (r.1 = s.1) || share r.2.1 s.2.1
def sp_meet : Sp := fun vs H Q _ => ∃ (x y : V) (r s : Row), vs = [x, y] ∧ rowAt H x r ∧ rowAt H y s ∧ (∀ x ∈ r.2.1, NameOk x) ∧ r.2.1.length ≤ 4 ∧ ∀ H', Same H H' → Q (.bl (adjB r s)) H'
theorem ok_l_meet {P : Program} {w : World} {K : PySem.W.Frag} {mg : Str → Option Value} {base : Heap} (T : Txt P K mg) : FnOk P w K mg base CX0 1 T.f_l_meet T.fd_l_meet ["_law_one", "_law_other"] (sp_meet) := by
  refine T.F_l_meet.ok sc_l_meet (fun vs H Q E h => ?_) (fun cdv A outer s H vs Q E hr h => ?_)
  · obtain ⟨_, _, _, _, rfl, _⟩ := h; rfl
  · obtain ⟨x, y, r, s, rfl, ⟨t, a, c, ys, rfl, ht, ha, -, -⟩, ⟨u, a', c', ys', rfl, hu, ha', -, -⟩, nm, l4, q⟩ := h
    refine ⟨_, PSs.nox (pss_one (ps_ret (pe_or (pe_cmpR op_eq (pe_ix (show IxR _ (rIxT K) from ix_tup) (pv 0) pe_int (fun _ _ => rfl)) (pe_ix (show IxR _ (rIxT K) from ix_tup) (pv 1) pe_int (fun _ _ => rfl)) (nomark _)) (pe_one (pe_cmpR (show OpR _ (compareOp .NotEq) (rNeD K) from op_neD hr.units) (pe_lc (own := [("_law_name", 2)]) (g := gName 2) rfl sc_l_meet.nd (pi_list (pe_ix (show IxR _ (rIxT K) from ix_tup) (pv 0) pe_int (fun _ _ => rfl))) (blkOk_by (own := [("_law_name", 2)]) (N := N_l_meet) (sc := defScope s_l_meet) (by decide +kernel)) (fun _ _ _ _ _ => (pg_name (i := 2) sc_l_meet.nd rfl (Or.inl rfl))) (fun _ _ _ _ _ => pts_one (pt_cmpR (show OpR _ (compareOp .In) (rIn K false) from op_in_seq) (pv 2) (pe_ix (show IxR _ (rIxT K) from ix_tup) (pv 1) pe_int (fun _ _ => rfl)) (by first | rfl | with_unfolding_all rfl))) (fun _ _ _ _ _ => (pv 2))) (pe_lst pa_nil) (nomark _)))))), ?_⟩
    repeat (first | refine ⟨_, rfl, ?_⟩ | refine ⟨_, _, rfl, rfl, ?_⟩ | refine ⟨_, _, rfl, ?_⟩ | refine ⟨rfl, ?_⟩)
    refine ⟨t, _, (0 : Int), _, rfl, rfl, .inl (.inl ht), rfl, ?_⟩
    repeat (first | refine ⟨_, rfl, ?_⟩ | refine ⟨_, _, rfl, rfl, ?_⟩ | refine ⟨_, _, rfl, ?_⟩ | refine ⟨rfl, ?_⟩)
    refine ⟨u, _, (0 : Int), _, rfl, rfl, .inl (.inl hu), rfl, ?_⟩
    repeat (first | refine ⟨_, rfl, ?_⟩ | refine ⟨_, _, rfl, rfl, ?_⟩ | refine ⟨_, _, rfl, ?_⟩ | refine ⟨rfl, ?_⟩)
    refine ite2 (fun c => ?_) (fun c => ?_)
    · have := q H (Same.refl H)
      rw [dec_vstr] at c
      unfold adjB at this
      rw [c, Bool.true_or] at this
      exact this
    · have c' : decide (r.1 = s.1) = false := by rw [← dec_vstr]; exact Bool.eq_false_iff.mpr c
      repeat (first | refine ⟨_, rfl, ?_⟩ | refine ⟨_, _, rfl, rfl, ?_⟩ | refine ⟨_, _, rfl, ?_⟩ | refine ⟨rfl, ?_⟩)
      refine ⟨t, _, (1 : Int), _, rfl, rfl, .inl (.inl ht), rfl, ?_⟩
      repeat (first | refine ⟨_, rfl, ?_⟩ | refine ⟨_, _, rfl, rfl, ?_⟩ | refine ⟨_, _, rfl, ?_⟩ | refine ⟨rfl, ?_⟩)
      refine ⟨⟨_, SqL.of ha⟩, fun D nD => ?_⟩
      refine lc_it (walk_list (K := K) (a := a) (xs := r.2.1.map V.str)) (fun i H' => H' D = some (.lst (((r.2.1.take i).filter fun x => decide (x ∈ s.2.1)).map V.str)) ∧ Same H H') ⟨upd_same, Same.new nD⟩ (fun i H' _ h => SqL.of (h.2 _ _ ha)) ?_ ?_
      · rintro i x Hx H1 hi ⟨h1, s1⟩ ⟨rfl, hx⟩
        obtain ⟨li, rfl⟩ := str_at' hx
        refine ⟨rfl, ?_⟩
        repeat (first | refine ⟨_, rfl, ?_⟩ | refine ⟨_, _, rfl, rfl, ?_⟩ | refine ⟨_, _, rfl, ?_⟩ | refine ⟨rfl, ?_⟩)
        refine ⟨u, _, (1 : Int), _, rfl, rfl, .inl (.inl (s1 _ _ hu)), rfl, ?_⟩
        refine ⟨a', _, rfl, .inl (SqL.of (s1 _ _ ha')), rfl, flat_str _, _, rfl, ?_⟩
        rw [inV_str]
        by_cases hm : r.2.1[i] ∈ s.2.1
        · rw [decide_eq_true hm]
          refine iteT ?_
          repeat (first | refine ⟨_, rfl, ?_⟩ | refine ⟨_, _, rfl, rfl, ?_⟩ | refine ⟨_, _, rfl, ?_⟩ | refine ⟨rfl, ?_⟩)
          refine ⟨_, h1, by have := List.length_filter_le (fun x => decide (x ∈ s.2.1)) (r.2.1.take i); rw [List.length_take] at this; rw [List.length_map, sizeLine_eq]; omega, ?_, Same.upd_p s1 nD⟩
          rw [upd_same, take_snoc li, List.filter_append, List.map_append, List.filter_cons, if_pos (by simpa using hm)]; rfl
        · rw [decide_eq_false hm]
          refine iteF ⟨?_, s1⟩
          rw [take_snoc li, List.filter_append, List.filter_cons, if_neg (by simpa using hm), List.filter_nil, List.append_nil]
          exact h1
      rintro H1 ⟨h1, s1⟩
      rw [List.length_map, List.take_length] at h1
      refine ⟨Nat.zero_le _, fun e0 ne0 => ?_⟩
      have se := Same.new (o := .lst []) ne0
      refine ⟨.list ((r.2.1.filter fun x => decide (x ∈ s.2.1)).map PyData.str), .list [], .lst (SqL.of (se _ _ h1)) (dp_strs _), .lst (SqL.of upd_same) .nil, (Shd.list (k := 0) fun d hd => by
        obtain ⟨s, hs, rfl⟩ := List.mem_map.mp hd; exact Shd.str (nm s (List.mem_filter.mp hs).1)).shaped (by decide), (Shd.list (k := 0) all0).shaped (by decide), ?_⟩
      rw [eqv_nilL]
      have e : (!decide ((r.2.1.filter fun x => decide (x ∈ s.2.1)).map PyData.str = [])) = adjB r s := by
        unfold adjB share
        rw [c', Bool.false_or, ← Bool.decide_coe (r.2.1.any _), ← decide_not, decide_eq_decide, List.map_eq_nil_iff, List.filter_eq_nil_iff, List.any_eq_true]
        simp
      rw [e]
      exact q _ (s1.trans se)

end K38
namespace K38
open PySem PySem.Spec PyProof.Rows L2 TL
/-! ### all groups of places that don't meet, by the law -/
def gi (g : List Nat) : List Int := g.map fun (j : Nat) => (j : Int)
abbrev isG (H : Hp) (x : V) (g : List Nat) : Prop := isTupI H (fun _ => True) x (gi g)
def adR (R : List Row) (j k : Nat) : Bool := match R[j]?, R[k]? with | some r, some s => adjB r s | _, _ => false
def grow (R : List Row) (g : List Nat) : List (List Nat) := (nxt (adR R) R.length g).map fun j => g ++ [j]
theorem lvl_take (R : List Row) (k : Nat) {i : Nat} (hi : i < (lvl (adR R) R.length k).length) : ((lvl (adR R) R.length k).take (i + 1)).flatMap (grow R) = ((lvl (adR R) R.length k).take i).flatMap (grow R) ++ grow R (lvl (adR R) R.length k)[i] := by
  rw [take_snoc hi, List.flatMap_append]; simp
theorem range'_snoc (M j : Nat) : List.range' M (j + 1) = List.range' M j ++ [M + j] := by rw [List.range'_concat]; simp
theorem adR_at {R : List Row} {j k : Nat} {r s : Row} (h1 : R[j]? = some r) (h2 : R[k]? = some s) : adR R j k = adjB r s := by unfold adR; rw [h1, h2]
theorem shd_gs (L : List (List Nat)) : Shd 2 (.list (L.map fun g => tupD (gi g))) := Shd.list fun d hd => by
  obtain ⟨g, _, rfl⟩ := List.mem_map.mp hd; exact shd_tup _
theorem wgt_256 {R : List Row} (h : R.length ≤ 8) (m : Nat) : (pre (adR R) R.length m).length + (lvl (adR R) R.length m).length ≤ 256 := by
  have h1 := wgt_lvl (ad := adR R) (n := R.length) m
  have h2 := lvl_len (ad := adR R) (n := R.length) m
  have h3 : 2 ^ R.length ≤ 2 ^ 8 := Nat.pow_le_pow_right (by decide) h
  omega

end K38
namespace K38
open PySem PySem.Spec PyProof.Rows L2 TL
/-! ### the program's groups -/
theorem cutV1 (xs : List V) (k : Nat) : cutV xs (some ((k : Int) + 1)) none = xs.drop (k + 1) := by
  show cutV xs (some (((k + 1 : Nat)) : Int)) none = _
  unfold cutV
  rw [HT.sIx_nat, HT.sIx_none]
  by_cases h : k + 1 ≤ xs.length
  · rw [Nat.min_eq_left h, List.take_of_length_le (by rw [List.length_drop]; omega)]
  · rw [Nat.min_eq_right (by omega), Nat.sub_self, List.take_zero, List.drop_of_length_le (by omega)]
def nmR (R : List Row) (j : Nat) : Str := (R[j]?.map (·.1)).getD ""
theorem nmR_at {R : List Row} {j : Nat} {r : Row} (h : R[j]? = some r) : nmR R j = r.1 := by unfold nmR; rw [h]; rfl
def tN (R : List Row) (g : List Nat) : List Str := g.map (nmR R)
abbrev nxR (R : List Row) (g : List Nat) : List Nat := nxt (adR R) R.length g
theorem tN_all (R : List Row) : tN R (List.range R.length) = R.map (·.1) := by
  unfold tN
  refine List.ext_getElem? fun i => ?_
  rw [List.getElem?_map, List.getElem?_map]
  by_cases h : i < R.length
  · rw [List.getElem?_range h, List.getElem?_eq_getElem h]
    show some (nmR R i) = _
    rw [nmR_at (List.getElem?_eq_getElem h)]; rfl
  · rw [List.getElem?_eq_none (by rw [List.length_range]; omega), List.getElem?_eq_none (by omega)]; rfl
theorem tN_snoc (R : List Row) (g : List Nat) (j : Nat) : tN R (g ++ [j]) = tN R g ++ [nmR R j] := by unfold tN; rw [List.map_append]; rfl
def isC (R : List Row) (H : Hp) (x : V) (g : List Nat) : Prop := ∃ t, x = .ref t ∧ H t = some (.tup ((tN R g).map V.str))
def isLv (R : List Row) (N : Addr → Prop) (H : Hp) (x : V) (g : List Nat) : Prop := ∃ t c l, x = .ref t ∧ N l ∧ H t = some (.tup [.ref c, .ref l]) ∧ H c = some (.tup ((tN R g).map V.str)) ∧ H l = some (.lst ((tN R (nxR R g)).map V.str))
theorem isC.same {R : List Row} {H H' : Hp} {x : V} {g : List Nat} (h : isC R H x g) (s : Same H H') : isC R H' x g := by
  obtain ⟨t, e, h⟩ := h; exact ⟨t, e, s _ _ h⟩
theorem isLv.same {R : List Row} {N : Addr → Prop} {H H' : Hp} {x : V} {g : List Nat} (h : isLv R N H x g) (s : Same H H') : isLv R N H' x g := by
  obtain ⟨t, c, l, e, n, h1, h2, h3⟩ := h; exact ⟨t, c, l, e, n, s _ _ h1, s _ _ h2, s _ _ h3⟩
theorem isLv.wk {R : List Row} {N N' : Addr → Prop} {H : Hp} {x : V} {g : List Nat} (h : isLv R N H x g) (w : ∀ a, N a → N' a) : isLv R N' H x g := by
  obtain ⟨t, c, l, e, n, h1, h2, h3⟩ := h; exact ⟨t, c, l, e, w _ n, h1, h2, h3⟩
/-- a list that is no part of them changes -/
theorem isLv.mv {R : List Row} {N : Addr → Prop} {H H' : Hp} {D : Addr} {o : List V} {x : V} {g : List Nat} (h : isLv R N H x g) (m : Mv (fun a => a = D) H H') (hD : H D = some (.lst o)) (w : ∀ a, N a → a ≠ D) : isLv R N H' x g := by
  obtain ⟨t, c, l, e, n, h1, h2, h3⟩ := h
  exact ⟨t, c, l, e, n, m _ _ (ne_of h1 hD (by simp)) h1, m _ _ (ne_of h2 hD (by simp)) h2, m _ _ (w _ n) h3⟩
theorem isC.mv {R : List Row} {H H' : Hp} {D : Addr} {o : List V} {x : V} {g : List Nat} (h : isC R H x g) (m : Mv (fun a => a = D) H H') (hD : H D = some (.lst o)) : isC R H' x g := by
  obtain ⟨t, e, h1⟩ := h
  exact ⟨t, e, m _ _ (ne_of h1 hD (by simp)) h1⟩
def NbD (H : Hp) (R : List Row) (d : Addr) : Prop := ∃ kvs, H d = some (.dK kvs) ∧ ∀ r ∈ R, ∃ z, valV kvs (Sum.inr r.1) = some (.ref z) ∧ H z = some (.lst ((nbs R r).map V.str))
theorem NbD.same {H H' : Hp} {R : List Row} {d : Addr} (h : NbD H R d) (s : Same H H') : NbD H' R d := by
  obtain ⟨kvs, h1, h2⟩ := h
  refine ⟨kvs, s _ _ h1, fun r hr => ?_⟩
  obtain ⟨z, e1, e2⟩ := h2 r hr
  exact ⟨z, e1, s _ _ e2⟩
theorem nb_ad {R : List Row} (nd : (R.map (·.1)).Nodup) {k x : Nat} {r s : Row} (hr : R[k]? = some r) (hs : R[x]? = some s) (ne : k ≠ x) : decide (s.1 ∈ nbs R r) = adR R k x := by
  rw [in_nbs nd (List.mem_of_getElem? hs), adR_at hr hs]
  have : ¬ r.1 = s.1 := fun e => ne (nd_at nd (by rw [List.getElem?_map, hr]; rfl) (by rw [List.getElem?_map, hs]; exact congrArg some e.symm))
  unfold adjB
  rw [decide_eq_false this, decide_eq_false (fun e => this e.symm)]; rfl
def sp_wom (K : PySem.W.Frag) : Sp := fun vs H Q _ => ∃ (c l d : Addr) (R : List Row) (g : List Nat), vs = [.ref c, .ref l, .ref d] ∧ R.length ≤ 8 ∧ (R.map (·.1)).Nodup ∧ g.length ≤ 8 ∧ H c = some (.tup ((tN R g).map V.str)) ∧ H l = some (.lst ((tN R (nxR R g)).map V.str)) ∧ NbD H R d ∧
  ∀ p ys H', Same H H' → H p = none → H' p = some (.lst ys) → Paired (isLv R (fun a => H a = none) H') ys (grow R g) → Q (.ref p) H'
theorem ok__with_one_more {P : Program} {w : World} {K : PySem.W.Frag} {mg : Str → Option Value} {base : Heap} (T : Txt P K mg) : FnOk P w K mg base CX0 1 T.f__with_one_more T.fd__with_one_more ["chosen", "rest", "neighbors"] (sp_wom K) := by
  refine T.F__with_one_more.ok sc__with_one_more (fun vs H Q E h => ?_) (fun cdv A outer s H vs Q E hr h => ?_)
  · obtain ⟨_, _, _, _, _, rfl, _⟩ := h; rfl
  · obtain ⟨c, l, d, R, g, rfl, r8, nd, g8, hc, hl, hd, q⟩ := h
    refine ⟨_, PSs.nox (pss_cons (ps_set (i := 3) sc__with_one_more.nd rfl (Or.inl rfl) (pe_lst pa_nil))
      (pss_cons (ps_for PassesOwn.never rfl (pi_enum (by rfl) T.n_enumerate (pa_cons (pv 1) pa_nil)) (pg_tup rfl (pgs_cons (pg_name (i := 4) sc__with_one_more.nd rfl (Or.inl rfl)) (pgs_cons (pg_name (i := 5) sc__with_one_more.nd rfl (Or.inr rfl)) pgs_nil))) (pss_cons (ps_setLc (i := 6) (own := [("other", 7)]) (g := gName 7) rfl sc__with_one_more.nd rfl rfl (sw_true rfl rfl rfl (by decide +kernel)) (pi_list (pe_slice (show SlR _ (rSlL K) from sl_list) (pv 1) (po_some (pe_op op_add (pv 4) pe_int)) po_none)) (blkOk_by (own := [("other", 7)]) (N := N__with_one_more) (sc := defScope s__with_one_more) (by decide +kernel)) (fun _ _ _ _ _ => (pg_name (i := 7) sc__with_one_more.nd rfl (Or.inl rfl))) (fun _ _ _ _ _ => pts_one (pt_cmpR (show OpR _ (compareOp .NotIn) (rIn K true) from op_notIn_seq) (pv 7) (pe_dget (hu_of hr) (pv 2) (pv 5) (fun _ _ => rfl)) (by first | rfl | with_unfolding_all rfl))) (fun _ _ _ _ _ => (pv 7)))
      (pss_one (ps_expr (pe_bm PySem.F.plainAttrs_list PySem.F.slot_list_append PySem.F.type_list_append mt_append (pv 3) (pa_cons (pe_tup (pa_cons (pe_op (show OpR _ _ (rCatA K) from op_catA) (pv 0) (pe_tup (pa_cons (pv 5) pa_nil))) (pa_cons (pv 6) pa_nil))) pa_nil))))))
      (pss_one (ps_ret (pv 3))))), ?_⟩
    refine ⟨Nat.zero_le _, fun f nf => ?_⟩
    have lN : (nxR R g).length ≤ 8 := Nat.le_trans (List.length_filter_le _ _) (by rw [List.length_range]; exact r8)
    have lx : ((tN R (nxR R g)).map V.str).length = (nxR R g).length := by unfold tN; rw [List.length_map, List.length_map]
    repeat (first | refine ⟨_, rfl, ?_⟩ | refine ⟨_, _, rfl, rfl, ?_⟩ | refine ⟨_, _, rfl, ?_⟩ | refine ⟨rfl, ?_⟩)
    refine ⟨l, _, rfl, SqL.of (Same.new nf _ _ hl), for_it (walk_enum (K := K) (a := l) (xs := (tN R (nxR R g)).map V.str)) (fun i σ Hx => ∃ (ys : List V) (x4 x5 x6 : Option V), σ = [some (.ref c), some (.ref l), some (.ref d), some (.ref f), x4, x5, x6, none] ∧ Same H Hx ∧ Hx f = some (.lst ys) ∧ Paired (isLv R (fun a => H a = none ∧ a ≠ f) Hx) ys (((nxR R g).take i).map fun j => g ++ [j])) ?_ ?_ ?_ ?_⟩
    · exact ⟨[], _, _, _, rfl, Same.new nf, upd_same, .nil⟩
    · rintro i σ Hx _ ⟨ys, x4, x5, x6, rfl, s1, _, _⟩
      exact SqL.of (s1 _ _ hl)
    · rintro i x σ Hw Hx hi ⟨ys, x4, x5, x6, rfl, s1, hf, py⟩ ⟨t, x1, x2, rfl, nt, rfl, e1, e2⟩
      cases e1
      have li' : i < (nxR R g).length := by rw [← lx]; exact hi
      have ex : x2 = .str (nmR R (nxR R g)[i]) := by
        replace e2 : ((tN R (nxR R g)).map V.str)[i]? = some x2 := e2
        unfold tN at e2
        rw [List.map_map, List.getElem?_map, List.getElem?_eq_getElem li'] at e2
        exact (Option.some.inj e2).symm
      subst ex
      have hk? := List.getElem?_eq_getElem li'
      have kn := nxt_lt (List.getElem_mem li')
      have tk := take_snoc li'
      generalize (nxR R g)[i] = k at hk? kn nt tk
      have hRk := List.getElem?_eq_getElem kn
      have enm := nmR_at hRk
      obtain ⟨kvs, hkv, hnb⟩ := hd
      obtain ⟨z, vz, hz⟩ := hnb _ (List.getElem_mem kn)
      rw [← enm] at vz
      have st := Same.new (o := .tup [.int ((i : Nat) : Int), .str (nmR R k)]) nt
      have ht : upd Hw t (.tup [.int ((i : Nat) : Int), .str (nmR R k)]) t = some (.tup [.int ((i : Nat) : Int), .str (nmR R k)]) := upd_same
      generalize upd Hw t (.tup [.int ((i : Nat) : Int), .str (nmR R k)]) = H1 at st ht
      refine ⟨t, _, rfl, .inl (.inl ht), rfl, _, _, rfl, _, _, rfl, rfl, ?_⟩
      have s2 := s1.trans st
      repeat (first | refine ⟨_, rfl, ?_⟩ | refine ⟨_, _, rfl, rfl, ?_⟩ | refine ⟨_, _, rfl, ?_⟩ | refine ⟨rfl, ?_⟩)
      refine ⟨l, _, rfl, SqL.of (s2 _ _ hl), fun p np => ?_⟩
      have ec : cutV ((tN R (nxR R g)).map V.str) (some ((i : Int) + 1)) none = (tN R ((nxR R g).drop (i + 1))).map V.str := by
        rw [cutV1]; unfold tN; rw [List.map_drop, List.map_drop]
      have sp := Same.new (o := .lst (cutV ((tN R (nxR R g)).map V.str) (some ((i : Int) + 1)) none)) np
      have hp : upd H1 p (.lst (cutV ((tN R (nxR R g)).map V.str) (some ((i : Int) + 1)) none)) p = some (.lst ((tN R ((nxR R g).drop (i + 1))).map V.str)) := by rw [upd_same, ec]
      have s3 := s2.trans sp
      have s3' := st.trans sp
      show ∃ a, _ ∧ _ ∧ _
      generalize upd H1 p (.lst (cutV ((tN R (nxR R g)).map V.str) (some ((i : Int) + 1)) none)) = H2 at sp hp s3 s3'
      have hdr := drop_filter (nxt_sorted g) hk?
      have rst : ∀ m ∈ (nxR R g).drop (i + 1), m < R.length ∧ k ≠ m := fun m hm => by
        refine ⟨nxt_lt (List.mem_of_mem_drop hm), ?_⟩
        rw [hdr] at hm
        have := (List.mem_filter.mp hm).2
        simp at this
        omega
      have esn := nxt_snoc hk?
      generalize hrest : (nxR R g).drop (i + 1) = rest at hp rst esn
      have lrest : rest.length ≤ 8 := by rw [← hrest, List.length_drop]; omega
      have lrx : ((tN R rest).map V.str).length = rest.length := by unfold tN; rw [List.length_map, List.length_map]
      refine ⟨p, rfl, ⟨_, SqL.of hp⟩, fun A nA => ?_⟩
      refine lc_it (walk_list (K := K) (a := p) (xs := (tN R rest).map V.str)) (fun q H' => H' A = some (.lst ((tN R ((rest.take q).filter fun x => !adR R k x)).map V.str)) ∧ Same H2 H') ⟨upd_same, Same.new nA⟩ (fun q H' _ h => SqL.of (h.2 _ _ hp)) ?_ ?_
      · rintro j x Hu Hz hj ⟨h1, sz⟩ ⟨rfl, hx⟩
        have lj : j < rest.length := by rw [← lrx]; exact hj
        have ex : x = .str (nmR R rest[j]) := by
          unfold tN at hx
          rw [List.map_map, List.getElem?_map, List.getElem?_eq_getElem lj] at hx
          exact (Option.some.inj hx).symm
        subst ex
        obtain ⟨mn, km⟩ := rst _ (List.getElem_mem lj)
        have tkj := take_snoc lj
        generalize rest[j] = m at mn km tkj
        refine ⟨rfl, ?_⟩
        repeat (first | refine ⟨_, rfl, ?_⟩ | refine ⟨_, _, rfl, rfl, ?_⟩ | refine ⟨_, _, rfl, ?_⟩ | refine ⟨rfl, ?_⟩)
        have dg : DGet Hz d (.str (nmR R k)) (some (.ref z)) := by rw [← vz]; exact DGet.k (k := Sum.inr (nmR R k)) (sz _ _ (s3 _ _ hkv))
        refine ⟨d, _, rfl, dg, ?_⟩
        refine ⟨z, _, rfl, .inl (SqL.of (sz _ _ (s3 _ _ hz))), rfl, flat_str _, _, rfl, ?_⟩
        rw [inV_str, nmR_at (List.getElem?_eq_getElem mn), nb_ad nd hRk (List.getElem?_eq_getElem mn) km]
        have lf : ((rest.take j).filter fun x => !adR R k x).length ≤ 8 := Nat.le_trans (List.length_filter_le _ _) (by rw [List.length_take]; omega)
        by_cases hm : adR R k m = true
        · rw [hm]
          refine iteF ⟨?_, sz⟩
          rw [tkj, List.filter_append, List.filter_cons, if_neg (by simp [hm]), List.filter_nil, List.append_nil]
          exact h1
        · rw [Bool.eq_false_iff.mpr hm]
          refine iteT ?_
          repeat (first | refine ⟨_, rfl, ?_⟩ | refine ⟨_, _, rfl, rfl, ?_⟩ | refine ⟨_, _, rfl, ?_⟩ | refine ⟨rfl, ?_⟩)
          refine ⟨_, h1, by unfold tN; rw [List.length_map, List.length_map, sizeLine_eq]; omega, ?_, Same.upd_p sz nA⟩
          rw [upd_same, tkj, List.filter_append, List.filter_cons, if_pos (by simp [hm])]
          unfold tN
          rw [List.map_append, List.map_append, List.filter_nil, List.map_cons, List.map_nil, List.map_cons, List.map_nil, nmR_at (List.getElem?_eq_getElem mn)]
      rintro H3 ⟨hA, s23⟩
      rw [lrx, List.take_length, ← esn] at hA
      repeat (first | refine ⟨_, rfl, ?_⟩ | refine ⟨_, _, rfl, rfl, ?_⟩ | refine ⟨_, _, rfl, ?_⟩ | refine ⟨rfl, ?_⟩)
      have s4 := s3.trans s23
      have s4' := s3'.trans s23
      have hf4 := s4' _ _ hf
      refine ⟨.inl ⟨rfl, _, SqL.of hf4⟩, ?_⟩
      repeat (first | refine ⟨_, rfl, ?_⟩ | refine ⟨_, _, rfl, rfl, ?_⟩ | refine ⟨_, _, rfl, ?_⟩ | refine ⟨rfl, ?_⟩)
      refine ⟨lenk 1 rfl (by decide), fun u nu => ?_⟩
      have su := Same.new (o := .tup [.str (nmR R k)]) nu
      refine catA_pre (su _ _ (s4 _ _ hc)) upd_same (by unfold tN; rw [List.length_map, List.length_map, sizeLine_eq]; omega) fun p4 H5 s5 np4 hp4 => ?_
      repeat (first | refine ⟨_, rfl, ?_⟩ | refine ⟨_, _, rfl, rfl, ?_⟩ | refine ⟨_, _, rfl, ?_⟩ | refine ⟨rfl, ?_⟩)
      have s35 := su.trans s5
      refine ⟨lenk 2 rfl (by decide), fun t2 nt2 => ?_⟩
      have s6 := Same.new (o := .tup [.ref p4, .ref A]) nt2
      have ht2 : upd H5 t2 (.tup [.ref p4, .ref A]) t2 = some (.tup [.ref p4, .ref A]) := upd_same
      generalize upd H5 t2 (.tup [.ref p4, .ref A]) = H6 at s6 ht2
      have s46 := s4'.trans (s35.trans s6)
      have hf6 := s46 _ _ hf
      have lyy := py.length
      rw [List.length_map, List.length_take] at lyy
      refine ⟨f, _, _, rfl, rfl, hf6, by rw [sizeLine_eq]; omega, ?_⟩
      refine ⟨ys ++ [.ref t2], _, _, _, rfl, Same.upd_p (s1.trans s46) nf, upd_same, ?_⟩
      rw [tk, List.map_append]
      have kp : ∀ {a : Addr} {o : HO}, H6 a = some o → a ≠ f → upd H6 f (.lst (ys ++ [.ref t2])) a = some o := fun e n => by rw [upd_ne n]; exact e
      have nef : ∀ {a : Addr} {o : HO}, H6 a = some o → o ≠ .lst ys → a ≠ f := fun e n => ne_of e hf6 n
      have lvp : ∀ (x : V) (g : List Nat), isLv R (fun a => H a = none ∧ a ≠ f) Hw x g → isLv R (fun a => H a = none ∧ a ≠ f) (upd H6 f (.lst (ys ++ [.ref t2]))) x g := fun x g z => by
        obtain ⟨t, c, l, e, n, h1, h2, h3⟩ := z.same s46
        exact ⟨t, c, l, e, n, kp h1 (nef h1 (by simp)), kp h2 (nef h2 (by simp)), kp h3 n.2⟩
      have nAf : A ≠ f := (ne_of_none (s3' _ _ hf) nA).symm
      refine Paired.snoc (Paired.mono (fun _ _ z => lvp _ _ z) py) ⟨t2, p4, A, rfl, ⟨Same.none s3 nA, nAf⟩, kp ht2 (nef ht2 (by simp)), kp (s6 _ _ hp4 |>.trans (by rw [tN_snoc, List.map_append]; rfl)) (nef (s6 _ _ hp4) (by simp)), ?_⟩
      exact kp (s6 _ _ (s35 _ _ hA)) nAf
    · rintro σ Hx ⟨ys, x4, x5, x6, rfl, s1, hf, py⟩
      rw [lx, List.take_length] at py
      exact ⟨_, rfl, q f ys Hx s1 nf hf (Paired.mono (fun _ _ z => z.wk fun a ha => ha.1) py)⟩

end K38
namespace K38
open PySem PySem.Spec PyProof.Rows L2 TL
def dLv (R : List Row) (g : List Nat) : PyData := .tuple [.tuple ((tN R g).map PyData.str), .list ((tN R (nxR R g)).map PyData.str)]
theorem dp_lv {K : PySem.W.Frag} {R : List Row} {N : Addr → Prop} {H : Hp} {x : V} {g : List Nat} (h : isLv R N H x g) : Dp K H x (dLv R g) := by
  obtain ⟨t, c, l, rfl, n, h1, h2, h3⟩ := h
  exact .tup (.inl (.inl h1)) (.cons (.tup (.inl (.inl h2)) (dp_strs _)) (.cons (.lst (SqL.of h3) (dp_strs _)) .nil))
theorem nmR_ok {R : List Row} (ok : ∀ r ∈ R, NameOk r.1) {j : Nat} (h : j < R.length) : NameOk (nmR R j) := by
  rw [nmR_at (List.getElem?_eq_getElem h)]; exact ok _ (List.getElem_mem h)
theorem shd_lv {R : List Row} (ok : ∀ r ∈ R, NameOk r.1) {g : List Nat} (h : ∀ j ∈ g, j < R.length) : Shd 2 (dLv R g) := by
  have k : ∀ {l : List Nat}, (∀ j ∈ l, j < R.length) → ∀ d ∈ (tN R l).map PyData.str, Shd 0 d := fun h d hd => by
    obtain ⟨s, hs, rfl⟩ := List.mem_map.mp hd
    obtain ⟨j, hj, rfl⟩ := List.mem_map.mp hs
    exact Shd.str (nmR_ok ok (h j hj))
  exact Shd.tuple (allC (Shd.tuple (k h)) (all1 (Shd.list (k fun j hj => nxt_lt hj))))
def sp_itup (K : PySem.W.Frag) : Sp := fun vs H Q _ => ∃ (a d : Addr) (R : List Row), vs = [.ref a, .ref d] ∧ R.length ≤ 8 ∧ (R.map (·.1)).Nodup ∧ (∀ r ∈ R, NameOk r.1) ∧ H a = some (.lst ((R.map (·.1)).map V.str)) ∧ NbD H R d ∧
  ∀ l gs m H', Same H H' → H l = none → H' l = some (.lst gs) → Paired (isC R H') gs (pre (adR R) R.length m) → lvl (adR R) R.length m = [] → Q (.ref l) H'
theorem ok_independent_tuples {P : Program} {w : World} {K : PySem.W.Frag} {mg : Str → Option Value} {base : Heap} (T : Txt P K mg) : FnOk P w K mg base CX0 2 T.f_independent_tuples T.fd_independent_tuples ["names", "neighbors"] (sp_itup K) := by
  refine T.F_independent_tuples.ok sc_independent_tuples (fun vs H Q E h => ?_) (fun cdv A outer s H vs Q E hr h => ?_)
  · obtain ⟨_, _, _, rfl, _⟩ := h; rfl
  · obtain ⟨a, d, R, rfl, r8, nd, ok, ha, hd, q⟩ := h
    refine ⟨_, PSs.nox (pss_cons (ps_set (i := 2) sc_independent_tuples.nd rfl (Or.inl rfl) (pe_lst pa_nil))
      (pss_cons (ps_set (i := 3) sc_independent_tuples.nd rfl (Or.inl rfl) (pe_lst (pa_cons (pe_tup (pa_cons (pe_tup pa_nil) (pa_cons (pv 0) pa_nil))) pa_nil)))
      (pss_cons (ps_while PassesOwn.never (pt_cmpR (show OpR _ (compareOp .NotEq) (rNeD K) from op_neD hr.units) (pv 3) (pe_lst pa_nil) (nomark _)) (pss_cons (ps_expr (pe_bm PySem.F.plainAttrs_list PySem.F.slot_list_extend PySem.F.type_list_extend mt_extend (pv 2) (pa_cons (pe_lc (own := [("chosen", 4), ("_", 7)]) (g := gTup K 2 (gCons (gName 4) (gCons (gName 7) gNil))) rfl sc_independent_tuples.nd (pi_list (pv 3)) (blkOk_by (own := [("chosen", 4), ("_", 7)]) (N := N_independent_tuples) (sc := defScope s_independent_tuples) (by decide +kernel)) (fun _ _ _ _ _ => (pg_tup rfl (pgs_cons (pg_name (i := 4) sc_independent_tuples.nd rfl (Or.inl rfl)) (pgs_cons (pg_name (i := 7) sc_independent_tuples.nd rfl (Or.inl rfl)) pgs_nil)))) (fun _ _ _ _ _ => pts_nil) (fun _ _ _ _ _ => (pv 4))) pa_nil)))
      (pss_one (ps_setLc2 (i := 3) (own := [("chosen", 4), ("rest", 5), ("longer", 6)]) (vs1 := [6]) (g := gTup K 2 (gCons (gName 4) (gCons (gName 5) gNil))) (g1 := gName 6) rfl sc_independent_tuples.nd rfl rfl (sw_true rfl rfl rfl (by decide +kernel)) (pi_list (pv 3)) (blkOk_by (own := [("chosen", 4), ("rest", 5), ("longer", 6)]) (N := N_independent_tuples) (sc := defScope s_independent_tuples) (by decide +kernel)) (by decide) (fun _ _ _ _ _ => (pg_tup rfl (pgs_cons (pg_name (i := 4) sc_independent_tuples.nd rfl (Or.inl rfl)) (pgs_cons (pg_name (i := 5) sc_independent_tuples.nd rfl (Or.inl rfl)) pgs_nil)))) (fun _ _ _ _ _ => pts_nil) (fun _ _ _ _ _ => (show PI _ _ _ (iList K _) from (pi_list (pe_call (ok__with_one_more T) (hr.mono (by decide)) (by rfl) T.g__with_one_more T.F__with_one_more.kp (b__with_one_more T) .nil pass0 (pa_cons (pv 4) (pa_cons (pv 5) (pa_cons (pv 1) pa_nil))))))) (fun _ _ _ _ _ => (pg_name (i := 6) sc_independent_tuples.nd rfl (Or.inl rfl))) (fun _ _ _ _ _ => pts_nil) (fun _ _ _ _ _ => (pv 6))))))
      (pss_one (ps_ret (pv 2)))))), ?_⟩
    refine ⟨Nat.zero_le _, fun f nf => ?_⟩
    have s1 := Same.new (o := .lst []) nf
    have hf : upd H f (.lst []) f = some (.lst []) := upd_same
    generalize upd H f (.lst []) = H1 at s1 hf
    refine ⟨Nat.zero_le _, fun e ne => ?_⟩
    have s2 := Same.new (o := .tup []) ne
    have he : upd H1 e (.tup []) e = some (.tup []) := upd_same
    generalize upd H1 e (.tup []) = H2 at s2 he
    repeat (first | refine ⟨_, rfl, ?_⟩ | refine ⟨_, _, rfl, rfl, ?_⟩ | refine ⟨_, _, rfl, ?_⟩ | refine ⟨rfl, ?_⟩)
    refine ⟨lenk 2 rfl (by decide), fun t nt => ?_⟩
    have s3 := Same.new (o := .tup [.ref e, .ref a]) nt
    have ht : upd H2 t (.tup [.ref e, .ref a]) t = some (.tup [.ref e, .ref a]) := upd_same
    generalize upd H2 t (.tup [.ref e, .ref a]) = H3 at s3 ht
    refine ⟨lenk 1 rfl (by decide), fun lo nlo => ?_⟩
    have s4 := Same.new (o := .lst [.ref t]) nlo
    have hlo : upd H3 lo (.lst [.ref t]) lo = some (.lst [.ref t]) := upd_same
    generalize upd H3 lo (.lst [.ref t]) = H4 at s4 hlo
    have s14 := (s2.trans s3).trans s4
    have S4 := s1.trans s14
    have naf : a ≠ f := ne_of_none ha nf
    have nlf : lo ≠ f := (ne_of_none ((s2.trans s3) _ _ hf) nlo).symm
    have lv0 : isLv R (fun a => a ≠ f) H4 (.ref t) [] := ⟨t, e, a, rfl, naf, s4 _ _ ht, (s3.trans s4) _ _ he, by
      have e0 : nxR R [] = List.range R.length := List.filter_eq_self.mpr fun _ _ => rfl
      rw [e0, tN_all]; exact S4 _ _ ha⟩
    refine ⟨fun m σ H' => ∃ (k : Nat) (lo : Addr) (fx lx : List V), σ = [some (.ref a), some (.ref d), some (.ref f), some (.ref lo), none, none, none, none] ∧ Same H H' ∧ H' f = some (.lst fx) ∧ Paired (isC R H') fx (pre (adR R) R.length k) ∧ lo ≠ f ∧ H' lo = some (.lst lx) ∧ Paired (isLv R (fun a => a ≠ f) H') lx (lvl (adR R) R.length k) ∧ m = wgt (adR R) R.length (lvl (adR R) R.length k), ⟨_, 0, lo, [], _, rfl, S4, s14 _ _ hf, .nil, nlf, hlo, .cons lv0 .nil, rfl⟩, ?_⟩
    clear s2 he s3 ht s4 hlo s14 S4 nlf lv0 ne nt nlo s1 hf
    rintro m σ H' ⟨k, lo, fx, lx, rfl, s', hf, pf, nlf, hlo, pl, rfl⟩
    repeat (first | refine ⟨_, rfl, ?_⟩ | refine ⟨_, _, rfl, rfl, ?_⟩ | refine ⟨_, _, rfl, ?_⟩ | refine ⟨rfl, ?_⟩)
    refine ⟨Nat.zero_le _, fun e0 ne0 => ?_⟩
    have se := Same.new (o := .lst []) ne0
    have lw := wgt_next (ad := adR R) (n := R.length) (lvl (adR R) R.length k)
    have b1 := wgt_256 r8 k
    have b2 := wgt_256 r8 (k + 1)
    refine ⟨.list ((lvl (adR R) R.length k).map (dLv R)), .list [], .lst (SqL.of (se _ _ hlo)) (dp_all (fun _ _ z => dp_lv (z.same se)) pl), .lst (SqL.of upd_same) .nil, (Shd.list (k := 2) fun d hd => by
      obtain ⟨g, hg, rfl⟩ := List.mem_map.mp hd
      exact shd_lv ok (lvl_mem hg).2.1).shaped (by decide), (Shd.list (k := 0) all0).shaped (by decide), ?_⟩
    rw [eqv_nilL]
    have hf0 := se _ _ hf
    have hlo0 := se _ _ hlo
    have pf0 := Paired.mono (fun _ _ z => isC.same z se) pf
    have pl0 := Paired.mono (fun _ _ z => isLv.same z se) pl
    have s0 := s'.trans se
    generalize upd H' e0 (.lst []) = H0 at hf0 hlo0 pf0 pl0 s0
    clear s' hf pf hlo pl se ne0
    repeat (first | refine ⟨_, rfl, ?_⟩ | refine ⟨_, _, rfl, rfl, ?_⟩ | refine ⟨_, _, rfl, ?_⟩ | refine ⟨rfl, ?_⟩)
    refine ite2 (fun c => ?_) (fun c => ?_)
    · have ne : lvl (adR R) R.length k ≠ [] := by simpa using c
      have lpos := List.length_pos_iff.mpr ne
      refine ⟨fun σ' H' => ∃ (lo : Addr) (fx lx : List V), σ' = [some (.ref a), some (.ref d), some (.ref f), some (.ref lo), none, none, none, none] ∧ Same H H' ∧ H' f = some (.lst fx) ∧ Paired (isC R H') fx (pre (adR R) R.length (k + 1)) ∧ lo ≠ f ∧ H' lo = some (.lst lx) ∧ Paired (isLv R (fun a => a ≠ f) H') lx (lvl (adR R) R.length (k + 1)), ?_, ?_⟩
      · rintro σ' H'' ⟨lo, fx, lx, rfl, a1, a2, a3, a4, a5, a6⟩
        refine ⟨_, ?_, k + 1, lo, fx, lx, rfl, a1, a2, a3, a4, a5, a6, rfl⟩
        rw [lvl]; omega
      repeat (first | refine ⟨_, rfl, ?_⟩ | refine ⟨_, _, rfl, rfl, ?_⟩ | refine ⟨_, _, rfl, ?_⟩ | refine ⟨rfl, ?_⟩)
      refine ⟨.inl ⟨rfl, _, SqL.of hf0⟩, ?_⟩
      repeat (first | refine ⟨_, rfl, ?_⟩ | refine ⟨_, _, rfl, rfl, ?_⟩ | refine ⟨_, _, rfl, ?_⟩ | refine ⟨rfl, ?_⟩)
      refine ⟨⟨_, SqL.of hlo0⟩, fun D nD => ?_⟩
      refine lc_it (walk_list (K := K) (a := lo) (xs := lx)) (fun i Hx => ∃ cx, Hx D = some (.lst cx) ∧ Paired (isC R Hx) cx ((lvl (adR R) R.length k).take i) ∧ Same H0 Hx) ⟨[], upd_same, .nil, Same.new nD⟩ (fun i H' _ ⟨_, _, _, h⟩ => SqL.of (h _ _ hlo0)) ?_ ?_
      · rintro i x Hw Hx hi ⟨cx, hD, pc, sx⟩ ⟨rfl, hx⟩
        obtain ⟨g, hg, t, c, l, rfl, nl, h1, h2, h3⟩ := pd_get pl0 hx
        obtain ⟨lg, eg⟩ := List.getElem?_eq_some_iff.mp hg
        refine ⟨t, _, rfl, .inl (.inl (sx _ _ h1)), rfl, _, _, rfl, _, _, rfl, rfl, rfl, ?_⟩
        repeat (first | refine ⟨_, rfl, ?_⟩ | refine ⟨_, _, rfl, rfl, ?_⟩ | refine ⟨_, _, rfl, ?_⟩ | refine ⟨rfl, ?_⟩)
        have lcx := pc.length
        rw [List.length_take] at lcx
        have mv : Mv (fun a => a = D) Hx (upd Hx D (.lst (cx ++ [.ref c]))) := fun a o na e => by rw [upd_ne na]; exact e
        refine ⟨cx, hD, by rw [sizeLine_eq]; omega, cx ++ [.ref c], upd_same, ?_, Same.upd_p sx nD⟩
        rw [take_snoc lg, eg]
        exact Paired.snoc (Paired.mono (fun _ _ z => isC.mv z mv hD) pc) (isC.mv ⟨c, rfl, sx _ _ h2⟩ mv hD)
      rintro H1 ⟨cx, hD, pc, s1⟩
      rw [pl0.length, List.take_length] at pc
      have lcx := pc.length
      have lfx := pf0.length
      refine ⟨f, D, fx, cx, rfl, rfl, s1 _ _ hf0, hD, by rw [sizeLine_eq]; omega, ?_⟩
      have mvf : Mv (fun a => a = f) H1 (upd H1 f (.lst (fx ++ cx))) := fun a o na e => by rw [upd_ne na]; exact e
      have hf2 : upd H1 f (.lst (fx ++ cx)) f = some (.lst (fx ++ cx)) := upd_same
      have hf1 := s1 _ _ hf0
      have pf2 := pd_app (Paired.mono (fun _ _ z => isC.mv (isC.same z s1) mvf hf1) pf0) (Paired.mono (fun _ _ z => isC.mv z mvf hf1) pc)
      rw [← pre_succ] at pf2
      have pl2 := Paired.mono (fun _ _ z => isLv.mv (isLv.same z s1) mvf hf1 (fun a h => h)) pl0
      have hlo2 := mvf _ _ nlf (s1 _ _ hlo0)
      have s2 : Same H (upd H1 f (.lst (fx ++ cx))) := Same.upd_p (s0.trans s1) nf
      generalize upd H1 f (.lst (fx ++ cx)) = H2 at hf2 pf2 pl2 hlo2 s2
      clear mvf hf1 s1 hD pc pf0 pl0 hlo0 hf0 s0
      repeat (first | refine ⟨_, rfl, ?_⟩ | refine ⟨_, _, rfl, rfl, ?_⟩ | refine ⟨_, _, rfl, ?_⟩ | refine ⟨rfl, ?_⟩)
      refine ⟨⟨_, SqL.of hlo2⟩, fun D nD => ?_⟩
      refine lc2_it (walk_list (K := K) (a := lo) (xs := lx)) (fun i Hx => ∃ gx, Hx D = some (.lst gx) ∧ Paired (isLv R (fun a => a ≠ f ∧ a ≠ D) Hx) gx (((lvl (adR R) R.length k).take i).flatMap (grow R)) ∧ Same H2 Hx) ⟨[], upd_same, .nil, Same.new nD⟩ (fun i H' _ ⟨_, _, _, h⟩ => SqL.of (h _ _ hlo2)) ?_ ?_
      · rintro i x Hw Hx hi ⟨gx, hD, pg, sx⟩ ⟨rfl, hx⟩
        obtain ⟨g, hg, t, c, l, rfl, nl, h1, h2, h3⟩ := pd_get pl2 hx
        obtain ⟨lg, eg⟩ := List.getElem?_eq_some_iff.mp hg
        obtain ⟨g1, g2, g3⟩ := lvl_mem (List.mem_of_getElem? hg)
        have gl := sorted_len g2 g3
        refine ⟨t, _, rfl, .inl (.inl (sx _ _ h1)), rfl, _, _, rfl, _, _, rfl, rfl, rfl, ?_⟩
        repeat (first | refine ⟨_, rfl, ?_⟩ | refine ⟨_, _, rfl, rfl, ?_⟩ | refine ⟨_, _, rfl, ?_⟩ | refine ⟨rfl, ?_⟩)
        refine ⟨c, l, d, R, g, rfl, r8, nd, by omega, sx _ _ h2, sx _ _ h3, hd.same (s2.trans sx), fun p ys H7 s7 np hp py => ⟨p, rfl, ⟨_, SqL.of hp⟩, ?_⟩⟩
        have hD7 := s7 _ _ hD
        have lgx := pg.length
        have lys := py.length
        have npD : p ≠ D := (ne_of_none hD np).symm
        have w2 : (((lvl (adR R) R.length k).take i).flatMap (grow R)).length + (grow R g).length ≤ (lvl (adR R) R.length (k + 1)).length := by
          have e1 := lvl_take R k lg
          rw [eg] at e1
          have : lvl (adR R) R.length (k + 1) = ((lvl (adR R) R.length k).take (i + 1)).flatMap (grow R) ++ ((lvl (adR R) R.length k).drop (i + 1)).flatMap (grow R) := by
            rw [← List.flatMap_append, List.take_append_drop]; rfl
          rw [this, e1, List.length_append, List.length_append]; omega
        refine lc_in (walk_list (K := K) (a := p) (xs := ys)) (fun j Hy => Hy D = some (.lst (gx ++ ys.take j)) ∧ Mv (fun a => a = D) H7 Hy) ⟨by rw [List.take_zero, List.append_nil]; exact hD7, fun a o _ e => e⟩ (fun j Hy _ h => SqL.of (h.2 _ _ npD hp)) ?_ ?_
        · rintro j x Hv Hy hj ⟨k1, k2⟩ ⟨rfl, hx⟩
          obtain ⟨lj, ex⟩ := List.getElem?_eq_some_iff.mp hx
          refine ⟨rfl, ?_⟩
          repeat (first | refine ⟨_, rfl, ?_⟩ | refine ⟨_, _, rfl, rfl, ?_⟩ | refine ⟨_, _, rfl, ?_⟩ | refine ⟨rfl, ?_⟩)
          refine ⟨_, k1, by rw [List.length_append, List.length_take, sizeLine_eq]; omega, ?_, fun a o na e => by rw [upd_ne na]; exact k2 a o na e⟩
          rw [upd_same, take_snoc lj, ex, List.append_assoc]
        · rintro Hy ⟨k1, k2⟩
          rw [List.take_length] at k1
          refine ⟨gx ++ ys, k1, ?_, fun a o e => ?_⟩
          · rw [lvl_take R k lg, eg]
            refine pd_app (Paired.mono (fun _ _ z => isLv.mv (z.same s7) k2 hD7 fun a h => h.2) pg) (Paired.mono (fun _ _ z => isLv.mv (isLv.wk z fun a h => ⟨(ne_of_none (sx _ _ hf2) h).symm, (ne_of_none hD h).symm⟩) k2 hD7 fun a h => h.2) py)
          · exact k2 _ _ (ne_of_none e nD) (s7 _ _ (sx _ _ e))
      · rintro Hx ⟨gx, hD, pg, sx⟩
        rw [pl2.length, List.take_length] at pg
        exact ⟨D, fx ++ cx, gx, rfl, s2.trans sx, sx _ _ hf2, Paired.mono (fun _ _ z => isC.same z sx) pf2, (ne_of_none hf2 nD).symm, hD, Paired.mono (fun _ _ z => isLv.wk z fun a h => h.1) pg⟩
    · have e : lvl (adR R) R.length k = [] := by simpa using c
      exact ⟨_, rfl, q f fx k H0 s0 nf hf0 pf0 e⟩

end K38
namespace K38
open PySem PySem.Spec PyProof.Rows L2 TL
/-! ### the program's groups of a problem, the numbers of its pieces -/
theorem keys_eq {F : Str × Addr → Row → Prop} (h : ∀ z r, F z r → z.1 = r.1) : ∀ {N : List (Str × Addr)} {R : List Row}, Paired F N R → N.map (·.1) = R.map (·.1)
  | _, _, .nil => rfl
  | _, _, .cons r t => by rw [List.map_cons, List.map_cons, h _ _ r, keys_eq h t]
def sp_iset (K : PySem.W.Frag) (C CI : Addr) : Sp := fun vs H Q E => (∃ v : V, vs = [v] ∧ NotP K C H v ∧ raisesP CI E v H) ∨ ∃ (p : Addr) (F G : Addr → Prop) (L : List (Str × Int)) (R : List Row), vs = [.ref p] ∧ IsP C H F G p L R ∧ EvsOk L R ∧
  ∀ l gs m H', Same H H' → H l = none → H' l = some (.lst gs) → Paired (isC R H') gs (pre (adR R) R.length m) → lvl (adR R) R.length m = [] → Q (.ref l) H'
theorem ok_independent_sets {P : Program} {w : World} {K : PySem.W.Frag} {mg : Str → Option Value} {base : Heap} (T : Txt P K mg) : FnOk P w K mg base (L2.CX P w) 4 T.f_independent_sets T.fd_independent_sets ["problem"] (sp_iset K T.C_Problem T.C_InvalidProblem) := by
  refine T.F_independent_sets.ok sc_independent_sets (fun vs H Q E h => ?_) (fun cdv A outer s H vs Q E hr h => ?_)
  · rcases h with ⟨_, rfl, _⟩ | ⟨_, _, _, _, _, rfl, _⟩ <;> rfl
  · refine ⟨_, (pss_cons (ps_expr (pe_callS (ok_check_problem T) (hr.mono (by decide)) (by rfl) T.g_check_problem T.F_check_problem.kp (b_check_problem T) (passAt (takes_of rfl rfl rfl rfl)) (pa_cons (pv 0) pa_nil)))
      (pss_one (ps_ret (pe_call (ok_independent_tuples T) (hr.mono (by decide)) (by rfl) T.g_independent_tuples T.F_independent_tuples.kp (b_independent_tuples T) .nil pass0 (pa_cons (pe_meth0 (pl := _) (pv 0) T.cl_Problem T.m_Problem_events (ok_Problem_events T) (hr.mono (by decide)) (b_Problem_events T) .nil pass0) (pa_cons (pe_dc (own := [("event", 1)]) (g := gName 1) rfl sc_independent_sets.nd (pi_list (pe_meth0 (pl := _) (pv 0) T.cl_Problem T.m_Problem_events (ok_Problem_events T) (hr.mono (by decide)) (b_Problem_events T) .nil pass0)) (blkOk_by (own := [("event", 1)]) (N := N_independent_sets) (sc := defScope s_independent_sets) (by decide +kernel)) (fun _ _ _ _ _ => (pg_name (i := 1) sc_independent_sets.nd rfl (Or.inl rfl))) (fun _ _ _ _ _ => pts_nil) (fun _ _ _ _ _ => (pv 1)) (fun _ _ _ _ _ => (pe_meth (pl := _) (pv 0) T.cl_Problem T.m_Problem_neighbors (ok_Problem_neighbors T) (hr.mono (by decide)) (b_Problem_neighbors T) .nil pass0 (pa_cons (pv 1) pa_nil)))) pa_nil)))))), ?_⟩
    rcases h with ⟨v, rfl, nv, q⟩ | ⟨p, F, G, L, R, rfl, hP, okR, q⟩
    · exact ⟨_, rfl, v, rfl, .inr ⟨nv, fun e ne => q e ne⟩⟩
    have hP' := hP
    obtain ⟨dx, av, ds, dp, ae, dsc, dbt, dn, E1, xs, es, hp, _⟩ := hP'
    have r8 := okR.few
    refine ⟨_, rfl, .ref p, rfl, .inl ⟨p, F, G, L, R, rfl, hP, ?_⟩⟩
    refine ⟨_, rfl, p, dx, _, rfl, hp, pfl_no _ _ _ _ _ _ _ (by decide +kernel), p, F, G, L, R, rfl, hP, fun l1 nl1 => ?_⟩
    have s1 := Same.new (o := .lst ((R.map (·.1)).map V.str)) nl1
    have h1 : upd H l1 (.lst ((R.map (·.1)).map V.str)) l1 = some (.lst ((R.map (·.1)).map V.str)) := upd_same
    generalize upd H l1 (.lst ((R.map (·.1)).map V.str)) = H1 at s1 h1
    refine ⟨_, rfl, p, dx, _, rfl, s1 _ _ hp, pfl_no _ _ _ _ _ _ _ (by decide +kernel), p, F, G, L, R, rfl, hP.same s1, fun l2 nl2 => ?_⟩
    have s2 := Same.new (o := .lst ((R.map (·.1)).map V.str)) nl2
    have h2 : upd H1 l2 (.lst ((R.map (·.1)).map V.str)) l2 = some (.lst ((R.map (·.1)).map V.str)) := upd_same
    generalize upd H1 l2 (.lst ((R.map (·.1)).map V.str)) = H2 at s2 h2
    have s12 := s1.trans s2
    refine ⟨l2, rfl, ⟨_, SqL.of h2⟩, fun dd ndd => ?_⟩
    refine dc_it (walk_list (K := K) (a := l2) (xs := (R.map (·.1)).map V.str)) (fun i H' => ∃ N : List (Str × Addr), H' dd = some (.dK (kvN N)) ∧ Paired (isNb H' (fun _ => True) R) N (R.take i) ∧ Same H2 H') ⟨[], upd_same, .nil, Same.new ndd⟩ (fun i H' _ ⟨_, _, _, h⟩ => SqL.of (h _ _ h2)) ?_ ?_
    · rintro i x Hw Hx hi ⟨N, hd, hN, sx⟩ ⟨rfl, hx⟩
      have li : i < R.length := by rw [List.length_map, List.length_map] at hi; exact hi
      have ex : x = .str R[i].1 := by
        rw [List.map_map, List.getElem?_map, List.getElem?_eq_getElem li] at hx
        exact (Option.some.inj hx).symm
      subst ex
      have S := s12.trans sx
      refine ⟨rfl, _, rfl, _, rfl, p, dx, _, rfl, S _ _ hp, pfl_no _ _ _ _ _ _ _ (by decide +kernel), _, rfl, p, F, G, L, R, R[i], rfl, hP.same S, okR.nd, List.getElem_mem li, fun z nz => ?_⟩
      have sz := Same.new (o := .lst ((nbs R R[i]).map V.str)) nz
      have hz : upd Hx z (.lst ((nbs R R[i]).map V.str)) z = some (.lst ((nbs R R[i]).map V.str)) := upd_same
      generalize upd Hx z (.lst ((nbs R R[i]).map V.str)) = Hz at sz hz
      have lN := hN.length
      have kN := keys_eq (fun _ _ z => z.1) hN
      have hn := val_none (l := N) (f := fun q => q.1) (g := fun q => V.ref q.2) (x := R[i].1) (by
        rw [kN, List.map_take]
        have h := not_mem_take okR.nd (i := i) (by rw [List.length_map]; exact li)
        rw [List.getElem_map] at h
        exact h)
      refine ⟨kvN N, Sum.inr R[i].1, rfl, sz _ _ hd, by unfold kvN; rw [List.length_map, lN, List.length_take, sizeLine_eq]; omega, N ++ [(R[i].1, z)], ?_, ?_, Same.upd_p (sx.trans sz) ndd⟩
      · rw [upd_same]; unfold kvN; rw [putK_new _ hn, List.map_append]; rfl
      · have md : Mv (fun a => a = dd) Hz (upd Hz dd (.dK (putK (kvN N) (Sum.inr R[i].1) (.ref z)))) := fun a o na e => by rw [upd_ne na]; exact e
        have ne : ∀ {a : Addr} {l : List V}, Hz a = some (.lst l) → a ≠ dd := fun e => ne_of e (sz _ _ hd) (by simp)
        rw [take_snoc li]
        refine Paired.snoc (Paired.mono (fun _ _ z => ⟨z.1, trivial, md _ _ (ne (sz _ _ z.2.2)) (sz _ _ z.2.2)⟩) hN) ⟨rfl, trivial, md _ _ (ne hz) hz⟩
    · rintro Hx ⟨N, hd, hN, sx⟩
      rw [List.length_map, List.length_map, List.take_length] at hN
      refine ⟨l1, dd, R, rfl, r8, okR.nd, fun r hr => (okR.ok r hr).nm, (s2.trans sx) _ _ h1, ⟨kvN N, hd, fun r hr => ?_⟩, fun l gs m H' s' nl hl pg em => ?_⟩
      · obtain ⟨z, e1, e2⟩ := nb_of hN okR.nd hr
        exact ⟨z.2, e1, e2⟩
      · have S := s12.trans sx
        exact q l gs m H' (S.trans s') (Same.none S nl) hl pg em

end K38
namespace K38
open PySem PySem.Spec PyProof.Rows L2 TL
/-! ### all subsets, those of them without a clash, in order -/
def sub : Nat → List (List Nat)
  | 0 => [[]]
  | i + 1 => sub i ++ (sub i).map fun g => g ++ [i]
theorem sub_len : ∀ n, (sub n).length = 2 ^ n
  | 0 => rfl
  | n + 1 => by rw [sub, List.length_append, List.length_map, sub_len n, Nat.pow_succ]; omega
theorem sub_mem : ∀ {n : Nat} {g : List Nat}, g ∈ sub n ↔ (∀ j ∈ g, j < n) ∧ g.Pairwise (· < ·)
  | 0, g => by
    rw [sub, List.mem_singleton]
    constructor
    · rintro rfl; exact ⟨fun _ h => (by cases h), .nil⟩
    · rintro ⟨h, _⟩
      cases g with
      | nil => rfl
      | cons a g => exact absurd (h a List.mem_cons_self) (by omega)
  | n + 1, g => by
    rw [sub, List.mem_append, List.mem_map, sub_mem]
    constructor
    · rintro (⟨h1, h2⟩ | ⟨f, hf, rfl⟩)
      · exact ⟨fun j hj => Nat.lt_succ_of_lt (h1 j hj), h2⟩
      · obtain ⟨h1, h2⟩ := sub_mem.mp hf
        refine ⟨fun j hj => ?_, List.pairwise_append.mpr ⟨h2, List.pairwise_singleton _ _, fun a ha b hb => by rw [List.mem_singleton.mp hb]; exact h1 a ha⟩⟩
        rcases List.mem_append.mp hj with h | h
        · exact Nat.lt_succ_of_lt (h1 j h)
        · rw [List.mem_singleton.mp h]; exact Nat.lt_succ_self _
    · rintro ⟨h1, h2⟩
      by_cases hn : n ∈ g
      · right
        rcases List.eq_nil_or_concat g with e | ⟨f, x, e⟩
        · rw [e] at hn; cases hn
        · rw [List.concat_eq_append] at e
          subst e
          obtain ⟨p1, _, p3⟩ := List.pairwise_append.mp h2
          have hx := h1 x (List.mem_append_right _ (List.mem_singleton.mpr rfl))
          have xn : x = n := by
            rcases List.mem_append.mp hn with h | h
            · have := p3 n h x (List.mem_singleton.mpr rfl); omega
            · exact (List.mem_singleton.mp h).symm
          subst xn
          exact ⟨f, sub_mem.mpr ⟨fun j hj => p3 j hj x (List.mem_singleton.mpr rfl), p1⟩, rfl⟩
      · left
        refine ⟨fun j hj => ?_, h2⟩
        have := h1 j hj
        have : j ≠ n := fun e => hn (e ▸ hj)
        omega
theorem sub_nodup : ∀ n, (sub n).Nodup
  | 0 => by simp [sub]
  | n + 1 => by
    rw [sub, List.nodup_append]
    refine ⟨sub_nodup n, ?_, ?_⟩
    · rw [List.nodup_iff_pairwise_ne, List.pairwise_map]
      exact (List.nodup_iff_pairwise_ne.mp (sub_nodup n)).imp fun h e => h (List.append_cancel_right e)
    · intro a ha b hb e
      obtain ⟨f, hf, rfl⟩ := List.mem_map.mp hb
      have := (sub_mem.mp ha).1 n (by rw [e]; exact List.mem_append_right _ (List.mem_singleton.mpr rfl))
      omega
def indep (ad : Nat → Nat → Bool) (g : List Nat) : Bool := g.all fun i => g.all fun j => !(decide (i < j) && ad i j)
theorem indep_iff {ad : Nat → Nat → Bool} {g : List Nat} : indep ad g = true ↔ ∀ i ∈ g, ∀ j ∈ g, i < j → ad i j = false := by
  unfold indep
  rw [List.all_eq_true]
  refine forall_congr' fun i => forall_congr' fun hi => ?_
  rw [List.all_eq_true]
  refine forall_congr' fun j => forall_congr' fun hj => ?_
  by_cases h : i < j <;> simp [h]
theorem lvl_iff {ad : Nat → Nat → Bool} {n : Nat} : ∀ {k : Nat} {g : List Nat}, g ∈ lvl ad n k ↔ g.length = k ∧ (∀ j ∈ g, j < n) ∧ g.Pairwise (· < ·) ∧ indep ad g = true
  | 0, g => by
    rw [lvl, List.mem_singleton]
    constructor
    · rintro rfl; exact ⟨rfl, fun _ h => (by cases h), .nil, rfl⟩
    · rintro ⟨h, _⟩; exact List.length_eq_zero_iff.mp h
  | k + 1, g => by
    rw [lvl, List.mem_flatMap]
    constructor
    · rintro ⟨f, hf, h⟩
      obtain ⟨j, hj, rfl⟩ := List.mem_map.mp h
      obtain ⟨h1, h2, h3, h4⟩ := lvl_iff.mp hf
      obtain ⟨m1, m2⟩ := List.mem_filter.mp hj
      have m2' : ∀ i ∈ f, i < j ∧ ad i j = false := fun i hi => by
        have := List.all_eq_true.mp m2 i hi
        simpa using this
      refine ⟨by rw [List.length_append, h1]; rfl, fun x hx => ?_, List.pairwise_append.mpr ⟨h3, List.pairwise_singleton _ _, fun a ha b hb => by rw [List.mem_singleton.mp hb]; exact (m2' a ha).1⟩, indep_iff.mpr fun a ha b hb lt => ?_⟩
      · rcases List.mem_append.mp hx with q | q
        · exact h2 x q
        · rw [List.mem_singleton.mp q]; exact List.mem_range.mp m1
      · rcases List.mem_append.mp ha with qa | qa <;> rcases List.mem_append.mp hb with qb | qb
        · exact indep_iff.mp h4 a qa b qb lt
        · rw [List.mem_singleton.mp qb]; exact (m2' a qa).2
        · rw [List.mem_singleton.mp qa] at lt
          have := (m2' b qb).1; omega
        · rw [List.mem_singleton.mp qa, List.mem_singleton.mp qb] at lt; omega
    · rintro ⟨h1, h2, h3, h4⟩
      rcases List.eq_nil_or_concat g with e | ⟨f, j, e⟩
      · rw [e] at h1; simp at h1
      · rw [List.concat_eq_append] at e
        subst e
        obtain ⟨p1, _, p3⟩ := List.pairwise_append.mp h3
        refine ⟨f, lvl_iff.mpr ⟨by rw [List.length_append] at h1; simpa using h1, fun x hx => h2 x (List.mem_append_left _ hx), p1, indep_iff.mpr fun a ha b hb lt => indep_iff.mp h4 a (List.mem_append_left _ ha) b (List.mem_append_left _ hb) lt⟩, List.mem_map.mpr ⟨j, List.mem_filter.mpr ⟨List.mem_range.mpr (h2 j (List.mem_append_right _ (List.mem_singleton.mpr rfl))), List.all_eq_true.mpr fun i hi => ?_⟩, rfl⟩⟩
        have lt := p3 i hi j (List.mem_singleton.mpr rfl)
        have := indep_iff.mp h4 i (List.mem_append_left _ hi) j (List.mem_append_right _ (List.mem_singleton.mpr rfl)) lt
        simp [lt, this]
theorem pre_iff {ad : Nat → Nat → Bool} {n m : Nat} (h : lvl ad n m = []) {g : List Nat} : g ∈ pre ad n m ↔ (∀ j ∈ g, j < n) ∧ g.Pairwise (· < ·) ∧ indep ad g = true := by
  constructor
  · intro hg
    obtain ⟨L, hL, hg⟩ := List.mem_flatten.mp hg
    obtain ⟨k, _, rfl⟩ := List.mem_map.mp hL
    exact (lvl_iff.mp hg).2
  · rintro ⟨h2, h3, h4⟩
    have hm : g ∈ lvl ad n g.length := lvl_iff.mpr ⟨rfl, h2, h3, h4⟩
    have lt : g.length < m := by
      rcases Nat.lt_or_ge g.length m with l | l
      · exact l
      · obtain ⟨d, e⟩ := Nat.le.dest l
        rw [← e, lvl_nil h d] at hm
        cases hm
    exact List.mem_flatten.mpr ⟨_, List.mem_map.mpr ⟨g.length, List.mem_range.mpr lt, rfl⟩, hm⟩
def lexN : List Nat → List Nat → Bool
  | [], [] => false
  | [], _ :: _ => true
  | _ :: _, [] => false
  | x :: a, y :: b => if x = y then lexN a b else decide (x < y)
theorem lexN_irrefl : ∀ a, lexN a a = false
  | [] => rfl
  | x :: a => by rw [lexN, if_pos rfl, lexN_irrefl a]
theorem lexN_app : ∀ {a b u v : List Nat}, a.length = b.length → lexN a b = true → lexN (a ++ u) (b ++ v) = true
  | [], [], _, _, _, h => by cases h
  | x :: a, y :: b, u, v, l, h => by
    rw [List.cons_append, List.cons_append]
    rw [lexN] at h ⊢
    by_cases e : x = y
    · rw [if_pos e] at h ⊢; exact lexN_app (by simpa using l) h
    · rw [if_neg e] at h ⊢; exact h
theorem lexN_pre : ∀ {g : List Nat} {i j : Nat}, i < j → lexN (g ++ [i]) (g ++ [j]) = true
  | [], i, j, h => by
    show lexN [i] [j] = true
    rw [lexN, if_neg (by omega)]; exact decide_eq_true h
  | x :: g, i, j, h => by
    rw [List.cons_append, List.cons_append, lexN, if_pos rfl]; exact lexN_pre h
def ltG (a b : List Nat) : Prop := a.length < b.length ∨ (a.length = b.length ∧ lexN a b = true)
theorem lvl_sorted {ad : Nat → Nat → Bool} {n : Nat} : ∀ k, (lvl ad n k).Pairwise fun a b => lexN a b = true
  | 0 => List.pairwise_singleton _ _
  | k + 1 => by
    rw [lvl, List.pairwise_flatMap]
    refine ⟨fun g _ => ?_, ?_⟩
    · rw [List.pairwise_map]
      exact (nxt_sorted g).imp fun h => lexN_pre h
    · refine List.Pairwise.imp_of_mem (fun {a b} ha hb h => ?_) (lvl_sorted k)
      intro x hx y hy
      obtain ⟨i, _, rfl⟩ := List.mem_map.mp hx
      obtain ⟨j, _, rfl⟩ := List.mem_map.mp hy
      exact lexN_app ((lvl_mem ha).1.trans (lvl_mem hb).1.symm) h
theorem pre_sorted {ad : Nat → Nat → Bool} {n : Nat} (m : Nat) : (pre ad n m).Pairwise ltG := by
  unfold pre
  rw [List.pairwise_flatten]
  refine ⟨fun L hL => ?_, ?_⟩
  · obtain ⟨k, _, rfl⟩ := List.mem_map.mp hL
    refine List.Pairwise.imp_of_mem (fun {a b} ha hb h => .inr ⟨(lvl_mem ha).1.trans (lvl_mem hb).1.symm, h⟩) (lvl_sorted k)
  · rw [List.pairwise_map]
    refine List.pairwise_lt_range.imp fun {i j} h x hx y hy => .inl ?_
    rw [(lvl_mem hx).1, (lvl_mem hy).1]; exact h
theorem pre_nodup {ad : Nat → Nat → Bool} {n : Nat} (m : Nat) : (pre ad n m).Nodup := by
  rw [List.nodup_iff_pairwise_ne]
  refine (pre_sorted m).imp fun {a b} h e => ?_
  subst e
  rcases h with h | ⟨_, h⟩
  · omega
  · rw [lexN_irrefl] at h; cases h
theorem pre_perm {ad : Nat → Nat → Bool} {n m : Nat} (h : lvl ad n m = []) : (pre ad n m).Perm ((sub n).filter (indep ad)) :=
  (List.perm_ext_iff_of_nodup (pre_nodup m) ((sub_nodup n).filter _)).mpr fun g => by
    rw [pre_iff h, List.mem_filter, sub_mem, and_assoc]

end K38
namespace K38
open PySem PySem.Spec PyProof.Rows L2 TL
/-! ### the law's search -/
theorem lvl_end {ad : Nat → Nat → Bool} {n : Nat} : lvl ad n (n + 1) = [] := List.eq_nil_iff_forall_not_mem.mpr fun g hg => by
  obtain ⟨h1, h2, h3⟩ := lvl_mem hg
  have := sorted_len h2 h3
  omega
theorem lexLt_gi : ∀ a b : List Nat, HT.lexLt (gi a) (gi b) = lexN a b
  | [], [] => rfl
  | [], _ :: _ => rfl
  | _ :: _, [] => rfl
  | x :: a, y :: b => by
    have ih := lexLt_gi a b
    unfold gi at ih ⊢
    rw [List.map_cons, List.map_cons, HT.lexLt_cons, lexN, ih]
    by_cases e : x = y
    · rw [if_pos e, if_pos (by omega)]
    · rw [if_neg e, if_neg (by omega)]
      exact decide_eq_decide.mpr (by omega)
theorem lexN_total : ∀ {a b : List Nat}, a.length = b.length → lexN a b = false → lexN b a = false → a = b
  | [], [], _, _, _ => rfl
  | x :: a, y :: b, l, h1, h2 => by
    rw [lexN] at h1 h2
    by_cases e : x = y
    · rw [if_pos e] at h1
      rw [if_pos e.symm] at h2
      rw [e, lexN_total (by simpa using l) h1 h2]
    · rw [if_neg e] at h1
      rw [if_neg (Ne.symm e)] at h2
      have := of_decide_eq_false h1
      have := of_decide_eq_false h2
      omega
def keyG (g : List Nat) : Int × List Int := ((g.length : Int), gi g)
theorem ltLG_key (a b : List Nat) : SLG.ltLG (keyG a) (keyG b) = true ↔ ltG a b := by
  unfold SLG.ltLG keyG ltG
  simp only
  by_cases e : a.length = b.length
  · rw [if_pos (by omega), lexLt_gi]
    constructor
    · intro h; exact .inr ⟨e, h⟩
    · rintro (h | ⟨_, h⟩)
      · omega
      · exact h
  · rw [if_neg (by omega), decide_eq_true_eq]
    constructor
    · intro h; exact .inl (by omega)
    · rintro (h | ⟨h, _⟩)
      · omega
      · exact absurd h e
theorem key_anti {a b : List Nat} (h1 : SLG.ltLG (keyG b) (keyG a) = false) (h2 : SLG.ltLG (keyG a) (keyG b) = false) : a = b := by
  unfold SLG.ltLG keyG at h1 h2
  simp only at h1 h2
  by_cases e : a.length = b.length
  · rw [if_pos (by omega), lexLt_gi] at h1 h2
    exact lexN_total e h2 h1
  · rw [if_neg (by omega)] at h1 h2
    have := of_decide_eq_false h1
    have := of_decide_eq_false h2
    omega
theorem sorted_pre {ad : Nat → Nat → Bool} {n m : Nat} (h : lvl ad n m = []) {l : List (List Nat)} (pm : l.Perm ((sub n).filter (indep ad))) (pw : l.Pairwise fun a b => SLG.ltLG (keyG b) (keyG a) = false) : l = pre ad n m := by
  refine List.Perm.eq_of_pairwise (fun a b _ _ h1 h2 => key_anti h1 h2) pw ((pre_sorted m).imp fun {a b} h => ?_) (pm.trans (pre_perm h).symm)
  have h1 := (ltLG_key a b).mpr h
  exact (SLG.swo_lg (fun g : List Nat => keyG g)).asym a b h1
def isLG (H : Hp) (x : V) (g : List Nat) : Prop := ∃ t b, x = .ref t ∧ H t = some (.tup [.int (g.length : Int), .ref b]) ∧ H b = some (.tup ((gi g).map V.int))
theorem isLG.same {H H' : Hp} {x : V} {g : List Nat} (h : isLG H x g) (s : Same H H') : isLG H' x g := by
  obtain ⟨t, b, e, h1, h2⟩ := h; exact ⟨t, b, e, s _ _ h1, s _ _ h2⟩
theorem isLG.mv {H H' : Hp} {x : V} {g : List Nat} {D : Addr} {o : List V} (h : isLG H x g) (m : Mv (fun a => a = D) H H') (hD : H D = some (.lst o)) : isLG H' x g := by
  obtain ⟨t, b, e, h1, h2⟩ := h
  exact ⟨t, b, e, m _ _ (ne_of h1 hD (by simp)) h1, m _ _ (ne_of h2 hD (by simp)) h2⟩
theorem isG.mv {H H' : Hp} {x : V} {g : List Nat} {D : Addr} {o : List V} (h : isG H x g) (m : Mv (fun a => a = D) H H') (hD : H D = some (.lst o)) : isG H' x g := by
  obtain ⟨t, e, n, h1⟩ := h
  exact ⟨t, e, n, m _ _ (ne_of h1 hD (by simp)) h1⟩
def kLG (H : Hp) : V → Int × List Int | .ref t => (match H t with | some (.tup [.int n, .ref b]) => (n, rdT H (.ref b)) | _ => (0, [])) | _ => (0, [])
theorem kLG_is {H : Hp} {x : V} {g : List Nat} (h : isLG H x g) : kLG H x = keyG g := by
  obtain ⟨t, b, rfl, h1, h2⟩ := h
  show (match H t with | some (.tup [.int n, .ref b]) => (n, rdT H (.ref b)) | _ => (0, [])) = keyG g
  rw [h1]
  show ((g.length : Int), rdT H (.ref b)) = _
  rw [rdT_is (H := H) (G := fun _ => True) ⟨b, rfl, trivial, h2⟩]; rfl
def decG (H : Hp) (x : V) : List Nat := (kLG H x).2.map Int.toNat
theorem decG_is {H : Hp} {x : V} {g : List Nat} (h : isLG H x g) : decG H x = g := by
  unfold decG
  rw [kLG_is h]
  show (gi g).map Int.toNat = g
  unfold gi
  rw [List.map_map]
  refine (List.map_congr_left fun j _ => ?_).trans (List.map_id g)
  exact Int.toNat_natCast j
theorem map_decG {H : Hp} : ∀ {xs : List V} {gs : List (List Nat)}, Paired (isLG H) xs gs → xs.map (decG H) = gs
  | _, _, .nil => rfl
  | _, _, .cons r t => by rw [List.map_cons, decG_is r, map_decG t]
/-- how often places of a group clash -/
def clash (ad : Nat → Nat → Bool) (g h : List Nat) : Nat := (h.map fun i => (g.filter fun j => decide (i < j) && ad i j).length).sum
theorem clash_snoc (ad : Nat → Nat → Bool) (g h : List Nat) (i : Nat) : clash ad g (h ++ [i]) = clash ad g h + (g.filter fun j => decide (i < j) && ad i j).length := by
  unfold clash; rw [List.map_append, List.sum_append]; simp
theorem clash_0 (ad : Nat → Nat → Bool) (g : List Nat) : ∀ h : List Nat, clash ad g h = 0 ↔ ∀ i ∈ h, ∀ j ∈ g, i < j → ad i j = false
  | [] => ⟨fun _ _ z => (by cases z), fun _ => rfl⟩
  | x :: h => by
    have ih := clash_0 ad g h
    have e : clash ad g (x :: h) = (g.filter fun j => decide (x < j) && ad x j).length + clash ad g h := rfl
    rw [e, Nat.add_eq_zero_iff, ih, List.length_eq_zero_iff, List.filter_eq_nil_iff]
    constructor
    · rintro ⟨h1, h2⟩ i hi j hj lt
      rcases List.mem_cons.mp hi with rfl | hi
      · have := h1 j hj
        simp [lt] at this
        exact this
      · exact h2 i hi j hj lt
    · intro h1
      refine ⟨fun j hj => ?_, fun i hi => h1 i (List.mem_cons_of_mem _ hi)⟩
      by_cases lt : x < j
      · simp [h1 x List.mem_cons_self j hj lt]
      · simp [lt]
theorem clash_indep {ad : Nat → Nat → Bool} {g : List Nat} : clash ad g g = 0 ↔ indep ad g = true := by rw [clash_0, indep_iff]
theorem clash_le (ad : Nat → Nat → Bool) (g : List Nat) : ∀ h : List Nat, clash ad g h ≤ h.length * g.length
  | [] => Nat.zero_le _
  | x :: h => by
    have ih := clash_le ad g h
    have e : clash ad g (x :: h) = (g.filter fun j => decide (x < j) && ad x j).length + clash ad g h := rfl
    have := List.length_filter_le (fun j => decide (x < j) && ad x j) g
    rw [e, List.length_cons, Nat.succ_mul]; omega
def sp_lsearch (K : PySem.W.Frag) : Sp := fun vs H Q _ => ∃ (r : Addr) (ys : List V) (R : List Row), vs = [.ref r] ∧ H r = some (.lst ys) ∧ Paired (rowAt H) ys R ∧ R.length ≤ 8 ∧ (∀ r ∈ R, r.2.1.length ≤ 4 ∧ ∀ x ∈ r.2.1, NameOk x) ∧
  ∀ (l : Addr) (cs : List V) H', Same H H' → H l = none → H' l = some (.lst cs) → Paired (isC R H') cs (pre (adR R) R.length (R.length + 1)) → Q (.ref l) H'
theorem ok_l_search {P : Program} {w : World} {K : PySem.W.Frag} {mg : Str → Option Value} {base : Heap} (T : Txt P K mg) : FnOk P w K mg base CX0 2 T.f_l_search T.fd_l_search ["_law_events"] (sp_lsearch K) := by
  refine T.F_l_search.ok sc_l_search (fun vs H Q E h => ?_) (fun cdv A outer s H vs Q E hr h => ?_)
  · obtain ⟨_, _, _, rfl, _⟩ := h; rfl
  · obtain ⟨r, ys, R, rfl, hr', pR, r8, nm, q⟩ := h
    have lys := pR.length
    refine ⟨_, PSs.nox (pss_cons (ps_set (i := 1) sc_l_search.nd rfl (Or.inl rfl) (pe_lst (pa_cons (pe_tup pa_nil) pa_nil)))
      (pss_cons (ps_for PassesOwn.never rfl (pi_range1 (by rfl) T.n_range (pa_cons (pe_callB (show CallR _ _ (rLenSeq K) from call_len_seq) (by rfl) T.n_len (by decide +kernel) (pa_cons (pv 0) pa_nil)) pa_nil)) (pg_name (i := 2) sc_l_search.nd rfl (Or.inr rfl)) (pss_one (ps_set (i := 1) sc_l_search.nd rfl (Or.inl rfl) (pe_op op_cat (pv 1) (pe_lc (own := [("_law_group", 3)]) (g := gName 3) rfl sc_l_search.nd (pi_list (pv 1)) (blkOk_by (own := [("_law_group", 3)]) (N := N_l_search) (sc := defScope s_l_search) (by decide +kernel)) (fun _ _ _ _ _ => (pg_name (i := 3) sc_l_search.nd rfl (Or.inl rfl))) (fun _ _ _ _ _ => pts_nil) (fun _ _ _ _ _ => (pe_op (show OpR _ _ (rCatA K) from op_catA) (pv 3) (pe_tup (pa_cons (pv 2) pa_nil)))))))))
      (pss_cons (ps_set (i := 4) sc_l_search.nd rfl (Or.inl rfl) (pe_lst pa_nil))
      (pss_cons (ps_for PassesOwn.never rfl (pi_list (pv 1)) (pg_name (i := 3) sc_l_search.nd rfl (Or.inl rfl)) (pss_cons (ps_set (i := 5) sc_l_search.nd rfl (Or.inl rfl) pe_int)
      (pss_cons (ps_for PassesOwn.never rfl (pi_tup (pv 3)) (pg_name (i := 6) sc_l_search.nd rfl (Or.inr rfl)) (pss_one (ps_set (i := 5) sc_l_search.nd rfl (Or.inl rfl) (pe_op op_add (pv 5) (pe_callB (show CallR _ _ (rLenSeq K) from call_len_seq) (by rfl) T.n_len (by decide +kernel) (pa_cons (pe_lc (own := [("_law_other", 8)]) (g := gName 8) rfl sc_l_search.nd (pi_tup (pv 3)) (blkOk_by (own := [("_law_other", 8)]) (N := N_l_search) (sc := defScope s_l_search) (by decide +kernel)) (fun _ _ _ _ _ => (pg_name (i := 8) sc_l_search.nd rfl (Or.inl rfl))) (fun _ _ _ _ _ => pts_one (PW.pt (pw_and (pt_cmpR op_lt (pv 6) (pv 8) (nomark _)) (pw_and1 (pt_val (pe_call (ok_l_meet T) (hr.mono (by decide)) (by rfl) T.g_l_meet T.F_l_meet.kp (b_l_meet T) .nil pass0 (pa_cons (pe_ix (show IxR _ (rIxL K) from ix_list) (pv 0) (pv 6) (fun _ _ => rfl)) (pa_cons (pe_ix (show IxR _ (rIxL K) from ix_list) (pv 0) (pv 8) (fun _ _ => rfl)) pa_nil)))))))) (fun _ _ _ _ _ => (pv 8))) pa_nil))))))
      (pss_one (ps_if (pt_cmpR op_eq (pv 5) pe_int (nomark _)) (pss_one (ps_expr (pe_bm PySem.F.plainAttrs_list PySem.F.slot_list_append PySem.F.type_list_append mt_append (pv 4) (pa_cons (pe_tup (pa_cons (pe_callB (show CallR _ _ (rLenSeq K) from call_len_seq) (by rfl) T.n_len (by decide +kernel) (pa_cons (pv 3) pa_nil)) (pa_cons (pv 3) pa_nil))) pa_nil)))) pss_nil)))))
      (pss_one (ps_ret (pe_lc (own := [("_law_size", 7), ("_law_group", 3)]) (g := gTup K 2 (gCons (gName 7) (gCons (gName 3) gNil))) rfl sc_l_search.nd (pi_list (pe_callB (show CallR _ _ (rSortLG K) from cr_sortLG hr.units) (by rfl) T.n_sorted (by decide +kernel) (pa_cons (pv 4) pa_nil))) (blkOk_by (own := [("_law_size", 7), ("_law_group", 3)]) (N := N_l_search) (sc := defScope s_l_search) (by decide +kernel)) (fun _ _ _ _ _ => (pg_tup rfl (pgs_cons (pg_name (i := 7) sc_l_search.nd rfl (Or.inl rfl)) (pgs_cons (pg_name (i := 3) sc_l_search.nd rfl (Or.inl rfl)) pgs_nil)))) (fun _ _ _ _ _ => pts_nil) (fun _ _ _ _ _ => (pe_callTy (show CallR _ _ (rTupOf K) from call_tuple_of) (by rfl) T.n_tuple (by decide +kernel) (pa_cons (pe_lc (own := [("_law_at", 2)]) (g := gName 2) rfl sc_l_search.nd (show PI _ _ _ (iTup K _) from (pi_tup (pv 3))) (blkOk_by (own := [("_law_at", 2)]) (N := N_l_search) (sc := relS _ (defScope s_l_search)) (by decide +kernel)) (fun _ _ _ _ _ => (pg_name (i := 2) sc_l_search.nd rfl (Or.inl rfl))) (fun _ _ _ _ _ => pts_nil) (fun _ _ _ _ _ => (pe_ix (show IxR _ (rIxT K) from ix_tup) (pe_ix (show IxR _ (rIxL K) from ix_list) (pv 0) (pv 2) (fun _ _ => rfl)) pe_int (fun _ _ => rfl)))) pa_nil)))))))))), ?_⟩
    refine ⟨Nat.zero_le _, fun e1 ne1 => ?_⟩
    refine ⟨lenk 1 rfl (by decide), fun gr0 ngr0 => ?_⟩
    have s0 := (Same.new (o := .tup []) ne1).trans (Same.new (o := .lst [.ref e1]) ngr0)
    have hgr0 : upd (upd H e1 (.tup [])) gr0 (.lst [.ref e1]) gr0 = some (.lst [.ref e1]) := upd_same
    have g0 : isG (upd (upd H e1 (.tup [])) gr0 (.lst [.ref e1])) (.ref e1) [] := ⟨e1, rfl, trivial, by rw [upd_ne (ne_of_none upd_same ngr0), upd_same]; rfl⟩
    generalize upd (upd H e1 (.tup [])) gr0 (.lst [.ref e1]) = H0 at s0 hgr0 g0
    repeat (first | refine ⟨_, rfl, ?_⟩ | refine ⟨_, _, rfl, rfl, ?_⟩ | refine ⟨_, _, rfl, ?_⟩ | refine ⟨rfl, ?_⟩)
    refine ⟨r, _, rfl, .inl (SqL.of (s0 _ _ hr')), ?_⟩
    repeat (first | refine ⟨_, rfl, ?_⟩ | refine ⟨_, _, rfl, rfl, ?_⟩ | refine ⟨_, _, rfl, ?_⟩ | refine ⟨rfl, ?_⟩)
    refine ⟨by omega, by omega, for_it walk_range (fun i σ Hx => ∃ (gr : Addr) (gx : List V) (x2 : Option V), σ = [some (.ref r), some (.ref gr), x2, none, none, none, none, none, none] ∧ Same H Hx ∧ Hx gr = some (.lst gx) ∧ Paired (isG Hx) gx (sub i)) ?_ (fun _ _ _ _ _ => trivial) ?_ ?_⟩
    · exact ⟨gr0, _, _, rfl, s0, hgr0, .cons g0 .nil⟩
    · rintro i x σ Hx' Hx hi ⟨gr, gx, x2, rfl, sx, hgr, pg⟩ ⟨rfl, rfl⟩
      have i8 : i < 8 := by omega
      have lsub : (sub i).length ≤ 128 := by rw [sub_len]; exact Nat.le_trans (Nat.pow_le_pow_right (by decide) (show i ≤ 7 by omega)) (by decide)
      have lgx := pg.length
      repeat (first | refine ⟨_, rfl, ?_⟩ | refine ⟨_, _, rfl, rfl, ?_⟩ | refine ⟨_, _, rfl, ?_⟩ | refine ⟨rfl, ?_⟩)
      refine ⟨⟨_, SqL.of hgr⟩, fun D nD => ?_⟩
      refine lc_it (walk_list (K := K) (a := gr) (xs := gx)) (fun j H' => ∃ zs, H' D = some (.lst zs) ∧ Paired (isG H') zs (((sub i).take j).map fun g => g ++ [i]) ∧ Same Hx H') ⟨[], upd_same, .nil, Same.new nD⟩ (fun j H' _ ⟨_, _, _, h⟩ => SqL.of (h _ _ hgr)) ?_ ?_
      · rintro j y Hv Hy hj ⟨zs, hD, pz, sy⟩ ⟨rfl, hy⟩
        obtain ⟨g, hg, tg, rfl, -, htg⟩ := pd_get pg hy
        obtain ⟨lg, eg⟩ := List.getElem?_eq_some_iff.mp hg
        obtain ⟨g2, g3⟩ := sub_mem.mp (List.mem_of_getElem? hg)
        have gl := sorted_len g2 g3
        have lgi : (gi g).length = g.length := by unfold gi; rw [List.length_map]
        refine ⟨rfl, ?_⟩
        repeat (first | refine ⟨_, rfl, ?_⟩ | refine ⟨_, _, rfl, rfl, ?_⟩ | refine ⟨_, _, rfl, ?_⟩ | refine ⟨rfl, ?_⟩)
        refine ⟨lenk 1 rfl (by decide), fun u nu => ?_⟩
        have su := Same.new (o := .tup [.int (0 + ((i : Nat) : Int))]) nu
        refine catA_pre (su _ _ (sy _ _ htg)) upd_same (by rw [List.length_map, lgi, sizeLine_eq]; omega) fun p4 H4 s4 np4 hp4 => ?_
        have s24 := su.trans s4
        have hD4 := s24 _ _ hD
        have mve : Mv (fun a => a = D) H4 (upd H4 D (.lst (zs ++ [.ref p4]))) := fun a o na e => by rw [upd_ne na]; exact e
        have lz := pz.length
        rw [List.length_map, List.length_take] at lz
        refine ⟨zs, hD4, by rw [sizeLine_eq]; omega, zs ++ [.ref p4], upd_same, ?_, Same.upd_p (sy.trans s24) nD⟩
        rw [take_snoc lg, List.map_append, eg]
        refine Paired.snoc (Paired.mono (fun _ _ z => isG.mv (isTupI.same z s24) mve hD4) pz) (isG.mv ⟨p4, rfl, trivial, ?_⟩ mve hD4)
        rw [hp4]
        show some (HO.tup ((gi g).map V.int ++ [V.int (0 + ((i : Nat) : Int))])) = some (HO.tup ((gi (g ++ [i])).map V.int))
        unfold gi
        rw [Int.zero_add, List.map_append, List.map_append]; rfl
      · rintro Hy ⟨zs, hD, pz, sy⟩
        rw [lgx, List.take_length] at pz
        have lz := pz.length
        rw [List.length_map] at lz
        refine ⟨gr, D, gx, zs, rfl, rfl, sy _ _ hgr, hD, by rw [sizeLine_eq]; omega, fun p np => ?_⟩
        have sp := Same.new (o := .lst (gx ++ zs)) np
        exact ⟨p, gx ++ zs, _, rfl, (sx.trans sy).trans sp, upd_same, pd_app (Paired.mono (fun _ _ z => isTupI.same z (sy.trans sp)) pg) (Paired.mono (fun _ _ z => isTupI.same z sp) pz)⟩
    · rintro σ H1 ⟨gr, gx, x2, rfl, s1, hgr, pg⟩
      have en : ((ys.length : Int)).toNat = R.length := by omega
      rw [en] at pg
      have lsub : (sub R.length).length ≤ 256 := by rw [sub_len]; exact Nat.le_trans (Nat.pow_le_pow_right (by decide) r8) (by decide)
      refine ⟨Nat.zero_le _, fun fo nfo => ?_⟩
      have hr1 := s1 _ _ hr'
      have pR1 := Paired.mono (fun _ _ z => rowAt.same z s1) pR
      refine ⟨_, rfl, gr, rfl, ⟨_, SqL.of (Same.new nfo _ _ hgr)⟩, for_it (walk_list (K := K) (a := gr) (xs := gx)) (fun i σ Hx => ∃ (fx : List V) (x3 x5 x6 : Option V), σ = [some (.ref r), some (.ref gr), x2, x3, some (.ref fo), x5, x6, none, none] ∧ Same H1 Hx ∧ Hx fo = some (.lst fx) ∧ Paired (isLG Hx) fx (((sub R.length).take i).filter (indep (adR R)))) ?_ ?_ ?_ ?_⟩
      · exact ⟨[], _, _, _, rfl, Same.new nfo, upd_same, .nil⟩
      · rintro i σ Hx _ ⟨fx, x3, x5, x6, rfl, sx, _⟩
        exact SqL.of (sx _ _ hgr)
      · rintro i x σ Hv Hx hi ⟨fx, x3, x5, x6, rfl, sx, hfo, pf⟩ ⟨rfl, hx⟩
        obtain ⟨g, hg, tg, rfl, -, htg⟩ := pd_get pg hx
        obtain ⟨lg, eg⟩ := List.getElem?_eq_some_iff.mp hg
        obtain ⟨g2, g3⟩ := sub_mem.mp (List.mem_of_getElem? hg)
        have gl := sorted_len g2 g3
        have lgi : ((gi g).map V.int).length = g.length := by unfold gi; rw [List.length_map, List.length_map]
        have itm : ∀ {q : Nat} {x : V}, ((gi g).map V.int)[q]? = some x → ∃ o, g[q]? = some o ∧ x = .int ((o : Nat) : Int) := fun h => by
          obtain ⟨oi, hoi, e⟩ := int_at' h
          unfold gi at hoi
          rw [List.getElem?_map] at hoi
          obtain ⟨o, ho, rfl⟩ := Option.map_eq_some_iff.mp hoi
          exact ⟨o, ho, e⟩
        have htx := sx _ _ htg
        have lfx := pf.length
        have lff := List.length_filter_le (indep (adR R)) ((sub R.length).take i)
        rw [List.length_take] at lff
        refine ⟨_, rfl, tg, rfl, ⟨_, .inl (.inl htx)⟩, for_it (walk_tup (K := K) (a := tg) (xs := (gi g).map V.int)) (fun q σ Hy => ∃ x6 : Option V, σ = [some (.ref r), some (.ref gr), x2, some (.ref tg), some (.ref fo), some (.int ((clash (adR R) g (g.take q) : Nat) : Int)), x6, none, none] ∧ Same Hx Hy) ?_ ?_ ?_ ?_⟩
        · exact ⟨_, rfl, Same.refl _⟩
        · rintro q σ Hy _ ⟨_, rfl, sy⟩
          exact .inl (.inl (sy _ _ htx))
        · rintro q x σ Hu Hy hq ⟨x6, rfl, sy⟩ ⟨rfl, hx⟩
          obtain ⟨o, ho, rfl⟩ := itm hx
          obtain ⟨lo', eo⟩ := List.getElem?_eq_some_iff.mp ho
          have on := g2 o (List.mem_of_getElem? ho)
          have sxy := sx.trans sy
          have htgy := sy _ _ htx
          repeat (first | refine ⟨_, rfl, ?_⟩ | refine ⟨_, _, rfl, rfl, ?_⟩ | refine ⟨_, _, rfl, ?_⟩ | refine ⟨rfl, ?_⟩)
          refine ⟨⟨_, .inl (.inl htgy)⟩, fun D nD => ?_⟩
          refine lc_it (walk_tup (K := K) (a := tg) (xs := (gi g).map V.int)) (fun p H' => H' D = some (.lst ((gi ((g.take p).filter fun j => decide (o < j) && adR R o j)).map V.int)) ∧ Same Hy H') ⟨upd_same, Same.new nD⟩ (fun p H' _ h => .inl (.inl (h.2 _ _ htgy))) ?_ ?_
          · rintro p x Hw Hz hp ⟨h1, sz⟩ ⟨rfl, hx⟩
            obtain ⟨j, hj, rfl⟩ := itm hx
            obtain ⟨lj', ej⟩ := List.getElem?_eq_some_iff.mp hj
            have jn := g2 j (List.mem_of_getElem? hj)
            have pRz := Paired.mono (fun _ _ z => rowAt.same z (sxy.trans sz)) pR1
            have hrz := (sxy.trans sz) _ _ hr1
            have lf : ((g.take p).filter fun j => decide (o < j) && adR R o j).length ≤ 8 := Nat.le_trans (List.length_filter_le _ _) (by rw [List.length_take]; omega)
            have no : (decide (o < j) && adR R o j) = false → upd Hz D (.lst ((gi ((g.take p).filter fun j => decide (o < j) && adR R o j)).map V.int)) = upd Hz D (.lst ((gi ((g.take (p + 1)).filter fun j => decide (o < j) && adR R o j)).map V.int)) := fun e => by
              rw [take_snoc lj', List.filter_append, ej, List.filter_cons, if_neg (by rw [e]; simp), List.filter_nil, List.append_nil]
            refine ⟨rfl, ?_⟩
            repeat (first | refine ⟨_, rfl, ?_⟩ | refine ⟨_, _, rfl, rfl, ?_⟩ | refine ⟨_, _, rfl, ?_⟩ | refine ⟨rfl, ?_⟩)
            refine ite2 (fun c => ?_) (fun c => ?_)
            · have lt : o < j := by have := of_decide_eq_true c; omega
              obtain ⟨yo, hyo, ro⟩ := pd_get' pRz (List.getElem?_eq_getElem on)
              obtain ⟨yj, hyj, rj⟩ := pd_get' pRz (List.getElem?_eq_getElem jn)
              repeat (first | refine ⟨_, rfl, ?_⟩ | refine ⟨_, _, rfl, rfl, ?_⟩ | refine ⟨_, _, rfl, ?_⟩ | refine ⟨rfl, ?_⟩)
              refine ⟨r, ys, _, yo, rfl, rfl, SqL.of hrz, atI_nat hyo, ?_⟩
              repeat (first | refine ⟨_, rfl, ?_⟩ | refine ⟨_, _, rfl, rfl, ?_⟩ | refine ⟨_, _, rfl, ?_⟩ | refine ⟨rfl, ?_⟩)
              refine ⟨r, ys, _, yj, rfl, rfl, SqL.of hrz, atI_nat hyj, ?_⟩
              have nmo := nm _ (List.getElem_mem on)
              refine ⟨yo, yj, R[o], R[j], rfl, ro, rj, nmo.2, nmo.1, fun H2 s2 => ?_⟩
              repeat (first | refine ⟨_, rfl, ?_⟩ | refine ⟨_, _, rfl, rfl, ?_⟩ | refine ⟨_, _, rfl, ?_⟩ | refine ⟨rfl, ?_⟩)
              rw [← adR_at (List.getElem?_eq_getElem on) (List.getElem?_eq_getElem jn)]
              by_cases hm : adR R o j = true
              · rw [hm]
                refine iteT ?_
                repeat (first | refine ⟨_, rfl, ?_⟩ | refine ⟨_, _, rfl, rfl, ?_⟩ | refine ⟨_, _, rfl, ?_⟩ | refine ⟨rfl, ?_⟩)
                refine ⟨_, s2 _ _ h1, by unfold gi; rw [List.length_map, List.length_map, sizeLine_eq]; omega, ?_, Same.upd_p (sz.trans s2) nD⟩
                rw [upd_same, take_snoc lj', List.filter_append, ej, List.filter_cons, if_pos (by rw [hm]; simpa using lt)]
                unfold gi
                rw [List.map_append, List.map_append]; rfl
              · rw [Bool.eq_false_iff.mpr hm]
                refine iteF ⟨?_, sz.trans s2⟩
                rw [take_snoc lj', List.filter_append, ej, List.filter_cons, if_neg (by rw [Bool.eq_false_iff.mpr hm]; simp), List.filter_nil, List.append_nil]
                exact s2 _ _ h1
            · have lt : ¬ o < j := fun e => c (decide_eq_true (by omega))
              refine ⟨?_, sz⟩
              rw [take_snoc lj', List.filter_append, ej, List.filter_cons, if_neg (by rw [decide_eq_false lt]; simp), List.filter_nil, List.append_nil]
              exact h1
          rintro H2 ⟨hD, s2⟩
          rw [lgi, List.take_length] at hD
          refine ⟨D, _, rfl, .inl (SqL.of hD), ?_⟩
          repeat (first | refine ⟨_, rfl, ?_⟩ | refine ⟨_, _, rfl, rfl, ?_⟩ | refine ⟨_, _, rfl, ?_⟩ | refine ⟨rfl, ?_⟩)
          refine ⟨some (.int ((o : Nat) : Int)), ?_, sy.trans s2⟩
          rw [take_snoc lo', clash_snoc, eo]
          have e : ((gi (g.filter fun j => decide (o < j) && adR R o j)).map V.int).length = (g.filter fun j => decide (o < j) && adR R o j).length := by unfold gi; rw [List.length_map, List.length_map]
          rw [e, Int.natCast_add]; rfl
        · rintro σ Hy ⟨x6, rfl, sy⟩
          rw [lgi, List.take_length]
          have hfoy := sy _ _ hfo
          have htgy := sy _ _ htx
          have pfy := Paired.mono (fun _ _ z => isLG.same z sy) pf
          repeat (first | refine ⟨_, rfl, ?_⟩ | refine ⟨_, _, rfl, rfl, ?_⟩ | refine ⟨_, _, rfl, ?_⟩ | refine ⟨rfl, ?_⟩)
          refine ite2 (fun c => ?_) (fun c => ?_)
          · have c0 : clash (adR R) g g = 0 := by have := V.int.inj (of_decide_eq_true c); omega
            have ci := clash_indep.mp c0
            repeat (first | refine ⟨_, rfl, ?_⟩ | refine ⟨_, _, rfl, rfl, ?_⟩ | refine ⟨_, _, rfl, ?_⟩ | refine ⟨rfl, ?_⟩)
            refine ⟨.inl ⟨rfl, _, SqL.of hfoy⟩, ?_⟩
            repeat (first | refine ⟨_, rfl, ?_⟩ | refine ⟨_, _, rfl, rfl, ?_⟩ | refine ⟨_, _, rfl, ?_⟩ | refine ⟨rfl, ?_⟩)
            refine ⟨tg, _, rfl, .inr (.inl (.inl htgy)), ?_⟩
            rw [lgi]
            repeat (first | refine ⟨_, rfl, ?_⟩ | refine ⟨_, _, rfl, rfl, ?_⟩ | refine ⟨_, _, rfl, ?_⟩ | refine ⟨rfl, ?_⟩)
            refine ⟨lenk 2 rfl (by decide), fun u nu => ?_⟩
            have su := Same.new (o := .tup [.int (g.length : Int), .ref tg]) nu
            have hu : upd Hy u (.tup [.int (g.length : Int), .ref tg]) u = some (.tup [.int (g.length : Int), .ref tg]) := upd_same
            generalize upd Hy u (.tup [.int (g.length : Int), .ref tg]) = H3 at su hu
            have hfo3 := su _ _ hfoy
            have mve : Mv (fun a => a = fo) H3 (upd H3 fo (.lst (fx ++ [.ref u]))) := fun a o na e => by rw [upd_ne na]; exact e
            refine ⟨fo, _, _, rfl, rfl, hfo3, by rw [sizeLine_eq]; omega, ?_⟩
            refine ⟨fx ++ [.ref u], _, _, _, rfl, Same.upd_p ((sx.trans sy).trans su) nfo, upd_same, ?_⟩
            rw [take_snoc lg, List.filter_append, eg, List.filter_cons, if_pos ci]
            exact Paired.snoc (Paired.mono (fun _ _ z => (isLG.same z su).mv mve hfo3) pfy) (isLG.mv ⟨u, tg, rfl, hu, su _ _ htgy⟩ mve hfo3)
          · have c0 : ¬ indep (adR R) g = true := fun e => c (by rw [clash_indep.mpr e]; rfl)
            refine ⟨fx, _, _, _, rfl, sx.trans sy, hfoy, ?_⟩
            rw [take_snoc lg, List.filter_append, eg, List.filter_cons, if_neg c0, List.filter_nil, List.append_nil]
            exact pfy
      · rintro σ H2 ⟨fx, x3, x5, x6, rfl, sx, hfo, pf⟩
        rw [pg.length, List.take_length] at pf
        repeat (first | refine ⟨_, rfl, ?_⟩ | refine ⟨_, _, rfl, rfl, ?_⟩ | refine ⟨_, _, rfl, ?_⟩ | refine ⟨rfl, ?_⟩)
        have hk : ∀ x ∈ fx, ∃ t b, x = V.ref t ∧ H2 t = some (.tup [.int (kLG H2 x).1, .ref b]) ∧ SqT K H2 b ((kLG H2 x).2.map V.int) := fun x hx => by
          obtain ⟨j, hj⟩ := List.mem_iff_getElem?.mp hx
          obtain ⟨g, hg, hh⟩ := pd_get pf hj
          obtain ⟨t, b, rfl, h1, h2⟩ := id hh
          rw [kLG_is hh]
          exact ⟨t, b, rfl, h1, .inl (.inl h2)⟩
        refine ⟨fo, fx, kLG H2, rfl, SqL.of hfo, hk, fun zs p pm pw np => ?_⟩
        have sp := Same.new (o := .lst zs) np
        have hp : upd H2 p (.lst zs) p = some (.lst zs) := upd_same
        have pz : Paired (isLG H2) zs (zs.map (decG H2)) := pd_all (decG H2) fun x hx => by
          obtain ⟨j, hj⟩ := List.mem_iff_getElem?.mp (pm.mem_iff.mp hx)
          obtain ⟨g, hg, hh⟩ := pd_get pf hj
          rw [decG_is hh]; exact hh
        have ed : zs.map (decG H2) = pre (adR R) R.length (R.length + 1) := by
          refine sorted_pre lvl_end ?_ ?_
          · have := pm.map (decG H2)
            rw [map_decG pf] at this
            exact this
          · rw [List.pairwise_map]
            refine List.Pairwise.imp_of_mem (fun {x y} hx hy h => ?_) pw
            have gx : ∀ {x : V}, x ∈ zs → kLG H2 x = keyG (decG H2 x) := fun {x} hx => by
              obtain ⟨j, hj⟩ := List.mem_iff_getElem?.mp (pm.mem_iff.mp hx)
              obtain ⟨g, hg, hh⟩ := pd_get pf hj
              rw [kLG_is hh, decG_is hh]
            rw [← gx hx, ← gx hy]; exact h
        rw [ed] at pz
        have pb : (pre (adR R) R.length (R.length + 1)).length ≤ 256 := by have := wgt_256 r8 (R.length + 1); omega
        replace pz := Paired.mono (fun _ _ z => isLG.same z sp) pz
        have s3 := (s1.trans sx).trans sp
        generalize upd H2 p (.lst zs) = H3 at sp hp pz s3
        have hr3 := s3 _ _ hr'
        have pR3 := Paired.mono (fun _ _ z => rowAt.same z s3) pR
        repeat (first | refine ⟨_, rfl, ?_⟩ | refine ⟨_, _, rfl, rfl, ?_⟩ | refine ⟨_, _, rfl, ?_⟩ | refine ⟨rfl, ?_⟩)
        refine ⟨⟨_, SqL.of hp⟩, fun D nD => ?_⟩
        refine lc_it (walk_list (K := K) (a := p) (xs := zs)) (fun i H' => ∃ cs, H' D = some (.lst cs) ∧ Paired (isC R H') cs ((pre (adR R) R.length (R.length + 1)).take i) ∧ Same H3 H') ⟨[], upd_same, .nil, Same.new nD⟩ (fun i H' _ ⟨_, _, _, h⟩ => SqL.of (h _ _ hp)) ?_ ?_
        · rintro i x Hw Hx hi ⟨cs, hD, pc, sH⟩ ⟨rfl, hx⟩
          obtain ⟨g, hg, t, b, rfl, h1, h2⟩ := pd_get pz hx
          obtain ⟨lg, eg⟩ := List.getElem?_eq_some_iff.mp hg
          obtain ⟨-, g2, g3⟩ := pre_mem (List.mem_of_getElem? hg)
          have gl := sorted_len g2 g3
          have lgi : ((gi g).map V.int).length = g.length := by unfold gi; rw [List.length_map, List.length_map]
          have hbx := sH _ _ h2
          refine ⟨t, _, rfl, .inl (.inl (sH _ _ h1)), rfl, _, _, rfl, _, _, rfl, rfl, rfl, ?_⟩
          repeat (first | refine ⟨_, rfl, ?_⟩ | refine ⟨_, _, rfl, rfl, ?_⟩ | refine ⟨_, _, rfl, ?_⟩ | refine ⟨rfl, ?_⟩)
          refine ⟨⟨_, .inl (.inl hbx)⟩, fun A nA => ?_⟩
          refine lc_it (walk_tup (K := K) (a := b) (xs := (gi g).map V.int)) (fun j H' => H' A = some (.lst ((tN R (g.take j)).map V.str)) ∧ Same Hx H') ⟨upd_same, Same.new nA⟩ (fun j H' _ h => .inl (.inl (h.2 _ _ hbx))) ?_ ?_
          · rintro j x Hu Hy hj ⟨k1, sy⟩ ⟨rfl, hx⟩
            obtain ⟨oi, hoi, rfl⟩ := int_at' hx
            unfold gi at hoi
            rw [List.getElem?_map] at hoi
            obtain ⟨o, ho, rfl⟩ := Option.map_eq_some_iff.mp hoi
            obtain ⟨lo', eo⟩ := List.getElem?_eq_some_iff.mp ho
            have on := g2 o (List.mem_of_getElem? ho)
            obtain ⟨yo, hyo, to, a, c, ws, rfl, k2, -⟩ := pd_get' (Paired.mono (fun _ _ z => rowAt.same z (sH.trans sy)) pR3) (List.getElem?_eq_getElem on)
            refine ⟨rfl, ?_⟩
            repeat (first | refine ⟨_, rfl, ?_⟩ | refine ⟨_, _, rfl, rfl, ?_⟩ | refine ⟨_, _, rfl, ?_⟩ | refine ⟨rfl, ?_⟩)
            refine ⟨r, ys, _, .ref to, rfl, rfl, SqL.of ((sH.trans sy) _ _ hr3), atI_nat hyo, ?_⟩
            repeat (first | refine ⟨_, rfl, ?_⟩ | refine ⟨_, _, rfl, rfl, ?_⟩ | refine ⟨_, _, rfl, ?_⟩ | refine ⟨rfl, ?_⟩)
            refine ⟨to, _, (0 : Int), _, rfl, rfl, .inl (.inl k2), rfl, ?_⟩
            refine ⟨_, k1, by unfold tN; rw [List.length_map, List.length_map, List.length_take, sizeLine_eq]; omega, ?_, Same.upd_p sy nA⟩
            rw [upd_same, take_snoc lo', tN_snoc, eo, nmR_at (List.getElem?_eq_getElem on), List.map_append]; rfl
          rintro Hy ⟨hA, sy⟩
          rw [lgi, List.take_length] at hA
          refine ⟨A, _, rfl, .inl ⟨SqL.of hA, fun u nu => ?_⟩⟩
          have su := Same.new (o := .tup ((tN R g).map V.str)) nu
          have hu : upd Hy u (.tup ((tN R g).map V.str)) u = some (.tup ((tN R g).map V.str)) := upd_same
          generalize upd Hy u (.tup ((tN R g).map V.str)) = Hz at su hu
          have hDz := su _ _ (sy _ _ hD)
          have mD : Mv (fun a => a = D) Hz (upd Hz D (.lst (cs ++ [.ref u]))) := fun a o na e => by rw [upd_ne na]; exact e
          have lcs := pc.length
          rw [List.length_take] at lcs
          refine ⟨cs, hDz, by rw [sizeLine_eq]; omega, cs ++ [.ref u], upd_same, ?_, Same.upd_p ((sH.trans sy).trans su) nD⟩
          rw [take_snoc lg, eg]
          exact Paired.snoc (Paired.mono (fun _ _ z => isC.mv (z.same (sy.trans su)) mD hDz) pc) (isC.mv ⟨u, rfl, hu⟩ mD hDz)
        · rintro Hx ⟨cs, hD, pc, sH⟩
          rw [pz.length, List.take_length] at pc
          exact q D cs Hx (s3.trans sH) (Same.none s3 nD) hD pc

end K38
namespace K38
open PySem PySem.Spec PyProof.Rows L2 TL
/-! ### no problem at all -/
def sp_caught (K : PySem.W.Frag) (C : Addr) : Sp := fun vs H Q _ => ∃ v : V, vs = [v] ∧ NotP K C H v ∧ ∀ l H', Same H H' → H l = none → H' l = some (.lst [.str (Str.ofString "problem"), v]) → Q (.ref l) H'
theorem ok_l_caught {P : Program} {w : World} {K : PySem.W.Frag} {mg : Str → Option Value} {base : Heap} (T : Txt P K mg) : FnOk P w K mg base CX0 5 T.f_l_caught T.fd_l_caught ["_law_thing"] (sp_caught K T.C_Problem) := by
  refine T.F_l_caught.ok sc_l_caught (fun vs H Q E h => ?_) (fun cdv A outer s H vs Q E hr h => ?_)
  · obtain ⟨_, rfl, _⟩ := h; rfl
  · obtain ⟨v, rfl, nv, q⟩ := h
    refine ⟨_, PSs.nox (pss_cons (ps_tryG rfl rfl (fun W pn xe tk _ => (pss_one (ps_expr (pe_callS (ok_independent_sets T) (hr.mono (by decide)) (by rfl) T.g_independent_sets T.F_independent_sets.kp (b_independent_sets T) (passAt tk) (pa_cons (pv 0) pa_nil)))))
      (HdsG.as_ (i := 1) sc_l_caught.nd rfl rfl ⟨by rfl, by decide, .inl T.x_InvalidProblem.gC⟩ (fun a oe cls d pn hz hf => (pss_one (ps_ret (pe_lst (pa_cons pe_str (pa_cons (pe_fldX T.x_InvalidProblem hz hf (pv 1)) pa_nil)))))) HdsG.stop))
      (pss_one (ps_ret (pe_lst (pa_cons pe_str (pa_cons pe_non pa_nil)))))), ?_⟩
    refine ⟨_, rfl, .inl ⟨v, rfl, nv, fun e ne => ⟨true, T.exm_InvalidProblem_InvalidProblem, fun _ a na => ?_, fun z => nomatch z⟩⟩⟩
    exact ⟨_, rfl, rfl, rfl, e, _, rfl, upd_same, lenk 2 rfl (by decide), fun l nl => q l _ ((Same.new ne).trans (Same.new nl)) (Same.none (Same.new ne) nl) upd_same⟩

end K38
namespace K38
open PySem PySem.Spec PyProof.Rows L2 TL
/-! ### making a problem, read; lists that change elsewhere -/
def Tup (H : Hp) : Addr → Prop := fun a => ∃ vs, H a = some (.tup vs)
theorem isTupI.tp {H : Hp} {G : Addr → Prop} {x : V} {ns : List Int} (h : isTupI H G x ns) : isTupI H (Tup H) x ns := by
  obtain ⟨t, e, _, h⟩ := h
  exact ⟨t, e, ⟨_, h⟩, h⟩
theorem isPair.tp {H : Hp} {G : Addr → Prop} {x : V} {q : Str × Int} (h : isPair H G x q) : isPair H (Tup H) x q := by
  obtain ⟨t, e, _, h⟩ := h
  exact ⟨t, e, ⟨_, h⟩, h⟩
theorem isEnt.tp {H : Hp} {F G : Addr → Prop} {q : Ent} {r : Row} (h : isEnt H F G q r) : isEnt H F (Tup H) q r := by
  obtain ⟨e, f1, f2, h1, ys, out, h2, s, pd⟩ := h
  exact ⟨e, f1, f2, h1, ys, out, h2, s, Paired.mono (fun _ _ z => z.tp) pd⟩
theorem IsP.tp {C : Addr} {H : Hp} {F G : Addr → Prop} {p : Addr} {L : List (Str × Int)} {R : List Row} (h : IsP C H F G p L R) : IsP C H F (Tup H) p L R := by
  obtain ⟨dx, av, ds, dp, ae, dsc, dbt, dn, E, xs, es, hp, f, ⟨h1, h2⟩, h3, ⟨h4, h5, h6⟩, h7, h8⟩ := h
  exact ⟨dx, av, ds, dp, ae, dsc, dbt, dn, E, xs, es, hp, f, ⟨h1, Paired.mono (fun _ _ z => z.tp) h2⟩, h3, ⟨h4, h5, Paired.mono (fun _ _ z => z.tp) h6⟩, h7, h8⟩
theorem IsP.chg {C : Addr} {H H' : Hp} {F G W : Addr → Prop} {p : Addr} {L : List (Str × Int)} {R : List Row} (h : IsP C H F G p L R) (m : Mv (fun x => W x ∧ ∃ zs, H x = some (.lst zs)) H H') (d : ∀ a, F a → ¬ W a) : IsP C H' F (Tup H) p L R :=
  h.tp.mv m (fun a f w => d a f w.1) fun a ⟨vs, e⟩ ⟨_, zs, e'⟩ => by rw [e] at e'; cases e'
theorem mkP {K : PySem.W.Frag} {C : Addr} {H : Hp} {Post : Addr → Hp → Prop} {E : XK} {a e : Addr} {xs ys : List V} {L : List (Str × Int)} {R : List Row} {F G G' : Addr → Prop} {vs dvs : List V} (hA : Sq K H a xs) (pdL : Paired (isPair H G) xs L) (okL : VarsOk L) (hE : Sq K H e ys) (pdR : Paired (isRow H F G') ys R) (okR : EvsOk L R)
    (q : ∀ p H', Same H H' → H p = none → IsP C H' (New H) (Old H) p L R → Post p H') (hv : vs ++ dvs = [.ref a, .ref e] := by rfl) :
    ∀ x dx, H x = none → H dx = none → dx ≠ x → sp_pinit K C (.ref x :: (vs ++ dvs)) (upd (upd H dx (.own x)) x (.ins C dx [])) (fun v H2 => v = .non ∧ Post x H2) E := by
  intro x dx nx ndx ne
  rw [hv]
  exact ⟨H, x, dx, a, e, xs, ys, L, R, rfl, upd_same, nx, Same.upd_p (Same.new ndx) nx, hA, Paired.mono (fun _ _ z => z.old) pdL, okL, hE, Paired.mono (fun _ _ z => z.old) pdR, okR, fun H' s hP => ⟨rfl, q x H' s nx hP⟩⟩
theorem IsP.at {C : Addr} {H : Hp} {F G : Addr → Prop} {p : Addr} {L : List (Str × Int)} {R : List Row} (h : IsP C H F G p L R) : ∃ dx fs, H p = some (.ins C dx fs) ∧ ∀ m : Str, ([("_neighbors" : Str), "_bad_tuples", "_scopes", "_events", "_places", "_sizes", "_variables"].all fun k => decide (¬ m = k)) = true → fs.lookup m = none := by
  obtain ⟨dx, av, ds, dp, ae, dsc, dbt, dn, E, xs, es, hp, _⟩ := h
  exact ⟨dx, _, hp, fun m hm => pfl_no _ _ _ _ _ _ _ hm⟩

end K38
namespace K38
open PySem PySem.Spec PyProof.Rows L2 TL
/-! ### what is shown: its bounds -/
theorem okd_nm {s : Str} (h : NameOk s) : OkD 82 0 (.str s) := okd_str (n := 8) (fun c hc => by have := h.2.2 c hc; exact Nat.lt_of_le_of_lt this.2 (by decide)) h.2.1
theorem okd_nms {l : List Str} {m : Nat} (h : ∀ s ∈ l, NameOk s) (hm : l.length ≤ m) : OkD (m * 84 + 3) 1 (.list (l.map PyData.str)) := okd_list (B := 82) (fun d hd => by
  obtain ⟨s, hs, rfl⟩ := List.mem_map.mp hd; exact okd_nm (h s hs)) (by rw [List.length_map]; exact hm)
theorem okd_nmt {l : List Str} {m : Nat} (h : ∀ s ∈ l, NameOk s) (hm : l.length ≤ m) : OkD (m * 84 + 3) 1 (.tuple (l.map PyData.str)) := okd_tuple (B := 82) (fun d hd => by
  obtain ⟨s, hs, rfl⟩ := List.mem_map.mp hd; exact okd_nm (h s hs)) (by rw [List.length_map]; exact hm)
theorem okd_tup {ns : List Int} {m : Nat} (h : ∀ v ∈ ns, v.natAbs < 10 ^ 500) (hm : ns.length ≤ m) : OkD (m * 503 + 3) 1 (tupD ns) := okd_tuple (B := 501) (fun d hd => by
  obtain ⟨s, hs, rfl⟩ := List.mem_map.mp hd; exact okd_int (h s hs)) (by rw [List.length_map]; exact hm)
theorem small500 {v : Int} (h : 0 ≤ v ∧ v ≤ 100) : v.natAbs < 10 ^ 500 := Nat.lt_of_lt_of_le (show v.natAbs < 10 ^ 3 by show _ < 1000; omega) (Nat.pow_le_pow_right (by decide) (by decide))
theorem okd_pair {q : Str × Int} (h : NameOk q.1) (h2 : 1 ≤ q.2 ∧ q.2 ≤ 6) : OkD 1009 1 (pairD q) := okd_tuple (B := 501) (m := 2) (allC ((okd_nm h).mono (by decide) (by decide)) (all1 (okd_int (small500 (by omega))))) (Nat.le_refl 2)
theorem okd_vars {L : List (Str × Int)} (h : VarsOk L) : OkD 8091 2 (.list (L.map pairD)) := okd_list (B := 1009) (m := 8) (fun d hd => by
  obtain ⟨q, hq, rfl⟩ := List.mem_map.mp hd; exact okd_pair (h.nm q hq) (h.sz q hq)) (by rw [List.length_map]; exact h.few)
theorem okd_row {L : List (Str × Int)} (hL : VarsOk L) {r : Row} (h : RowOk L r) : OkD 72630 3 (rowD r) := by
  have e1 : OkD 24207 2 (.str r.1) := (okd_nm h.nm).mono (by decide) (by decide)
  have e2 : OkD 24207 2 (.list (r.2.1.map PyData.str)) := (okd_nms (fun s hs => by
    obtain ⟨w, hw, e⟩ := List.mem_map.mp (h.sub s hs)
    exact e ▸ hL.nm w hw) h.few).mono (by decide) (by decide)
  have e3 : OkD 24207 2 (.list (r.2.2.map tupD)) := okd_list (B := 2015) (m := 12) (fun d hd => by
    obtain ⟨ns, hn, rfl⟩ := List.mem_map.mp hd
    have l4 := h.bl ns hn
    have f4 := h.few
    refine okd_tup (m := 4) (fun v hv => ?_) (by omega)
    obtain ⟨i, hi⟩ := List.mem_iff_getElem?.mp hv
    obtain ⟨li, _⟩ := List.getElem?_eq_some_iff.mp hi
    have hx : r.2.1[i]? = some (r.2.1[i]'(by omega)) := List.getElem?_eq_getElem (by omega)
    have := h.bv ns hn i _ v hx hi
    have s6 := (sizes_val hL (h.sub _ (List.mem_of_getElem? hx))).2.2
    exact small500 (by omega)) (by rw [List.length_map]; exact h.bfew)
  exact okd_tuple (B := 24207) (m := 3) (allC e1 (allC e2 (all1 e3))) (Nat.le_refl 3)
theorem okd_rows {L : List (Str × Int)} (hL : VarsOk L) {R : List Row} (h : EvsOk L R) : OkD 581059 4 (.list (R.map rowD)) := okd_list (B := 72630) (m := 8) (fun d hd => by
  obtain ⟨q, hq, rfl⟩ := List.mem_map.mp hd; exact okd_row hL (h.ok q hq)) (by rw [List.length_map]; exact h.few)
def whyD (d : PyData) : PyData := .list [.str (Str.ofString "problem"), d]
theorem fine_why {d : PyData} {B k : Nat} (h : OkD B k d) (hB : B ≤ 2000000) (hk : k ≤ 10) : Fine (whyD d) := by
  have e : OkD 2000000 10 (.str (Str.ofString "problem")) := (okd_str (n := 7) (cpOk_of _) (by decide)).mono (by decide) (by decide)
  exact (okd_list (m := 2) (allC e (all1 (h.mono hB hk))) (Nat.le_refl 2)).fine (by decide) (by decide)
def dC (R : List Row) (g : List Nat) : PyData := .tuple ((tN R g).map PyData.str)
theorem dxa_ints {K : PySem.W.Frag} {H : Hp} : ∀ zs : List Int, DxAll K H (zs.map V.int) (zs.map PyData.int)
  | [] => .nil
  | z :: r => .cons (.int z) (dxa_ints r)
theorem dxa_strs {K : PySem.W.Frag} {H : Hp} : ∀ l : List Str, DxAll K H (l.map V.str) (l.map PyData.str)
  | [] => .nil
  | s :: l => .cons (.str s) (dxa_strs l)
theorem dxa_cs {K : PySem.W.Frag} {R : List Row} {H : Hp} : ∀ {xs : List V} {gs : List (List Nat)}, Paired (isC R H) xs gs → DxAll K H xs (gs.map (dC R))
  | _, _, .nil => .nil
  | _, _, .cons ⟨t, e, h⟩ r => by
    subst e
    exact .cons (.tup (.inl (.inl h)) (dxa_strs _)) (dxa_cs r)
theorem dxa_pairs {K : PySem.W.Frag} {H : Hp} {G : Addr → Prop} : ∀ {xs : List V} {L : List (Str × Int)}, Paired (isPair H G) xs L → DxAll K H xs (L.map pairD)
  | _, _, .nil => .nil
  | _, _, .cons ⟨t, e, _, h⟩ r => by
    subst e
    exact .cons (.tup (.inl (.inl h)) (.cons (.str _) (.cons (.int _) .nil))) (dxa_pairs r)
theorem dxa_tups {K : PySem.W.Frag} {H : Hp} {G : Addr → Prop} : ∀ {xs : List V} {L : List (List Int)}, Paired (isTupI H G) xs L → DxAll K H xs (L.map tupD)
  | _, _, .nil => .nil
  | _, _, .cons ⟨t, e, _, h⟩ r => by
    subst e
    exact .cons (.tup (.inl (.inl h)) (dxa_ints _)) (dxa_tups r)
theorem dxa_rows {K : PySem.W.Frag} {H : Hp} {F G : Addr → Prop} : ∀ {xs : List V} {R : List Row}, Paired (isRowS H F G) xs R → DxAll K H xs (R.map rowD)
  | _, _, .nil => .nil
  | _, _, .cons ⟨p, a, b, ys, e, _, h, la, lb, hp⟩ r => by
    subst e
    exact .cons (.tup (.inl (.inl h)) (.cons (.str _) (.cons (.lst (SqL.of la.2) (dxa_strs _)) (.cons (.lst (SqL.of lb.2) (dxa_tups hp)) .nil)))) (dxa_rows r)
theorem fine_cs {R : List Row} (ok : ∀ r ∈ R, NameOk r.1) {gs : List (List Nat)} (h : ∀ g ∈ gs, g.length ≤ 8 ∧ ∀ j ∈ g, j < R.length) (l : gs.length ≤ 256) : Fine (.list (gs.map (dC R))) :=
  (okd_list (B := 8 * 84 + 3) (m := 256) (k := 1) (fun d hd => by
    obtain ⟨g, hg, rfl⟩ := List.mem_map.mp hd
    refine okd_nmt (fun s hs => ?_) (by unfold tN; rw [List.length_map]; exact (h g hg).1)
    obtain ⟨j, hj, rfl⟩ := List.mem_map.mp (show s ∈ g.map (nmR R) from hs)
    have lj := (h g hg).2 j hj
    rw [nmR_at (List.getElem?_eq_getElem lj)]
    exact ok _ (List.getElem_mem lj)) (by rw [List.length_map]; exact l)).fine (by decide) (by decide)

end K38
namespace K38
open PySem PySem.Spec PyProof.Rows L2 TL
/-! ### the law -/
/-- a row of tuples alone -/
def isRowT (H : Hp) (x : V) (r : Row) : Prop := ∃ p a b ys, x = .ref p ∧ H p = some (.tup [.str r.1, .ref a, .ref b]) ∧ H a = some (.tup (r.2.1.map V.str)) ∧ H b = some (.tup ys) ∧ Paired (isTupI H (fun _ => True)) ys r.2.2
theorem isRowT.same {H H' : Hp} {x : V} {r : Row} (h : isRowT H x r) (s : Same H H') : isRowT H' x r := by
  obtain ⟨p, a, b, ys, e, h1, h2, h3, h4⟩ := h
  exact ⟨p, a, b, ys, e, s _ _ h1, s _ _ h2, s _ _ h3, Paired.mono (fun _ _ z => isTupI.same z s) h4⟩
theorem isRowT.mv {H H' : Hp} {x : V} {r : Row} {D : Addr} {o : List V} (h : isRowT H x r) (m : Mv (fun a => a = D) H H') (hD : H D = some (.lst o)) : isRowT H' x r := by
  obtain ⟨p, a, b, ys, e, h1, h2, h3, h4⟩ := h
  refine ⟨p, a, b, ys, e, m _ _ (ne_of h1 hD (by simp)) h1, m _ _ (ne_of h2 hD (by simp)) h2, m _ _ (ne_of h3 hD (by simp)) h3, Paired.mono (fun _ _ z => ?_) h4⟩
  obtain ⟨t, e, n, h⟩ := z
  exact ⟨t, e, n, m _ _ (ne_of h hD (by simp)) h⟩
theorem isRowT.row {H : Hp} {x : V} {r : Row} (h : isRowT H x r) : isRow H (fun _ => True) (fun _ => True) x r := by
  obtain ⟨p, a, b, ys, e, h1, h2, h3, h4⟩ := h
  exact ⟨p, a, b, ys, e, trivial, h1, ⟨trivial, .inr h2⟩, ⟨trivial, .inr h3⟩, h4⟩
theorem easy_ok {L : List (Str × Int)} (ok : VarsOk L) : EvsOk L (L.map fun q => (q.1, [q.1], [[0]])) := by
  refine ⟨by rw [List.length_map]; exact ok.few, fun r hr => ?_, by rw [List.map_map]; exact ok.nd⟩
  obtain ⟨q, hq, rfl⟩ := List.mem_map.mp hr
  have hm : q.1 ∈ L.map (·.1) := List.mem_map.mpr ⟨q, hq, rfl⟩
  refine ⟨ok.nm q hq, by show 1 ≤ 1; decide, by show 1 ≤ 4; decide, fun x hx => by rw [List.mem_singleton.mp hx]; exact hm, by show [q.1].Nodup; simp, by show 1 ≤ 12; decide, by show [[(0 : Int)]].Nodup; simp, fun ns hns => by rw [List.mem_singleton.mp hns]; rfl, fun ns hns i x v h1 h2 => ?_⟩
  rw [List.mem_singleton.mp hns] at h2
  have i0 : i = 0 := by have := (List.getElem?_eq_some_iff.mp h2).1; simpa using this
  subst i0
  cases h1
  cases h2
  have := (sizes_val ok hm).2
  omega
theorem ok_law {P : Program} {w : World} {K : PySem.W.Frag} {mg : Str → Option Value} {base : Heap} (T : Txt P K mg) : FnG P w K mg base CX0 8 T.f_law T.fd_law ["_law_script"] (sp_law K) := by
  refine T.F_law.okG sc_law (fun vs H Q E h => ?_) (fun cdv A outer s H vs Q E hr hG h => ?_)
  · obtain ⟨_, _, rfl, _⟩ := h; rfl
  · obtain ⟨l, ns, rfl, hSE, hlen, q⟩ := h
    refine ⟨_, PSs.nox (pss_cons (ps_for PassesOwn.never rfl (pi_range1 (by rfl) T.n_range (pa_cons (pe_callB (call_max2 rfl) (by rfl) T.n_max (by decide +kernel) (pa_cons pe_int (pa_cons (pe_callB (call_min2 rfl) (by rfl) T.n_min (by decide +kernel) (pa_cons (pe_callB (show CallR _ _ (rLenSeq K) from call_len_seq) (by rfl) T.n_len (by decide +kernel) (pa_cons (pv 0) pa_nil)) (pa_cons pe_int pa_nil))) pa_nil))) pa_nil)) (pg_name (i := 1) sc_law.nd rfl (Or.inl rfl)) (pss_cons (ps_set (i := 2) sc_law.nd rfl (Or.inl rfl) (pe_call (ok_l_box T) (hr.mono (by decide)) (by rfl) T.g_l_box T.F_l_box.kp (b_l_box T) .nil pass0 (pa_cons (pe_call (ok_l_cell T) (hr.mono (by decide)) (by rfl) T.g_l_cell T.F_l_cell.kp (b_l_cell T) .nil pass0 (pa_cons (pv 0) (pa_cons (pv 1) pa_nil))) pa_nil)))
      (pss_cons (ps_asg (pe_call (ok_l_data T) (hr.mono (by decide)) (by rfl) T.g_l_data T.F_l_data.kp (b_l_data T) .nil pass0 (pa_cons (pv 2) (pa_cons (pe_op op_add pe_int (pe_call (ok_l_take T) (hr.mono (by decide)) (by rfl) T.g_l_take T.F_l_take.kp (b_l_take T) .nil pass0 (pa_cons (pv 2) (pa_cons pe_int pa_nil)))) (pa_cons pe_int pa_nil)))) (pg_tup rfl (pgs_cons (pg_name (i := 3) sc_law.nd rfl (Or.inl rfl)) (pgs_cons (pg_name (i := 4) sc_law.nd rfl (Or.inl rfl)) pgs_nil))))
      (Evl.pss_cut (ps_if (pt_cmpR op_eq (pe_call (ok_l_take T) (hr.mono (by decide)) (by rfl) T.g_l_take T.F_l_take.kp (b_l_take T) .nil pass0 (pa_cons (pv 2) (pa_cons pe_int pa_nil))) pe_int (nomark _)) (pss_one (ps_setLc (i := 4) (own := [("_law_name", 12), ("_law_size", 13)]) (g := gTup K 2 (gCons (gName 12) (gCons (gName 13) gNil))) rfl sc_law.nd rfl rfl (sw_true rfl rfl rfl (by decide +kernel)) (pi_list (pv 3)) (blkOk_by (own := [("_law_name", 12), ("_law_size", 13)]) (N := N_law) (sc := defScope s_law) (by decide +kernel)) (fun _ _ _ _ _ => (pg_tup rfl (pgs_cons (pg_name (i := 12) sc_law.nd rfl (Or.inl rfl)) (pgs_cons (pg_name (i := 13) sc_law.nd rfl (Or.inl rfl)) pgs_nil)))) (fun _ _ _ _ _ => pts_nil) (fun _ _ _ _ _ => (pe_tup (pa_cons (pv 12) (pa_cons (pe_lst (pa_cons (pv 12) pa_nil)) (pa_cons (pe_lst (pa_cons (pe_tup (pa_cons pe_int pa_nil)) pa_nil)) pa_nil))))))) pss_nil)
      (pss_cons (ps_set (i := 5) sc_law.nd rfl (Or.inl rfl) (pe_makeS T.mk_Problem (ok_Problem_init T) (hr.mono (by decide)) (by rfl) T.g_Problem (b_Problem_init T) .nil passS0 (pa_cons (pv 3) (pa_cons (pv 4) pa_nil))))
      (pss_cons (ps_set (i := 6) sc_law.nd rfl (Or.inl rfl) (pe_callTy (show CallR _ _ (rTupOf K) from call_tuple_of) (by rfl) T.n_tuple (by decide +kernel) (pa_cons (pe_lc (own := [("_law_title", 14), ("_law_scope", 15), ("_law_bad", 16)]) (g := gTup K 3 (gCons (gName 14) (gCons (gName 15) (gCons (gName 16) gNil)))) rfl sc_law.nd (pi_list (pv 4)) (blkOk_by (own := [("_law_title", 14), ("_law_scope", 15), ("_law_bad", 16)]) (N := N_law) (sc := defScope s_law) (by decide +kernel)) (fun _ _ _ _ _ => (pg_tup rfl (pgs_cons (pg_name (i := 14) sc_law.nd rfl (Or.inl rfl)) (pgs_cons (pg_name (i := 15) sc_law.nd rfl (Or.inl rfl)) (pgs_cons (pg_name (i := 16) sc_law.nd rfl (Or.inl rfl)) pgs_nil))))) (fun _ _ _ _ _ => pts_nil) (fun _ _ _ _ _ => (pe_tup (pa_cons (pv 14) (pa_cons (pe_callTy (show CallR _ _ (rTupOf K) from call_tuple_of) (by rfl) T.n_tuple (by decide +kernel) (pa_cons (pv 15) pa_nil)) (pa_cons (pe_callTy (show CallR _ _ (rTupOf K) from call_tuple_of) (by rfl) T.n_tuple (by decide +kernel) (pa_cons (pv 16) pa_nil)) pa_nil)))))) pa_nil)))
      (pss_cons (ps_set (i := 7) sc_law.nd rfl (Or.inl rfl) (pe_makeS T.mk_Problem (ok_Problem_init T) (hr.mono (by decide)) (by rfl) T.g_Problem (b_Problem_init T) .nil passS0 (pa_cons (pe_callTy (show CallR _ _ (rTupOf K) from call_tuple_of) (by rfl) T.n_tuple (by decide +kernel) (pa_cons (pv 3) pa_nil)) (pa_cons (pv 6) pa_nil))))
      (pss_cons (ps_set (i := 8) sc_law.nd rfl (Or.inl rfl) (pe_call (ok_l_search T) (hr.mono (by decide)) (by rfl) T.g_l_search T.F_l_search.kp (b_l_search T) .nil pass0 (pa_cons (pv 4) pa_nil)))
      (pss_cons (ps_for PassesOwn.never rfl (pi_list (pe_lst (pa_cons (pv 5) (pa_cons (pv 7) (pa_cons (pv 5) pa_nil))))) (pg_name (i := 9) sc_law.nd rfl (Or.inl rfl)) (pss_cons (ps_set (i := 10) sc_law.nd rfl (Or.inl rfl) (pe_call (ok_independent_sets T) (hr.mono (by decide)) (by rfl) T.g_independent_sets T.F_independent_sets.kp (b_independent_sets T) .nil passL (pa_cons (pv 9) pa_nil)))
      (pss_cons (ps_if (pt_cmpR op_ne (pe_callB (show CallR _ _ (rReprD K) from call_reprD hG hr.units T.sm) (by rfl) T.n_repr (by decide +kernel) (pa_cons (pv 10) pa_nil)) (pe_callB (show CallR _ _ (rReprD K) from call_reprD hG hr.units T.sm) (by rfl) T.n_repr (by decide +kernel) (pa_cons (pv 8) pa_nil)) (nomark _)) (pss_one (ps_ret pe_bl)) pss_nil)
      (pss_one (ps_expr (pe_bm0 PySem.F.plainAttrs_list PySem.F.slot_list_clear PySem.F.type_list_clear mt_clear (pv 10)))))))
      (pss_one (ps_for PassesOwn.never rfl (pi_list (pe_lst (pa_cons pe_non (pa_cons pe_bl (pa_cons pe_int (pa_cons pe_str (pa_cons (pe_tup pa_nil) (pa_cons pe_dnewK (pa_cons (pv 3) (pa_cons (pe_tup (pa_cons (pv 3) (pa_cons (pv 4) pa_nil))) pa_nil)))))))))) (pg_name (i := 11) sc_law.nd rfl (Or.inl rfl)) (pss_cons (ps_set (i := 10) sc_law.nd rfl (Or.inl rfl) (pe_call (ok_l_caught T) (hr.mono (by decide)) (by rfl) T.g_l_caught T.F_l_caught.kp (b_l_caught T) .nil pass0 (pa_cons (pv 11) pa_nil)))
      (pss_one (ps_if (pt_cmpR op_ne (pe_callB (show CallR _ _ (rReprD K) from call_reprD hG hr.units T.sm) (by rfl) T.n_repr (by decide +kernel) (pa_cons (pv 10) pa_nil)) (pe_callB (show CallR _ _ (rReprD K) from call_reprD hG hr.units T.sm) (by rfl) T.n_repr (by decide +kernel) (pa_cons (pe_lst (pa_cons pe_str (pa_cons (pv 11) pa_nil))) pa_nil)) (nomark _)) (pss_one (ps_ret pe_bl)) pss_nil))))))))))))))
      (pss_one (ps_ret pe_bl))), ?_⟩
    repeat (first | refine ⟨_, rfl, ?_⟩ | refine ⟨_, _, rfl, rfl, ?_⟩ | refine ⟨_, _, rfl, ?_⟩ | refine ⟨rfl, ?_⟩)
    refine ⟨l, _, rfl, .inl hSE, ?_⟩
    repeat (first | refine ⟨_, rfl, ?_⟩ | refine ⟨_, _, rfl, rfl, ?_⟩ | refine ⟨_, _, rfl, ?_⟩ | refine ⟨rfl, ?_⟩)
    refine ⟨?_, ?_, for_it walk_range (fun i σ H' => Same H H' ∧ ∃ x1 x2 x3 x4 x5 x6 x7 x8 x9 x10 x11 : Option V, σ = [some (.ref l), x1, x2, x3, x4, x5, x6, x7, x8, x9, x10, x11, none, none, none, none, none]) ⟨Same.refl H, _, _, _, _, _, _, _, _, _, _, _, rfl⟩ (fun _ _ _ _ _ => trivial) (fun i x σ Ha' Ha hi pp yy => ?_) (fun σ H' pp => ?_)⟩
    · split <;> omega
    · rw [List.length_map]; split <;> split <;> omega
    · obtain ⟨S0, x1, x2, x3, x4, x5, x6, x7, x8, x9, x10, x11, rfl⟩ := pp
      obtain ⟨rfl, rfl⟩ := yy
      repeat (first | refine ⟨_, rfl, ?_⟩ | refine ⟨_, _, rfl, rfl, ?_⟩ | refine ⟨_, _, rfl, ?_⟩ | refine ⟨rfl, ?_⟩)
      refine ⟨l, ns, _, rfl, (Kp.at fun o e => S0 l o e).1 _ hSE, by omega, fun cv => ?_⟩
      refine ⟨_, rfl, fun b Hb s1 nb hB => ?_⟩
      -- the data
      repeat (first | refine ⟨_, rfl, ?_⟩ | refine ⟨_, _, rfl, rfl, ?_⟩ | refine ⟨_, _, rfl, ?_⟩ | refine ⟨rfl, ?_⟩)
      refine ⟨b, 0, 8, rfl, hB, by omega, by decide, by decide, fun dm Hc f2 b2 dm0 dm1 => ?_⟩
      repeat (first | refine ⟨_, rfl, ?_⟩ | refine ⟨_, _, rfl, rfl, ?_⟩ | refine ⟨_, _, rfl, ?_⟩ | refine ⟨rfl, ?_⟩)
      refine ⟨b, _, 1 + dm, 6, rfl, b2, by omega, by omega, by omega, by decide, by decide, fun p D r xs ys L R Hd f3 hp3 nD nr hD pdL hr' pdR okL okR b3 => ?_⟩
      refine ⟨p, _, rfl, .inl (.inl hp3), rfl, _, _, rfl, _, _, rfl, rfl, ?_⟩
      have sac : Same Ha Hc := fun a o e => f2 a o (ne_of_none e nb) (s1 a o e)
      have nDb : D ≠ b := fun e => nD.2 (by rw [e]; exact List.mem_singleton.mpr rfl)
      have nrb : r ≠ b := fun e => nr.2 (by rw [e]; simp)
      have nrD : r ≠ D := fun e => nr.2 (by rw [e]; simp)
      have l8 := okL.few
      have lxs := pdL.length
      -- other events at times
      refine ⟨fun σ Hf => ∃ (e : Addr) (ys : List V) (R : List Row), σ = [some (.ref l), some (.int (0 + (i : Nat))), some (.ref b), some (.ref D), some (.ref e), x5, x6, x7, x8, x9, x10, x11, none, none, none, none, none] ∧ Fr b Hc Hf ∧ Hf D = some (.lst xs) ∧ Paired (isPair Hf (NewOff Hc [D, b])) xs L ∧
        Hf e = some (.lst ys) ∧ NewOff Hc [D, b] e ∧ Paired (isRowS Hf (NewOff Hc [e, D, b]) (NewOff Hc [e, D, b])) ys R ∧ EvsOk L R, ?_, ?_⟩
      · repeat (first | refine ⟨_, rfl, ?_⟩ | refine ⟨_, _, rfl, rfl, ?_⟩ | refine ⟨_, _, rfl, ?_⟩ | refine ⟨rfl, ?_⟩)
        refine ⟨b, _, 4, rfl, b3, by omega, by decide, by decide, fun d4 He f4 b4 d40 d41 => ?_⟩
        have hDe := f4 D _ nDb hD
        have hre := f4 r _ nrb hr'
        have pdLe := Paired.mono (fun _ _ z => (isPair.wk z (fun a ha => NewOff.sub (by simp) ha) : isPair Hd (NewOff Hc [D, b]) _ _).ml (MvL.fr (by simp) f4)) pdL
        have F4 := f3.trans f4
        repeat (first | refine ⟨_, rfl, ?_⟩ | refine ⟨_, _, rfl, rfl, ?_⟩ | refine ⟨_, _, rfl, ?_⟩ | refine ⟨rfl, ?_⟩)
        refine ite2 (fun _ => ?_) (fun _ => ?_)
        · repeat (first | refine ⟨_, rfl, ?_⟩ | refine ⟨_, _, rfl, rfl, ?_⟩ | refine ⟨_, _, rfl, ?_⟩ | refine ⟨rfl, ?_⟩)
          refine ⟨⟨_, SqL.of hDe⟩, fun V nV => ?_⟩
          have nVb : V ≠ b := (b4.ne nV).symm
          have nVD : V ≠ D := (ne_of_none hDe nV).symm
          have new : ∀ {G : Hp} {a : Addr}, Same He G → G a = none → G V ≠ none → NewOff Hc [V, D, b] a := fun s ha hv => ⟨F4.free (b4.ne (Same.none s ha)).symm (Same.none s ha), by
            simp only [List.mem_cons, List.not_mem_nil, or_false, not_or]
            exact ⟨fun e => hv (e ▸ ha), (ne_of_none (s _ _ hDe) ha).symm, (b4.ne (Same.none s ha)).symm⟩⟩
          refine lc_it (walk_list (K := K) (a := D) (xs := xs)) (fun j H' => ∃ zs, H' V = some (.lst zs) ∧ Paired (isRowS H' (NewOff Hc [V, D, b]) (NewOff Hc [V, D, b])) zs ((L.take j).map fun q => (q.1, [q.1], [[0]])) ∧ Same He H') ⟨[], upd_same, .nil, Same.new nV⟩ (fun j H' _ ⟨_, _, _, h⟩ => SqL.of (h _ _ hDe)) ?_ ?_
          · rintro j x Gw G hj ⟨zs, hV, pz, sG⟩ ⟨rfl, hx⟩
            obtain ⟨z, hz, tp, rfl, ntp, htp⟩ := pd_get pdLe hx
            obtain ⟨lz, ez⟩ := List.getElem?_eq_some_iff.mp hz
            have vne : G V ≠ none := by rw [hV]; simp
            refine ⟨tp, _, rfl, .inl (.inl (sG _ _ htp)), rfl, _, _, rfl, _, _, rfl, rfl, rfl, ?_⟩
            repeat (first | refine ⟨_, rfl, ?_⟩ | refine ⟨_, _, rfl, rfl, ?_⟩ | refine ⟨_, _, rfl, ?_⟩ | refine ⟨rfl, ?_⟩)
            refine ⟨lenk 1 rfl (by decide), fun a1 na1 => ?_⟩
            have ra := new sG na1 vne
            have j1 := Same.new (o := .lst [.str z.1]) na1
            have ha1 : upd G a1 (.lst [.str z.1]) a1 = some (.lst [.str z.1]) := upd_same
            generalize upd G a1 (.lst [.str z.1]) = G1 at j1 ha1
            have hV1 := j1 _ _ hV
            refine ⟨lenk 1 rfl (by decide), fun z1 nz1 => ?_⟩
            have rz := new (sG.trans j1) nz1 (by rw [hV1]; simp)
            have j2 := Same.new (o := .tup [.int 0]) nz1
            have hz1 : upd G1 z1 (.tup [.int 0]) z1 = some (.tup [.int 0]) := upd_same
            generalize upd G1 z1 (.tup [.int 0]) = G2 at j2 hz1
            have hV2 := j2 _ _ hV1
            refine ⟨lenk 1 rfl (by decide), fun c1 nc1 => ?_⟩
            have rc := new ((sG.trans j1).trans j2) nc1 (by rw [hV2]; simp)
            have j3 := Same.new (o := .lst [.ref z1]) nc1
            have hc1 : upd G2 c1 (.lst [.ref z1]) c1 = some (.lst [.ref z1]) := upd_same
            generalize upd G2 c1 (.lst [.ref z1]) = G3 at j3 hc1
            have hV3 := j3 _ _ hV2
            refine ⟨lenk 3 rfl (by decide), fun t1 nt1 => ?_⟩
            have rt := new (((sG.trans j1).trans j2).trans j3) nt1 (by rw [hV3]; simp)
            have j4 := Same.new (o := .tup [.str z.1, .ref a1, .ref c1]) nt1
            have ht1 : upd G3 t1 (.tup [.str z.1, .ref a1, .ref c1]) t1 = some (.tup [.str z.1, .ref a1, .ref c1]) := upd_same
            generalize upd G3 t1 (.tup [.str z.1, .ref a1, .ref c1]) = G4 at j4 ht1
            have hV4 := j4 _ _ hV3
            have j14 := ((j1.trans j2).trans j3).trans j4
            have lzs := pz.length
            rw [List.length_map, List.length_take] at lzs
            have mV : MvL [V, D, b] G4 (upd G4 V (.lst (zs ++ [.ref t1]))) := MvL.upd (by simp)
            refine ⟨zs, hV4, by rw [sizeLine_eq]; omega, zs ++ [.ref t1], upd_same, ?_, Same.upd_p (sG.trans j14) nV⟩
            rw [take_snoc lz, ez, List.map_append]
            exact Paired.snoc (Paired.mono (fun _ _ w => isRowS.ml (isRowS.same w j14) mV) pz) ⟨t1, a1, c1, [.ref z1], rfl, rt, mV _ _ rt.2 ht1, ⟨ra, mV _ _ ra.2 (((j2.trans j3).trans j4) _ _ ha1)⟩, ⟨rc, mV _ _ rc.2 (j4 _ _ hc1)⟩, .cons ⟨z1, rfl, rz, mV _ _ rz.2 ((j3.trans j4) _ _ hz1)⟩ .nil⟩
          · rintro G ⟨zs, hV, pz, sG⟩
            rw [lxs, List.take_length] at pz
            exact ⟨V, zs, _, rfl, F4.trans (Fr.of_same sG), sG _ _ hDe, Paired.mono (fun _ _ z => z.same sG) pdLe, hV, ⟨F4.free nVb nV, by simpa using ⟨nVD, nVb⟩⟩, pz, easy_ok okL⟩
        · exact ⟨r, ys, R, rfl, F4, hDe, pdLe, hre, ⟨nr.1, by simpa using ⟨nrD, nrb⟩⟩, Paired.mono (fun _ _ z => z.ml (MvL.fr (by simp) f4)) pdR, okR⟩
      · rintro σ Hf ⟨e, ys, R, rfl, fcf, hD, pdL, he, ne, pdR, okR⟩
        have rowsN : Paired (isRow Hf (fun _ => True) (fun _ => True)) ys R := Paired.mono (fun _ _ z => (z.row).wk (fun _ _ => trivial) fun _ _ => trivial) pdR
        repeat (first | refine ⟨_, rfl, ?_⟩ | refine ⟨_, _, rfl, rfl, ?_⟩ | refine ⟨_, _, rfl, ?_⟩ | refine ⟨rfl, ?_⟩)
        refine mkP (.inl hD) pdL okL (.inl he) rowsN okR fun p1 Hg sfg np1 hP1 => ?_
        have he_g := sfg _ _ he
        have hD_g := sfg _ _ hD
        have pdRg := Paired.mono (fun _ _ z => isRowS.same z sfg) pdR
        have pdLg := Paired.mono (fun _ _ z => isPair.same z sfg) pdL
        have r8 := okR.few
        have lys := pdR.length
        -- the rows as tuples
        repeat (first | refine ⟨_, rfl, ?_⟩ | refine ⟨_, _, rfl, rfl, ?_⟩ | refine ⟨_, _, rfl, ?_⟩ | refine ⟨rfl, ?_⟩)
        refine ⟨⟨_, SqL.of he_g⟩, fun B0 nB0 => ?_⟩
        refine lc_it (walk_list (K := K) (a := e) (xs := ys)) (fun j H' => ∃ zs, H' B0 = some (.lst zs) ∧ Paired (isRowT H') zs (R.take j) ∧ Same Hg H') ⟨[], upd_same, .nil, Same.new nB0⟩ (fun j H' _ ⟨_, _, _, h⟩ => SqL.of (h _ _ he_g)) ?_ ?_
        · rintro j x Gw G hj ⟨zs, hV, pz, sG⟩ ⟨rfl, hx⟩
          obtain ⟨w, hw, t, a, c, bs, rfl, nt, ht, ⟨na, ha⟩, ⟨nc, hc⟩, pts⟩ := pd_get pdRg hx
          obtain ⟨lw, ew⟩ := List.getElem?_eq_some_iff.mp hw
          refine ⟨t, _, rfl, .inl (.inl (sG _ _ ht)), rfl, _, _, rfl, _, _, rfl, _, _, rfl, rfl, rfl, ?_⟩
          repeat (first | refine ⟨_, rfl, ?_⟩ | refine ⟨_, _, rfl, rfl, ?_⟩ | refine ⟨_, _, rfl, ?_⟩ | refine ⟨rfl, ?_⟩)
          refine ⟨a, _, rfl, .inl ⟨SqL.of (sG _ _ ha), fun a1 na1 => ?_⟩⟩
          have j1 := Same.new (o := .tup (w.2.1.map V.str)) na1
          have ha1 : upd G a1 (.tup (w.2.1.map V.str)) a1 = some (.tup (w.2.1.map V.str)) := upd_same
          generalize upd G a1 (.tup (w.2.1.map V.str)) = G1 at j1 ha1
          repeat (first | refine ⟨_, rfl, ?_⟩ | refine ⟨_, _, rfl, rfl, ?_⟩ | refine ⟨_, _, rfl, ?_⟩ | refine ⟨rfl, ?_⟩)
          refine ⟨c, _, rfl, .inl ⟨SqL.of ((sG.trans j1) _ _ hc), fun c1 nc1 => ?_⟩⟩
          have j2 := Same.new (o := .tup bs) nc1
          have hc1 : upd G1 c1 (.tup bs) c1 = some (.tup bs) := upd_same
          generalize upd G1 c1 (.tup bs) = G2 at j2 hc1
          repeat (first | refine ⟨_, rfl, ?_⟩ | refine ⟨_, _, rfl, rfl, ?_⟩ | refine ⟨_, _, rfl, ?_⟩ | refine ⟨rfl, ?_⟩)
          refine ⟨lenk 3 rfl (by decide), fun t1 nt1 => ?_⟩
          have j3 := Same.new (o := .tup [.str w.1, .ref a1, .ref c1]) nt1
          have ht1 : upd G2 t1 (.tup [.str w.1, .ref a1, .ref c1]) t1 = some (.tup [.str w.1, .ref a1, .ref c1]) := upd_same
          generalize upd G2 t1 (.tup [.str w.1, .ref a1, .ref c1]) = G3 at j3 ht1
          have j13 := (j1.trans j2).trans j3
          have hV3 := j13 _ _ hV
          have mV : Mv (fun a => a = B0) G3 (upd G3 B0 (.lst (zs ++ [.ref t1]))) := fun a o na e => by rw [upd_ne na]; exact e
          have lzs := pz.length
          rw [List.length_take] at lzs
          refine ⟨zs, hV3, by rw [sizeLine_eq]; omega, zs ++ [.ref t1], upd_same, ?_, Same.upd_p (sG.trans j13) nB0⟩
          rw [take_snoc lw, ew]
          exact Paired.snoc (Paired.mono (fun _ _ z => (z.same j13).mv mV hV3) pz) (isRowT.mv ⟨t1, a1, c1, bs, rfl, ht1, (j2.trans j3) _ _ ha1, j3 _ _ hc1, Paired.mono (fun _ _ z => (isTupI.same z (sG.trans j13)).wk (fun _ _ => trivial)) pts⟩ mV hV3)
        rintro G ⟨zs, hV, pz, sG⟩
        rw [lys, List.take_length] at pz
        refine ⟨B0, zs, rfl, .inl ⟨SqL.of hV, fun W nW => ?_⟩⟩
        have sW := Same.new (o := .tup zs) nW
        have hW : upd G W (.tup zs) W = some (.tup zs) := upd_same
        generalize upd G W (.tup zs) = GW at sW hW
        replace pz := Paired.mono (fun _ _ z => isRowT.same z sW) pz
        have sgw := sG.trans sW
        repeat (first | refine ⟨_, rfl, ?_⟩ | refine ⟨_, _, rfl, rfl, ?_⟩ | refine ⟨_, _, rfl, ?_⟩ | refine ⟨rfl, ?_⟩)
        refine ⟨D, _, rfl, .inl ⟨SqL.of (sgw _ _ hD_g), fun U nU => ?_⟩⟩
        have sU := Same.new (o := .tup xs) nU
        have hU : upd GW U (.tup xs) U = some (.tup xs) := upd_same
        generalize upd GW U (.tup xs) = GU at sU hU
        have sgu := sgw.trans sU
        repeat (first | refine ⟨_, rfl, ?_⟩ | refine ⟨_, _, rfl, rfl, ?_⟩ | refine ⟨_, _, rfl, ?_⟩ | refine ⟨rfl, ?_⟩)
        refine mkP (G := fun _ => True) (F := fun _ => True) (G' := fun _ => True) (L := L) (R := R) (.inr (.inl hU)) (Paired.mono (fun _ _ z => (isPair.same z sgu).wk (fun _ _ => trivial)) pdLg) okL (.inr (.inl (sU _ _ hW))) (Paired.mono (fun _ _ z => (isRowT.same z sU).row) pz) okR fun p2 Hh suh np2 hP2 => ?_
        have sgh := sgu.trans suh
        have sfh := sfg.trans sgh
        -- the law's groups
        have pAt : Paired (rowAt Hh) ys R := Paired.mono (fun _ _ z => (isRowS.at z).same sfh) pdR
        have nmR' : ∀ r ∈ R, r.2.1.length ≤ 4 ∧ ∀ x ∈ r.2.1, NameOk x := fun r hr => ⟨(okR.ok r hr).few, fun x hx => by
          obtain ⟨w, hw, rfl⟩ := List.mem_map.mp ((okR.ok r hr).sub x hx)
          exact okL.nm w hw⟩
        repeat (first | refine ⟨_, rfl, ?_⟩ | refine ⟨_, _, rfl, rfl, ?_⟩ | refine ⟨_, _, rfl, ?_⟩ | refine ⟨rfl, ?_⟩)
        refine ⟨e, ys, R, rfl, sfh _ _ he, pAt, okR.few, nmR', fun ex cs Hi shi nex hex pcs => ?_⟩
        have s8f : Same H Hf := fun a o e => fcf a o (ne_of_none (S0 _ _ e) nb) (sac _ _ (S0 _ _ e))
        have sfi := sfh.trans shi
        have sHi := s8f.trans sfi
        have hP1i := hP1.same (sgh.trans shi)
        have hP2i := hP2.same shi
        have fin1 : Fine (.list ((pre (adR R) R.length (R.length + 1)).map (dC R))) := fine_cs (fun r hr => (okR.ok r hr).nm) (fun g hg => by
          obtain ⟨-, g2, g3⟩ := pre_mem hg
          exact ⟨Nat.le_trans (sorted_len g2 g3) r8, g2⟩) (by have := wgt_256 r8 (R.length + 1); omega)
        -- the program's groups, thrice
        repeat (first | refine ⟨_, rfl, ?_⟩ | refine ⟨_, _, rfl, rfl, ?_⟩ | refine ⟨_, _, rfl, ?_⟩ | refine ⟨rfl, ?_⟩)
        refine ⟨lenk 3 rfl (by decide), fun u nu => ?_⟩
        have su := Same.new (o := .lst [.ref p1, .ref p2, .ref p1]) nu
        have hu : upd Hi u (.lst [.ref p1, .ref p2, .ref p1]) u = some (.lst [.ref p1, .ref p2, .ref p1]) := upd_same
        generalize upd Hi u (.lst [.ref p1, .ref p2, .ref p1]) = Hj at su hu
        refine ⟨u, rfl, ⟨_, SqL.of hu⟩, for_it (walk_list (K := K) (a := u) (xs := [.ref p1, .ref p2, .ref p1])) (fun j σ Hx => ∃ x9 x10 : Option V, σ = [some (.ref l), some (.int (0 + (i : Nat))), some (.ref b), some (.ref D), some (.ref e), some (.ref p1), some (.ref W), some (.ref p2), some (.ref ex), x9, x10, x11, none, none, none, none, none] ∧ Same Hj Hx) ⟨_, _, rfl, Same.refl _⟩ ?_ ?_ ?_⟩
        · rintro j σ Hx _ ⟨_, _, rfl, sx⟩
          exact SqL.of (sx _ _ hu)
        · rintro j x σ Hx' Hx hj ⟨x9, x10, rfl, sx⟩ ⟨rfl, hx⟩
          obtain ⟨p, F, G, rfl, hP⟩ : ∃ p F G, x = .ref p ∧ IsP T.C_Problem Hx F G p L R := by
            have s := su.trans sx
            have hm := List.mem_of_getElem? hx
            simp only [List.mem_cons, List.not_mem_nil, or_false] at hm
            rcases hm with rfl | rfl | rfl
            · exact ⟨_, _, _, rfl, hP1i.same s⟩
            · exact ⟨_, _, _, rfl, hP2i.same s⟩
            · exact ⟨_, _, _, rfl, hP1i.same s⟩
          repeat (first | refine ⟨_, rfl, ?_⟩ | refine ⟨_, _, rfl, rfl, ?_⟩ | refine ⟨_, _, rfl, ?_⟩ | refine ⟨rfl, ?_⟩)
          refine .inr ⟨p, F, G, L, R, rfl, hP, okR, fun fl gs m Hy sxy nfl hfl pg lv => ?_⟩
          rw [pre_uniq lv lvl_end] at pg
          have six := (su.trans sx).trans sxy
          refine ⟨_, rfl, _, .list ((pre (adR R) R.length (R.length + 1)).map (dC R)), rfl, .lst (SqL.of hfl) (dxa_cs pg), fin1, ?_⟩
          refine ⟨_, rfl, _, .list ((pre (adR R) R.length (R.length + 1)).map (dC R)), rfl, .lst (SqL.of (six _ _ hex)) (dxa_cs (Paired.mono (fun _ _ z => isC.same z six) pcs)), fin1, ?_⟩
          generalize PyData.shown (.list ((pre (adR R) R.length (R.length + 1)).map (dC R))) = sh
          refine ⟨rfl, _, rfl, ?_⟩
          refine ite2 (fun z => by simp at z) (fun _ => ?_)
          repeat (first | refine ⟨_, rfl, ?_⟩ | refine ⟨_, _, rfl, rfl, ?_⟩ | refine ⟨_, _, rfl, ?_⟩ | refine ⟨rfl, ?_⟩)
          refine ⟨.inl ⟨rfl, _, SqL.of hfl⟩, fl, _, rfl, rfl, hfl, ?_⟩
          exact ⟨_, _, rfl, Same.upd_p (sx.trans sxy) (Same.none sx nfl)⟩
        · rintro σ Hx ⟨x9, x10, rfl, sx⟩
          have sfx := sfi.trans (su.trans sx)
          have hDx := sfx _ _ hD
          have hex' := sfx _ _ he
          have pdLx := Paired.mono (fun _ _ z => isPair.same z sfx) pdL
          have pdRx := Paired.mono (fun _ _ z => isRowS.same z sfx) pdR
          have sHx : Same H Hx := sHi.trans (su.trans sx)
          clear hP1 hP1i hP2 hP2i pAt pcs hex pz hu su
          -- no problem at all, eight times
          repeat (first | refine ⟨_, rfl, ?_⟩ | refine ⟨_, _, rfl, rfl, ?_⟩ | refine ⟨_, _, rfl, ?_⟩ | refine ⟨rfl, ?_⟩)
          refine ⟨Nat.zero_le _, fun e1 ne1 => ?_⟩
          have k1 := Same.new (o := .tup []) ne1
          have h1 : upd Hx e1 (.tup []) e1 = some (.tup []) := upd_same
          generalize upd Hx e1 (.tup []) = K1 at k1 h1
          refine fun d1 nd1 => ?_
          have k2 := Same.new (o := .dK []) nd1
          have h2 : upd K1 d1 (.dK []) d1 = some (.dK []) := upd_same
          generalize upd K1 d1 (.dK []) = K2 at k2 h2
          repeat (first | refine ⟨_, rfl, ?_⟩ | refine ⟨_, _, rfl, rfl, ?_⟩ | refine ⟨_, _, rfl, ?_⟩ | refine ⟨rfl, ?_⟩)
          refine ⟨lenk 2 rfl (by decide), fun t2 nt2 => ?_⟩
          have k3 := Same.new (o := .tup [.ref D, .ref e]) nt2
          have h3 : upd K2 t2 (.tup [.ref D, .ref e]) t2 = some (.tup [.ref D, .ref e]) := upd_same
          generalize upd K2 t2 (.tup [.ref D, .ref e]) = K3 at k3 h3
          refine ⟨lenk 8 rfl (by decide), fun u2 nu2 => ?_⟩
          have k4 := Same.new (o := .lst [.non, .bl true, .int 5, .str (Str.ofString "x"), .ref e1, .ref d1, .ref D, .ref t2]) nu2
          have h4 : upd K3 u2 (.lst [.non, .bl true, .int 5, .str (Str.ofString "x"), .ref e1, .ref d1, .ref D, .ref t2]) u2 = some (.lst [.non, .bl true, .int 5, .str (Str.ofString "x"), .ref e1, .ref d1, .ref D, .ref t2]) := upd_same
          generalize upd K3 u2 (.lst [.non, .bl true, .int 5, .str (Str.ofString "x"), .ref e1, .ref d1, .ref D, .ref t2]) = K4 at k4 h4
          have k14 := ((k1.trans k2).trans k3).trans k4
          have f1 := ((k2.trans k3).trans k4) _ _ h1
          have f2' := (k3.trans k4) _ _ h2
          have f3' := k4 _ _ h3
          have fD := k14 _ _ hDx
          have fe := k14 _ _ hex'
          have fL := Paired.mono (fun _ _ z => isPair.same z k14) pdLx
          have fR := Paired.mono (fun _ _ z => isRowS.same z k14) pdRx
          have odd : ∀ Hz, Same K4 Hz → ∀ x ∈ [V.non, .bl true, .int 5, .str (Str.ofString "x"), .ref e1, .ref d1, .ref D, .ref t2], ∃ d, NotP K T.C_Problem Hz x ∧ Dx K Hz x d ∧ Fine (whyD d) := fun Hz sz x hm => by
            have gL := Paired.mono (fun _ _ z => isPair.same z sz) fL
            have gR := Paired.mono (fun _ _ z => isRowS.same z sz) fR
            simp only [List.mem_cons, List.not_mem_nil, or_false] at hm
            rcases hm with rfl | rfl | rfl | rfl | rfl | rfl | rfl | rfl
            · exact ⟨_, ⟨_, .base .non, T.ow_Problem.fr "NoneType" (by simp [tyNames])⟩, .non, fine_why okd_none (by decide) (by decide)⟩
            · exact ⟨_, ⟨_, .base (.bl _), T.ow_Problem.fr "bool" (by simp [tyNames])⟩, .bl _, fine_why (okd_bool _) (by decide) (by decide)⟩
            · exact ⟨_, ⟨_, .base (.int _), T.ow_Problem.fr "int" (by simp [tyNames])⟩, .int _, fine_why (okd_int (small500 (by omega))) (by decide) (by decide)⟩
            · exact ⟨_, ⟨_, .base (.str _), T.ow_Problem.fr "str" (by simp [tyNames])⟩, .str _, fine_why (okd_str (n := 1) (cpOk_of _) (by decide)) (by decide) (by decide)⟩
            · exact ⟨_, ⟨_, .base (.tup (sz _ _ f1)), T.ow_Problem.fr "tuple" (by simp [tyNames])⟩, .tup (.inl (.inl (sz _ _ f1))) .nil, fine_why (okd_tuple (B := 0) (k := 0) (m := 0) all0 (Nat.le_refl _)) (by decide) (by decide)⟩
            · exact ⟨.dict [], ⟨_, .base (.dK (sz _ _ f2')), T.ow_Problem.fr "dict" (by simp [tyNames])⟩, .dic (.inl (sz _ _ f2')) rfl .nil, fine_why (B := 10) (k := 5) ⟨by simp [PyData.showable, PyData.showableKv], by decide, by decide⟩ (by decide) (by decide)⟩
            · exact ⟨_, ⟨_, .base (.lst (sz _ _ fD)), T.ow_Problem.fr "list" (by simp [tyNames])⟩, .lst (SqL.of (sz _ _ fD)) (dxa_pairs gL), fine_why (okd_vars okL) (by decide) (by decide)⟩
            · exact ⟨_, ⟨_, .base (.tup (sz _ _ f3')), T.ow_Problem.fr "tuple" (by simp [tyNames])⟩, .tup (.inl (.inl (sz _ _ f3'))) (.cons (.lst (SqL.of (sz _ _ fD)) (dxa_pairs gL)) (.cons (.lst (SqL.of (sz _ _ fe)) (dxa_rows gR)) .nil)), fine_why (okd_tuple (B := 581059) (k := 4) (m := 2) (allC ((okd_vars okL).mono (by decide) (by decide)) (all1 (okd_rows okL okR))) (Nat.le_refl 2)) (by decide) (by decide)⟩
          refine ⟨u2, rfl, ⟨_, SqL.of h4⟩, for_it (walk_list (K := K) (a := u2) (xs := [.non, .bl true, .int 5, .str (Str.ofString "x"), .ref e1, .ref d1, .ref D, .ref t2])) (fun j σ Hy => ∃ x10 x11 : Option V, σ = [some (.ref l), some (.int (0 + (i : Nat))), some (.ref b), some (.ref D), some (.ref e), some (.ref p1), some (.ref W), some (.ref p2), some (.ref ex), x9, x10, x11, none, none, none, none, none] ∧ Same K4 Hy) ⟨_, _, rfl, Same.refl _⟩ ?_ ?_ ?_⟩
          · rintro j σ Hy _ ⟨_, _, rfl, sy⟩
            exact SqL.of (sy _ _ h4)
          · rintro j x σ Hy' Hy hj ⟨x10, x11, rfl, sy⟩ ⟨rfl, hx⟩
            obtain ⟨d, nP, dx, fd⟩ := odd Hy sy x (List.mem_of_getElem? hx)
            repeat (first | refine ⟨_, rfl, ?_⟩ | refine ⟨_, _, rfl, rfl, ?_⟩ | refine ⟨_, _, rfl, ?_⟩ | refine ⟨rfl, ?_⟩)
            refine ⟨nP, fun fl Hz syz nfl hfl => ?_⟩
            have dxz := Dx.same syz dx
            refine ⟨_, rfl, _, whyD d, rfl, .lst (SqL.of hfl) (.cons (.str _) (.cons dxz .nil)), fd, ?_⟩
            repeat (first | refine ⟨_, rfl, ?_⟩ | refine ⟨_, _, rfl, rfl, ?_⟩ | refine ⟨_, _, rfl, ?_⟩ | refine ⟨rfl, ?_⟩)
            refine ⟨lenk 2 rfl (by decide), fun v nv => ?_⟩
            have sv := Same.new (o := .lst [.str (Str.ofString "problem"), x]) nv
            refine ⟨_, whyD d, rfl, .lst (SqL.of upd_same) (.cons (.str _) (.cons (Dx.same sv dxz) .nil)), fd, ?_⟩
            generalize PyData.shown (whyD d) = sh
            refine ⟨rfl, _, rfl, ?_⟩
            refine ite2 (fun z => by simp at z) (fun _ => ?_)
            exact ⟨_, _, rfl, (sy.trans syz).trans sv⟩
          · rintro σ Hy ⟨x10, x11, rfl, sy⟩
            exact ⟨sHx.trans (k14.trans sy), _, _, _, _, _, _, _, _, _, _, _, rfl⟩
    · obtain ⟨S0, x1, x2, x3, x4, x5, x6, x7, x8, x9, x10, x11, rfl⟩ := pp
      exact q H'

end K38
namespace K38
open PySem PySem.Spec PyProof.Rows L2 TL
theorem facts {w : World} {K : PySem.W.Frag} {h : Heap} {mg : Str → Option Value} {f : Addr} (X : K.In h) (G : h.Ns mainGlobals mg) (hfa : mg ("law" : Str) = some (.ref f)) (c : PySem.EXV.SaysX file tests fa fn exs K) :
    ∃ fd : FuncData, (∀ (s : Shared) (v : Value), BindsTo s fd ⟨[v], []⟩ [("_law_script", v)]) ∧ ∀ base : Heap, K.In base → base.Ns mainGlobals mg → FnG R.prog w K mg base CX0 8 f fd ["_law_script"] (sp_law K) := by
  obtain ⟨fd0, F0⟩ := c.def_ 0 (d := d_is_list) rfl
  obtain ⟨fd1, F1⟩ := c.def_ 1 (d := d_check_distinct) rfl
  obtain ⟨fd2, F2⟩ := c.def_ 2 (d := d_is_name) rfl
  obtain ⟨fd3, F3⟩ := c.def_ 3 (d := d_is_any_integer) rfl
  obtain ⟨fd4, F4⟩ := c.def_ 4 (d := d_is_integer) rfl
  obtain ⟨fd5, F5⟩ := c.def_ 5 (d := d_Problem_init) rfl
  obtain ⟨fd6, F6⟩ := c.def_ 6 (d := d_Problem_events) rfl
  obtain ⟨fd7, F7⟩ := c.def_ 7 (d := d_Problem_neighbors) rfl
  obtain ⟨fd8, F8⟩ := c.def_ 8 (d := d_Problem_is_event) rfl
  obtain ⟨fd9, F9⟩ := c.def_ 9 (d := d_Problem_check_event) rfl
  obtain ⟨fd10, F10⟩ := c.def_ 10 (d := d_check_problem) rfl
  obtain ⟨fd11, F11⟩ := c.def_ 11 (d := d__neighbors_of) rfl
  obtain ⟨fd12, F12⟩ := c.def_ 12 (d := d__are_values) rfl
  obtain ⟨fd13, F13⟩ := c.def_ 13 (d := d__check_variables) rfl
  obtain ⟨fd14, F14⟩ := c.def_ 14 (d := d__is_variable_row) rfl
  obtain ⟨fd15, F15⟩ := c.def_ 15 (d := d__check_events) rfl
  obtain ⟨fd16, F16⟩ := c.def_ 16 (d := d__is_event_row) rfl
  obtain ⟨fd17, F17⟩ := c.def_ 17 (d := d__check_scope) rfl
  obtain ⟨fd18, F18⟩ := c.def_ 18 (d := d__check_variable) rfl
  obtain ⟨fd19, F19⟩ := c.def_ 19 (d := d__are_bad_tuples) rfl
  obtain ⟨fd20, F20⟩ := c.def_ 20 (d := d_independent_tuples) rfl
  obtain ⟨fd21, F21⟩ := c.def_ 21 (d := d__with_one_more) rfl
  obtain ⟨fd22, F22⟩ := c.def_ 22 (d := d_independent_sets) rfl
  obtain ⟨fd23, F23⟩ := c.def_ 23 (d := d_l_cell) rfl
  obtain ⟨fd24, F24⟩ := c.def_ 24 (d := d_l_box) rfl
  obtain ⟨fd25, F25⟩ := c.def_ 25 (d := d_l_take) rfl
  obtain ⟨fd26, F26⟩ := c.def_ 26 (d := d_l_names) rfl
  obtain ⟨fd27, F27⟩ := c.def_ 27 (d := d_l_data) rfl
  obtain ⟨fd28, F28⟩ := c.def_ 28 (d := d_l_meet) rfl
  obtain ⟨fd29, F29⟩ := c.def_ 29 (d := d_l_search) rfl
  obtain ⟨fd30, F30⟩ := c.def_ 30 (d := d_l_caught) rfl
  obtain ⟨fd31, F31⟩ := c.def_ 31 (d := d_law) rfl
  have e := hfa.symm.trans (He.glo_ok X G (c.fact 26 (f := .glo "law") rfl))
  cases e
  have b := FunD.bindsA (ps := ["_law_script"]) F31 fun _ _ _ _ _ _ us hl => match us, hl with | [_], _ => rfl
  let T : Txt R.prog K mg := {
    C_Problem := _, g_Problem := He.glo_ok X G (c.fact 27 (f := .glo "Problem") rfl),
    C_InvalidProblem := _, I_InvalidProblem := _, x_InvalidProblem := c.exc X G rfl (by kernel_rfl) 0 (d := x_InvalidProblem) rfl (fun _ _ _ _ _ _ _ _ => rfl),
    f_is_list := _, fd_is_list := fd0, F_is_list := F0, g_is_list := He.glo_ok X G (c.fact 0 (f := .glo "is_list") rfl),
    f_check_distinct := _, fd_check_distinct := fd1, F_check_distinct := F1, g_check_distinct := He.glo_ok X G (c.fact 1 (f := .glo "check_distinct") rfl),
    f_is_name := _, fd_is_name := fd2, F_is_name := F2, g_is_name := He.glo_ok X G (c.fact 2 (f := .glo "is_name") rfl),
    f_is_any_integer := _, fd_is_any_integer := fd3, F_is_any_integer := F3, g_is_any_integer := He.glo_ok X G (c.fact 3 (f := .glo "is_any_integer") rfl),
    f_is_integer := _, fd_is_integer := fd4, F_is_integer := F4, g_is_integer := He.glo_ok X G (c.fact 4 (f := .glo "is_integer") rfl),
    f_Problem_init := _, fd_Problem_init := fd5, F_Problem_init := F5,
    f_Problem_events := _, fd_Problem_events := fd6, F_Problem_events := F6, m_Problem_events := He.meth_ok (c.fact 28 (f := .meth "Problem" "events") rfl),
    f_Problem_neighbors := _, fd_Problem_neighbors := fd7, F_Problem_neighbors := F7, m_Problem_neighbors := He.meth_ok (c.fact 29 (f := .meth "Problem" "neighbors") rfl),
    f_Problem_is_event := _, fd_Problem_is_event := fd8, F_Problem_is_event := F8, m_Problem_is_event := He.meth_ok (c.fact 30 (f := .meth "Problem" "is_event") rfl),
    f_Problem_check_event := _, fd_Problem_check_event := fd9, F_Problem_check_event := F9, m_Problem_check_event := He.meth_ok (c.fact 31 (f := .meth "Problem" "check_event") rfl),
    f_check_problem := _, fd_check_problem := fd10, F_check_problem := F10, g_check_problem := He.glo_ok X G (c.fact 5 (f := .glo "check_problem") rfl),
    f__neighbors_of := _, fd__neighbors_of := fd11, F__neighbors_of := F11, g__neighbors_of := He.glo_ok X G (c.fact 6 (f := .glo "_neighbors_of") rfl),
    f__are_values := _, fd__are_values := fd12, F__are_values := F12, g__are_values := He.glo_ok X G (c.fact 7 (f := .glo "_are_values") rfl),
    f__check_variables := _, fd__check_variables := fd13, F__check_variables := F13, g__check_variables := He.glo_ok X G (c.fact 8 (f := .glo "_check_variables") rfl),
    f__is_variable_row := _, fd__is_variable_row := fd14, F__is_variable_row := F14, g__is_variable_row := He.glo_ok X G (c.fact 9 (f := .glo "_is_variable_row") rfl),
    f__check_events := _, fd__check_events := fd15, F__check_events := F15, g__check_events := He.glo_ok X G (c.fact 10 (f := .glo "_check_events") rfl),
    f__is_event_row := _, fd__is_event_row := fd16, F__is_event_row := F16, g__is_event_row := He.glo_ok X G (c.fact 11 (f := .glo "_is_event_row") rfl),
    f__check_scope := _, fd__check_scope := fd17, F__check_scope := F17, g__check_scope := He.glo_ok X G (c.fact 12 (f := .glo "_check_scope") rfl),
    f__check_variable := _, fd__check_variable := fd18, F__check_variable := F18, g__check_variable := He.glo_ok X G (c.fact 13 (f := .glo "_check_variable") rfl),
    f__are_bad_tuples := _, fd__are_bad_tuples := fd19, F__are_bad_tuples := F19, g__are_bad_tuples := He.glo_ok X G (c.fact 14 (f := .glo "_are_bad_tuples") rfl),
    f_independent_tuples := _, fd_independent_tuples := fd20, F_independent_tuples := F20, g_independent_tuples := He.glo_ok X G (c.fact 15 (f := .glo "independent_tuples") rfl),
    f__with_one_more := _, fd__with_one_more := fd21, F__with_one_more := F21, g__with_one_more := He.glo_ok X G (c.fact 16 (f := .glo "_with_one_more") rfl),
    f_independent_sets := _, fd_independent_sets := fd22, F_independent_sets := F22, g_independent_sets := He.glo_ok X G (c.fact 17 (f := .glo "independent_sets") rfl),
    f_l_cell := _, fd_l_cell := fd23, F_l_cell := F23, g_l_cell := He.glo_ok X G (c.fact 18 (f := .glo "_law_cell") rfl),
    f_l_box := _, fd_l_box := fd24, F_l_box := F24, g_l_box := He.glo_ok X G (c.fact 19 (f := .glo "_law_box") rfl),
    f_l_take := _, fd_l_take := fd25, F_l_take := F25, g_l_take := He.glo_ok X G (c.fact 20 (f := .glo "_law_take") rfl),
    f_l_names := _, fd_l_names := fd26, F_l_names := F26, g_l_names := He.glo_ok X G (c.fact 21 (f := .glo "_law_names") rfl),
    f_l_data := _, fd_l_data := fd27, F_l_data := F27, g_l_data := He.glo_ok X G (c.fact 22 (f := .glo "_law_data") rfl),
    f_l_meet := _, fd_l_meet := fd28, F_l_meet := F28, g_l_meet := He.glo_ok X G (c.fact 23 (f := .glo "_law_meet") rfl),
    f_l_search := _, fd_l_search := fd29, F_l_search := F29, g_l_search := He.glo_ok X G (c.fact 24 (f := .glo "_law_search") rfl),
    f_l_caught := _, fd_l_caught := fd30, F_l_caught := F30, g_l_caught := He.glo_ok X G (c.fact 25 (f := .glo "_law_caught") rfl),
    f_law := _, fd_law := fd31, F_law := F31, g_law := He.glo_ok X G (c.fact 26 (f := .glo "law") rfl),
    cl_Problem := He.cls_ok (c.fact 48 (f := .cls "Problem") rfl),
    mk_Problem := He.mkr_ok (c.fact 49 (f := .mkr "Problem") rfl),
    na_Problem__variables := He.noat_ok (c.fact 50 (f := .noat "Problem" "_variables") rfl),
    na_Problem__sizes := He.noat_ok (c.fact 51 (f := .noat "Problem" "_sizes") rfl),
    na_Problem__places := He.noat_ok (c.fact 52 (f := .noat "Problem" "_places") rfl),
    na_Problem__events := He.noat_ok (c.fact 53 (f := .noat "Problem" "_events") rfl),
    na_Problem__scopes := He.noat_ok (c.fact 54 (f := .noat "Problem" "_scopes") rfl),
    na_Problem__bad_tuples := He.noat_ok (c.fact 55 (f := .noat "Problem" "_bad_tuples") rfl),
    na_Problem__neighbors := He.noat_ok (c.fact 56 (f := .noat "Problem" "_neighbors") rfl),
    ow_Problem := ownB_ok (c.test 0 (b := (fun K => ownB K "Problem")) rfl),
    exm_InvalidProblem_InvalidProblem := He.exm_ok (c.fact 57 (f := .exm "InvalidProblem" "InvalidProblem" true) rfl),
    sm := PySem.EXV.smB_ok (c.test 1 (b := PySem.EXV.smB) rfl),
    n_all := He.free_ok X G (c.fact 32 (f := .free "all") rfl),
    n_any := He.free_ok X G (c.fact 33 (f := .free "any") rfl),
    n_bool := He.free_ok X G (c.fact 34 (f := .free "bool") rfl),
    n_enumerate := He.free_ok X G (c.fact 35 (f := .free "enumerate") rfl),
    n_int := He.free_ok X G (c.fact 36 (f := .free "int") rfl),
    n_isinstance := He.free_ok X G (c.fact 37 (f := .free "isinstance") rfl),
    n_len := He.free_ok X G (c.fact 38 (f := .free "len") rfl),
    n_list := He.free_ok X G (c.fact 39 (f := .free "list") rfl),
    n_max := He.free_ok X G (c.fact 40 (f := .free "max") rfl),
    n_min := He.free_ok X G (c.fact 41 (f := .free "min") rfl),
    n_range := He.free_ok X G (c.fact 42 (f := .free "range") rfl),
    n_repr := He.free_ok X G (c.fact 43 (f := .free "repr") rfl),
    n_sorted := He.free_ok X G (c.fact 44 (f := .free "sorted") rfl),
    n_str := He.free_ok X G (c.fact 45 (f := .free "str") rfl),
    n_tuple := He.free_ok X G (c.fact 46 (f := .free "tuple") rfl),
    n_zip := He.free_ok X G (c.fact 47 (f := .free "zip") rfl),
    e0 := _, t_e0 := PySem.EXV.isEB_ok (c.test 4 (b := (fun K => PySem.EXV.isEB K (He.dflAt ("Problem", some "__init__") 0 K))) rfl),
    c_MOST_EVENTS := PySem.EXV.conB_ok X G (c.test 2 (b := (PySem.EXV.conB "MOST_EVENTS" 8)) rfl),
    c_MOST_VARIABLES := PySem.EXV.conB_ok X G (c.test 3 (b := (PySem.EXV.conB "MOST_VARIABLES" 8)) rfl) }
  exact ⟨fd31, fun s v => b s [v] rfl, fun base _ _ => ok_law T⟩

end K38
open PySem PySem.W PySem.Calls PyProof.Rows
set_option maxRecDepth 100000 in
set_option maxHeartbeats 0 in
theorem PySem.Challenge.cw_resampler_k38_independent_sets_listed_holds : PySem.Challenge.rw_resampler_k38_independent_sets_listed.Holds := by
  w_on; o_law
  refine HandSHeadRun.head_any (r := OpenLaw.row PySem.Challenge.rw_resampler_k38_independent_sets_listed) (q := view (OpenLaw.row PySem.Challenge.rw_resampler_k38_independent_sets_listed).prog [46]) (H := K38.hk) (ob := K38.ob) (M := 8000) (loose := K38.loose) (d := HandSHeadRun.topDef (OpenLaw.row PySem.Challenge.rw_resampler_k38_independent_sets_listed).prog 46) (kwd := []) K38.ob_eq
    (by kernel_rfl) (fun s => by kernel_rfl) K38.run (by kernel_rfl) (by kernel_rfl) (by kernel_rfl) (by rfl) (by first | assumption | decide +kernel) (by decide +kernel) ⟨rfl, rfl, rfl, rfl, rfl, by decide +kernel⟩ ?hw ?hc
  case hw => w_witness2
  case hc =>
    refine L2.walk_ofG (l := PySem.Challenge.rw_resampler_k38_independent_sets_listed) (n := 63) (k := 8) (x := "_law_script") (CX := L2.CX0) rfl (by decide) (by kernel_rfl) ⟨rfl, by decide, by decide⟩ ?F (fun _ _ _ _ z => z)
    intro w mg fa h Y G hmg0
    obtain ⟨K, KX, c⟩ := Y
    have hmg : mg ("law" : PySem.Str) = some (.ref fa) := by
      have e : (HandSHeadRun.topDef (OpenLaw.row PySem.Challenge.rw_resampler_k38_independent_sets_listed).prog 46).name = ("law" : PySem.Str) := by kernel_rfl
      rw [← e]
      exact hmg0
    obtain ⟨fd, hb, hF⟩ := K38.facts (w := w) KX G hmg c
    exact ⟨K, fd, K38.sp_law K, KX, hb, fun H a ns hl _ hS => ⟨a, ns, rfl, hS, hl, fun _ => rfl⟩, hF⟩

