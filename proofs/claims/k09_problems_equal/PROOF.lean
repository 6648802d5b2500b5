import PyProof.Rows.All
import Wide.All
import OpenK.AllK
import Wide.FinOn
import KE.KStateDown
import HandS.ForMost
import HandS.WordsExc
import HandS.Defaults
import HandS.MakeKwOnly
import HandS.IsInst
import HandS.StrMore
import HandS.Wide
import HandS.Walk
import HandS.Evl
import HandS.Head0
import HandS.Head1
import HandS.Head2
import HandS.HeadEnd
import HandS.HeadHook1
import HandS.HeadHook2
import HandS.Style
import HandS.DictComp
import HandS.Deep
import HandS.Gcd
import HandS.FStr
import HandS.OwnEq
import HandS.Small
import HandS.Head3
import PySem.Challenge.RW_resampler_k09_problems_equal
import KE.KExcSuper
import KE.KExcInit
import PyProof.ExcBaseAll.LookupError
import HandS.ForExc
import HandS.HeadWalk
import HandS.ExcField
import HandS.TryMany
import PyProof.Rows.FactsExc_KeyError
import HandS.Ends
import PyProof.ReprRoads
import PyProof.CallFns
import KE.KCallOwn
import KE.KFmtOwn
import PyProof.InstNe
import PyProof.ReprLen
import HandS.Iter
import KE.GoesMore
import HandS.TupSets
import PyProof.FactsLen
import KE.GoesZip
import HandS.Conv
import HandS.ExcOwn
import PyProof.EqKinds
import PyProof.FactsAll.dict_1
import HandS.List
import HandS.ListItems
import KE.KDictList
import HandS.TupAny
import HandS.Dict
import PyProof.DictUpdate
import PyProof.Rows.SetFrom
import PyProof.SetRoads
set_option Elab.async false
set_option linter.all false
set_option maxRecDepth 100000
set_option maxHeartbeats 0
/-! Own error classes over any base: own classes, then the base's mro. -/
namespace PySem
namespace EXV
open PySem.W PySem.Calls PyProof.Rows PySem.HandSPX Builtin Builtin.ObjectAttr
/-- own classes, then the list T -/
def refsT (T : List Value) : List Value → Bool
  | .ref c :: r => refsT T r || (Value.ref c :: r == T)
  | l => l == T
/-- the base: its facts, its tail -/
structure BaseX (B nw ini : String) (T : List Value) : Prop where
  own : ∀ {prog : Program} {w : World} {A : Around} {R : Result → Shared → Prop} {hp : Heap} {gs : Array GenState} {dr : Drawn} {tk : Nat} {os : OsState} {nm qn : Str} {C N fI : Addr} {bs bm sub rest : List Value}
    {hdct ab : Bool} {sn : List Str} {col : Option Bool} {dd : Option Addr} {k0 k1 k2 k3 k5 : Option Value}, (∀ X : String, bm.contains (.type X) = T.contains (.type X)) →
    hp.get? C = some (excClassObj nm qn C N bs bm hdct sn sub ab col dd k0 k1 k2 k3 k5 nw) → W.Looks (model prog w) hp (typeLookup (.ref C) "__init__") (some (.ref fI)) →
    (∀ self, W.Looks (model prog w) hp (bindSpecial (.ref fI) self) (.ref fI, [self])) → rest.length ≤ sizeLine →
    codeAny (model prog w) (A.under (.builtin "type.__call__" ⟨.ref C :: rest, []⟩)) (.call (.ref fI) ⟨.ref (hp.objs.size + 1) :: rest, []⟩) (W.InitBack (hp.objs.size + 1) R) ⟨(hp.push (W.kdv_tup rest)).push (excO C hp.objs.size), gs, dr, tk, os⟩ →
    codeAny (model prog w) A (.call (.ref C) ⟨rest, []⟩) R ⟨hp, gs, dr, tk, os⟩
  sup : ∀ {prog : Program} {w : World} {A : Around} {E : Value → Shared → Prop} {s : Shared} {h₀ : Heap} {L : Addr} {m : Str → Option Value} {news : List (Addr × Obj)} {K : Frag} {x C u t : Addr} {dv : Option Addr} {c2 : Value}
    {rest : List Value} {nws : Obj → List (Addr × Obj)} {Q : Value → Shared → Prop}, Fr h₀ L s.heap m → K.In h₀ → News h₀ L s.heap news → excInitIn K C T nw = true → (u, kxs_mw ini x) ∈ news → UpdF x (excObj C t dv c2) news nws →
    rest.length ≤ sizeLine → (∀ t' h', Fr h₀ L h' m → News h₀ L h' ((t', excTup rest) :: nws (excObj C t' dv c2)) → (∀ p ∈ news, p.1 < t') → Q .none { s with heap := h' }) → wpAny (model prog w) A (call (.ref u) rest) Q E s
  kx : KxsFacts B ini
  pass : ∀ self, refuseLoop self "__setattr__" T = pure ()
  obj : T.contains (.type "object") = true
  typ : ∀ c r, T ≠ .ref c :: r
  ne : T ≠ []
theorem refsT_cases {T : List Value} (ht : ∀ c r, T ≠ .ref c :: r) (hn : T ≠ []) : ∀ l : List Value, refsT T l = true → (∃ c r, l = .ref c :: r ∧ refsT T r = true) ∨ l = T := by
  intro l h
  cases l with
  | nil => exact .inr (beq_iff_eq.mp h)
  | cons a r =>
    cases a with
    | ref c =>
      rcases Bool.or_eq_true_iff.mp h with h | h
      · exact .inl ⟨c, r, rfl, h⟩
      · exact .inr (beq_iff_eq.mp h)
    | _ => exact .inr (beq_iff_eq.mp h)
theorem refsT_ne {T l : List Value} (hn : T ≠ []) (h : refsT T l = true) : l.isEmpty = false := by
  cases l with
  | nil => exact absurd (beq_iff_eq.mp h).symm hn
  | cons a r => rfl
section
variable {B nw ini : String} {T : List Value} (b : BaseX B nw ini T)
include b
theorem BaseX.passAll (self : Value) : ∀ l : List Value, refsT T l = true → refuseLoop self "__setattr__" l = pure ()
  | [], h => absurd (beq_iff_eq.mp h).symm b.ne
  | a :: r, h => by
    rcases refsT_cases b.typ b.ne (a :: r) h with ⟨c, r', q, h'⟩ | q
    · obtain ⟨rfl, rfl⟩ := List.cons.inj q
      rw [refuseLoop_ref]
      exact BaseX.passAll self r h'
    · rw [q]; exact b.pass self
theorem BaseX.contains (X : String) : ∀ l : List Value, refsT T l = true → l.contains (.type X) = T.contains (.type X)
  | [], h => absurd (beq_iff_eq.mp h).symm b.ne
  | a :: r, h => by
    rcases refsT_cases b.typ b.ne (a :: r) h with ⟨c, r', q, h'⟩ | q
    · obtain ⟨rfl, rfl⟩ := List.cons.inj q
      rw [List.contains_cons, BaseX.contains X r h']
      rfl
    · rw [q]
end
theorem base_ValueError : BaseX "ValueError" "ValueError.__new__" "ValueError.__init__" [.type "ValueError", .type "Exception", .type "BaseException", .type "object"] :=
  ⟨fun hT => call_own PySem.F.excBase_ValueError hT, fun F X N q => kxs_call F X N PySem.F.excBase_ValueError q, kxs_ValueError, PySem.F.store_ValueError.passes, by decide +kernel, (fun _ _ h => nomatch h), (fun h => nomatch h)⟩
theorem base_LookupError : BaseX "LookupError" "LookupError.__new__" "LookupError.__init__" [.type "LookupError", .type "Exception", .type "BaseException", .type "object"] :=
  ⟨fun hT => call_own PySem.F.excBase_LookupError hT, fun F X N q => kxs_call F X N PySem.F.excBase_LookupError q, kxs_LookupError, PySem.F.store_LookupError.passes, by decide +kernel, (fun _ _ h => nomatch h), (fun h => nomatch h)⟩
section
variable {prog : Program} {w : World} {A : Around} {E : Value → Shared → Prop} {R : Result → Shared → Prop} {hp : Heap} {g : Array GenState} {d : Drawn} {t : Nat} {os : OsState} {B nw ini : String} {T : List Value}
/-- x.name = v, x an own exception without a dict -/
theorem exc_osaT (b : BaseX B nw ini T) {K : W.Frag} {name : Str} {tk : Tok} {v : Value} {x C : Addr} {fv : Array Value} {cd : ClassData}
    (X : K.In hp) (hx : hp.get? x = some { cls := .ref C, data := .fields fv }) (hcd : W.clsIn K C = some cd) (hm : refsT T cd.mro = true) (hh : cd.hasDict = true) (ha : W.findIn K (.ref C) name = some none)
    (hq : ∀ h' tk' dx, (∀ b o, b ≠ x → hp.get? b = some o → h'.get? b = some o) → hp.objs.size ≤ dx → dx ≠ x → h'.get? x = some { cls := .ref C, dict := some dx, data := .fields fv } →
      h'.Ns1 dx (fun y => if y = name then some v else none) → R (.ok (.ret .none)) ⟨h', g, d, tk', os⟩) :
    codeAny (model prog w) A (.call (.builtin "object.__setattr__") ⟨[.ref x, .str name tk, v], []⟩) R ⟨hp, g, d, t, os⟩ := by
  have I : W.InstAt hp x { cls := .ref C, data := .fields fv } C none := ⟨hx, rfl, rfl, trivial⟩
  have SF := PySem.F.store_object
  have ne := refsT_ne b.ne hm
  have hob : cd.mro.contains (.type "object") = true := (b.contains "object" _ hm).trans b.obj
  have hxs : x ≠ hp.objs.size := Nat.ne_of_lt (Heap.lt_size hx)
  have sub : W.Looks (model prog w) hp (isInstance (.ref x) (.type "object")) true := I.type.andThen (W.looks_mroIn X (by unfold W.mroIn; rw [hcd, Option.bind_some, if_neg (by rw [ne]; decide), hob]))
  refine codeAny_call_builtin SF.slot.plain SF.entry (@W.check_slot (model prog w) _ _ ⟨hp, g, d, t, os⟩ "object.__setattr__" "object" "__setattr__" (.ref x) [.str name tk, v] [] _ SF.kind SF.split sub (SF.args (.ref x) (.str name tk) v) ?_)
  have hmr : W.Looks (model prog w) hp (mroOf (.ref C)) cd.mro := (W.looks_clsIn X hcd).andThen .now
  have L3 : W.Looks (model prog w) hp (storeTaker? none) none := .now
  have hcls : W.Looks (model prog w) hp (classData C) cd := W.looks_clsIn X hcd
  rw [W.osa_eq, refuse_eq]
  refine wpAny_bind (wpAny_bind (I.type.at (wpAny_bind (hmr.at ?_))))
  rw [b.passAll _ _ hm]
  refine wpAny_pure (wpAny_bind (I.type.at (wpAny_bind ((W.looks_findIn X ha).at (wpAny_bind (L3.at ?_))))))
  show wpAny _ _ (storeInOwnDict (.ref x) (.ref C) (.str name tk) name v false) _ _ _
  obtain ⟨nm, bs, mro, ns, qn, hd, sn, sb, ab, col, del⟩ := cd
  dsimp only at hh
  subst hh
  unfold storeInOwnDict ownDictForStores
  repeat (first | with_reducible refine store_in_new ?_ ?_ | with_reducible refine wpAny_loadPart_at hx ?_ | with_reducible refine hcls.at ?_ | wp_step)
  · exact ⟨_, #[], _, (Heap.get?_update_ne _ _ _ _ hxs.symm).trans (Heap.get?_push_at rfl rfl), rfl, fun e he => absurd he (by simp), fun _ => rfl⟩
  · intro h' tk' hn' hs
    have hx₁ : (hp.push { cls := .type "dict", data := .dict #[] }).get? x = some { cls := .ref C, data := .fields fv } := Heap.get?_push_of_some _ hx
    refine hq h' tk' hp.objs.size (fun b o hb ho => ?_) (Nat.le_refl _) hxs.symm ?_ hn'
    · exact (hs.2 b (Nat.ne_of_lt (Heap.lt_size ho))).trans ((Heap.get?_update_ne _ _ _ _ hb).trans (Heap.get?_push_of_some _ ho))
    · exact (hs.2 x hxs).trans (Heap.get?_update_self _ hx₁ rfl)
end
end EXV
end PySem

/-! An own error class (over own error classes over ValueError) whose __init__ says super().__init__(a text) and then self.FLD = FLD. -/
namespace PySem
namespace EXV
open PySem.W PySem.Calls PyProof.Rows PySem.HandSPX
/-- the text of such an __init__ -/
def xBody (fld txt : Str) (k : Nat) (p : Nat → Pos) : List Stmt :=
  [.Expr (.Call (.Attribute (.Call (.Name "super" (p 0)) [] [] (p 1)) "__init__" (p 2)) [.Constant (.str txt) k (p 3)] [] (p 4)) (p 5),
   .Assign [.Attribute (.Name "self" (p 6)) fld (p 7)] (.Name fld (p 8)) (p 9)]
def xArgs (fld : Str) (p1 p2 : Pos) : Arguments := { posonlyargs := [], args := [{ arg := "self", annotation := none, pos := p1 }, { arg := fld, annotation := none, pos := p2 }], vararg := none, kwonlyargs := [], kw_defaults := [], kwarg := none, defaults := [] }
def xScope (fld : Str) : Scope := { kind := .function, names := [(PySem.Str.ofString "self", .local), (fld, .local), (PySem.Str.ofString "__class__", .free), (PySem.Str.ofString "super", .globalImplicit)], isGenerator := false, isCoroutine := false }
/-- what the written part says of the class at C and its __init__ at fI -/
structure ExcTxt (P : Program) (K : Frag) (mg : Str → Option Value) (x q fld : Str) (C fI : Addr) : Prop where
  gC : mg x = some (.ref C)
  base : ∃ B nw ini T, BaseX B nw ini T ∧ (∃ nm q N bs bm sn sub ab col dd k0 k1 k2 k3 k5, K.lookup C = some (excClassObj nm q C N bs bm true sn sub ab col dd k0 k1 k2 k3 k5 nw) ∧ refsT T bm = true) ∧
    subIn K (.ref C) (.type B) = some true ∧ ks_superIn K C C "__init__" = some (some (.builtin ini)) ∧ excInitIn K C T nw = true
  sa : findIn K (.ref C) "__setattr__" = some (some (.builtin "object.__setattr__"))
  ga : findIn K (.ref C) "__getattribute__" = some (some (.builtin "BaseException.__getattribute__"))
  gg : findIn K (.ref C) "__getattr__" = some none
  noN : findIn K (.ref C) fld = some none
  iC : findIn K (.ref C) "__init__" = some (some (.ref fI))
  tC : typeIn K (.ref fI) = some (.type "function")
  kC : keepIn K (.ref C) = true
  exC : subIn K (.ref C) (.type "BaseException") = some true
  tyC : typeIn K (.ref C) = some (.type "type")
  hdC : hasDictIn K C = true
  self : mroIn K C (.ref C) = some true
  third : nsIn K cStatics "thirdparty.any" = some none
  noS : nsIn K mainGlobals "super" = some none
  fn : ∃ (oc : Value) (od : Option Addr) (doc pm : Value) (an : Option Addr) (cda : Addr) (ct : Value) (osl : Array (Option Value)) (cc : Addr) (txt : Str) (k : Nat) (p : Nat → Pos) (p1 p2 : Pos),
    K.lookup fI = some ⟨oc, od, .func (ksFn "__init__" q (xArgs fld p1 p2) (xBody fld txt k p) (xScope fld) .none .none doc pm an (.ref cda) ct cc), osl⟩ ∧ codeIn K (.ref cda) q = true ∧
    (∃ ccl cdd vs ccs file tf, K.lookup cda = some ⟨ccl, cdd, .fields vs, ccs⟩ ∧ vs[2]? = some (.str file tf) ∧ ((P.main.file : Str) == file) = true) ∧
    ((p 2).endLine == (p 4).line) = true ∧
    (∃ cl cld csl, K.lookup cc = some ⟨cl, cld, .cell (some (.ref C)), csl⟩) ∧
    (∀ a b : Value, bindArgs (ksFn "__init__" q (xArgs fld p1 p2) (xBody fld txt k p) (xScope fld) .none .none doc pm an (.ref cda) ct cc) ⟨[a, b], []⟩ = pure [(("self" : Str), a), (fld, b)])
  fldOk : (fld == ("self" : Str)) = false ∧ (("self" : Str) == fld) = false ∧ (fld == ("__class__" : Str)) = false ∧ (("__class__" : Str) == fld) = false ∧ (fld == ("super" : Str)) = false ∧ (("super" : Str) == fld) = false ∧ (fld == ("__debug__" : Str)) = false
  topS : (P.main.scope.names.lookup ("super" : Str)).isSome = false
/-- what __init__ leaves of a fresh exception at x -/
structure XEnd (h h' : Heap) (x C dx : Addr) (fld : Str) (v : Value) : Prop where
  keep : ∀ b o, b ≠ x → h.get? b = some o → h'.get? b = some o
  obj : ∃ t1, h'.get? x = some { cls := .ref C, dict := some dx, data := .fields #[.ref t1, .none, .none, .none, .bool false, .none] }
  dbig : h.objs.size ≤ dx
  dne : dx ≠ x
  ns : h'.Ns1 dx (fun y => if y = fld then some v else none)
/-- a made exception -/
structure XMade (h h' : Heap) (e C d : Addr) (fld : Str) (v : Value) : Prop where
  keep : ∀ b o, h.get? b = some o → h'.get? b = some o
  new : h.objs.size ≤ e
  obj : ∃ oe vs, h'.get? e = some oe ∧ oe.cls = .ref C ∧ oe.dict = some d ∧ oe.data = .fields vs ∧ vs[1]? = some .none
  dbig : h.objs.size ≤ d
  dne : d ≠ e
  ns : h'.Ns1 d (fun y => if y = fld then some v else none)
theorem one_le_line (v : Value) : [v].length ≤ sizeLine := by
  rw [sizeLine_eq]
  exact (by decide : 1 ≤ 16777216)
section
variable {prog : Program} {w : World} {A : Around} {R : Result → Shared → Prop} {s : Shared} {K : Frag} {mg : Str → Option Value} {C fI : Addr} {nx q fld : Str}
theorem x_init (T : ExcTxt prog K mg nx q fld C fI) {x t0 : Addr} {v : Value} {mb : Str → Option Value} (X : K.In s.heap) (G : s.heap.Ns mainGlobals mg) (Gb : s.heap.Ns builtinsNs mb) (hb : ∀ y : Str, y ≠ "__name__" → mb y = bootBuiltins y) (hlim : s.heap.NoLimit)
    (hx : s.heap.get? x = some (excO C t0)) (hnx : K.lookup x = none) (hroom : A.depth < recursionLimit)
    (hq : ∀ h' tk dx, XEnd s.heap h' x C dx fld v → R (.ok (.ret .none)) { s with heap := h', toks := tk }) :
    codeAny (model prog w) A (.call (.ref fI) ⟨[.ref x, v], []⟩) R s := by
  obtain ⟨oc, od, doc, pm, an, cda, ct, osl, cc, txt, k, p, p1, p2, ho, hcd, ⟨ccl, cdd, vs, ccs, file, tf, hcode, hvs, hfile⟩, hline, ⟨cl, cld, csl, hcell⟩, hbd⟩ := T.fn
  obtain ⟨B, nw, ini, tl, bX, ⟨nm, qq, N, bs, bm, sn, sub, ab, col, dd, k0, k1, k2, k3, k5, hC, hbm⟩, veC, sup, inI⟩ := T.base
  have hcl : clsIn K C = some { name := nm, bases := bs, mro := .ref C :: bm, ns := N, qualname := qq, hasDict := true, slotNames := sn, subclasses := sub, abstract := ab, collection := col, hasDel := false } := by unfold clsIn; rw [hC] <;> rfl
  obtain ⟨f1, f2, f3, f4, f5, f6, f7⟩ := T.fldOk
  have l1 : (xScope fld).names.lookup ("self" : Str) = some .local := rfl
  have l2 : (xScope fld).names.lookup fld = some .local := by simp [xScope, List.lookup, f1]
  have l3 : (xScope fld).names.lookup ("__class__" : Str) = some .free := by
    have g0 : (PySem.Str.ofString "__class__" == PySem.Str.ofString "self") = false := by decide +kernel
    simp [xScope, List.lookup, f4, g0]
  have l4 : (xScope fld).names.lookup ("super" : Str) = some .globalImplicit := by
    have g0 : (PySem.Str.ofString "super" == PySem.Str.ofString "self") = false := by decide +kernel
    have g1 : (PySem.Str.ofString "super" == PySem.Str.ofString "__class__") = false := by decide +kernel
    simp [xScope, List.lookup, f6, g0, g1]
  have hloc : ∀ y ∈ [(("self" : Str), Value.ref x), (fld, v)], (xScope fld).names.lookup y.1 = some .local := by
    intro y hy
    rcases List.mem_cons.mp hy with rfl | hy
    · exact l1
    · rcases List.mem_cons.mp hy with rfl | hy
      · exact l2
      · cases hy
  refine ks_codeAny_call_defAt (fd := ksFn "__init__" q (xArgs fld p1 p2) (xBody fld txt k p) (xScope fld) .none .none doc pm an (.ref cda) ct cc) (body := xBody fld txt k p) (binds := [("self", .ref x), (fld, v)])
    hroom (X _ _ ho) rfl hlim (codeRec_of X hcd) rfl (BindsTo.of_eq (hbd _ _)) ?_ hloc (fun h₁ hns hk₁ => ?_)
  · intro y hy
    have hy' : y ∈ [(PySem.Str.ofString "self", NameKind.local), (fld, .local), (PySem.Str.ofString "__class__", .free), (PySem.Str.ofString "super", .globalImplicit)] := hy
    simp only [List.mem_cons, List.not_mem_nil, or_false] at hy'
    rcases hy' with rfl | rfl | rfl | rfl <;> exact (fun z => nomatch z)
  · have X₁ : K.In h₁ := X.keeps hk₁
    have hx₁ := hk₁ _ _ hx
    have xC : x ≠ C := fun z => by rw [z, hC] at hnx; cases hnx
    have mself : (fun z => List.lookup z [(PySem.Str.ofString "self", Value.ref x), (fld, v)].reverse) ("self" : Str) = some (.ref x) := by
      show List.lookup ("self" : Str) [(fld, v), (PySem.Str.ofString "self", Value.ref x)] = _
      simp [List.lookup, f2]
    have mfld : (fun z => List.lookup z [(PySem.Str.ofString "self", Value.ref x), (fld, v)].reverse) fld = some v := by
      show List.lookup fld [(fld, v), (PySem.Str.ofString "self", Value.ref x)] = _
      simp [List.lookup]
    have F : Fr s.heap s.heap.objs.size h₁ (fun z => List.lookup z [(PySem.Str.ofString "self", Value.ref x), (fld, v)].reverse) := ⟨hns, hk₁, Nat.le_refl _⟩
    show _root_.PySem.wpAt _ _ (.func (xBody fld txt k p) (ksEnv q (xScope fld) s.heap.objs.size fI (.ref cda) cc)) (execs _ (ksEnv q (xScope fld) s.heap.objs.size fI (.ref cda) cc)) _ _ _
    have he : eval (.Call (.Attribute (.Call (.Name "super" (p 0)) [] [] (p 1)) "__init__" (p 2)) [.Constant (.str txt) k (p 3)] [] (p 4)) (ksEnv q (xScope fld) s.heap.objs.size fI (.ref cda) cc) = (do
        let ov ← attributeBase (.Call (.Name "super" (p 0)) [] [] (p 1)) "__init__" (ksEnv q (xScope fld) s.heap.objs.size fI (.ref cda) cc) (eval (.Call (.Name "super" (p 0)) [] [] (p 1)) (ksEnv q (xScope fld) s.heap.objs.size fI (.ref cda) cc))
        standAt (p 2).atName
        let (f, first) ← holding [ov] (getMethod ov "__init__" (L2.plainOf (.Call (.Name "super" (p 0)) [] [] (p 1)) (ksEnv q (xScope fld) s.heap.objs.size fI (.ref cda) cc)))
        callWith (p 4) f first (backTo (p 4) (starEach [.Constant (.str txt) k (p 3)] (ksEnv q (xScope fld) s.heap.objs.size fI (.ref cda) cc))) []) := by
      show (attributeBase _ _ _ _ >>= fun ov => standAt _ >>= fun _ => methodCall _ _ _ _ _ ov _ _ _) = _
      congr 1
      funext ov
      congr 1
      funext _
      exact L2.mcall_line (by rfl) hline
    refine ks_wpAt_execs_cons (ks_wpAt_Expr_any (ks_wpAt_MethodCall ?_ he))
    obtain ⟨oD, hD1, hD2⟩ : ∃ oD, h₁.get? C = some oD ∧ oD.data = .cls _ := ⟨_, X₁ _ _ hC, rfl⟩
    refine ks_wpAt_super_base (env := ksEnv q (xScope fld) s.heap.objs.size fI (.ref cda) cc) l4 l3 (by decide) rfl (X₁ _ _ ho) rfl rfl rfl (X₁ _ _ hcode) rfl hvs hfile T.topS ?_
    refine ks_loadName_global rfl l4 (loadGlobal_builtin (env := ksEnv q (xScope fld) s.heap.objs.size fI (.ref cda) cc) (G.keeps hk₁) (mg_none_of X G T.noS) (Gb.keeps hk₁) ((hb _ (by decide +kernel)).trans (show bootBuiltins ("super" : Str) = some (.type "super") by first | boot_by_name | rfl | kernel_rfl)) ⟨rfl, ?_⟩)
    refine wpAny_loadName_free rfl l3 rfl ⟨_, X₁ _ _ hcell, rfl⟩ ?_
    refine wpAny_loadName_local rfl l1 F.ns mself ?_
    refine ks_wpAny_isType_cls hD1 hD2 ⟨rfl, ?_⟩
    have I₁ : InstAt h₁ x (excObj C t0 none .none) C none := ⟨hx₁, rfl, rfl, trivial⟩
    refine ks_wpAny_call_super hD1 hD2 I₁.at_ I₁.cls (fun c e => nomatch e) (looks_mroIn X₁ T.self) (fun h₂ e2 k2 => ?_)
    -- the bound wrapper, by the heap without x
    have nl1 : h₁.objs.size ≠ s.heap.objs.size := Nat.ne_of_gt F.ns.lt
    have xs : x < s.heap.objs.size := Heap.lt_size hx
    have x1 : x < h₁.objs.size := Heap.lt_size hx₁
    have hx₂ : h₂.get? x = some (excObj C t0 none .none) := k2 _ _ hx₁
    have X₀ : K.In (hideAll s.heap [x]) := fun b o e => hideAll_get _ (X b o e) (fun hb => by
      rw [List.mem_singleton.mp hb, hnx] at e
      cases e)
    have keep₀ : ∀ b o, (hideAll s.heap [x]).get? b = some o → h₁.get? b = some o := fun b o e => hk₁ b o (of_hideAll _ e)
    have F₂ : Fr (hideAll s.heap [x]) s.heap.objs.size h₂ (fun z => List.lookup z [(PySem.Str.ofString "self", Value.ref x), (fld, v)].reverse) :=
      ⟨hns.keeps k2, fun b o e => k2 b o (keep₀ b o e), Nat.le_of_eq (hideAll_size _ _)⟩
    have n0 : (hideAll s.heap [x]).get? h₁.objs.size = none := by
      cases z : (hideAll s.heap [x]).get? h₁.objs.size with
      | none => rfl
      | some o => exact absurd (Heap.lt_size (keep₀ _ _ z)) (Nat.lt_irrefl _)
    have N₂ : News (hideAll s.heap [x]) s.heap.objs.size h₂ [(h₁.objs.size, ks_superObj C x C), (x, excObj C t0 none .none)] := by
      intro r hr
      rcases List.mem_cons.mp hr with rfl | hr
      · exact ⟨e2, nl1, n0⟩
      · rcases List.mem_cons.mp hr with rfl | hr
        · exact ⟨hx₂, Nat.ne_of_lt xs, hideAll_none _ List.mem_cons_self⟩
        · cases hr
    have I₂ : InstAt h₂ x (excObj C t0 none .none) C none := ⟨hx₂, rfl, rfl, trivial⟩
    refine kxs_method bX.kx F₂ X₀ N₂ List.mem_cons_self I₂ T.third sup veC (by decide) (fun u h₃ F₃ N₃ lt3 => ?_)
    refine kxs_callWith1 N₃ List.mem_cons_self (Calls.spliced_cons (show wpAny _ _ (eval (.Constant (.str txt) k (p 3)) _) _ _ _ from Calls.Constant_str (Calls.spliced_nil ⟨kxs_at N₃ List.mem_cons_self, ?_⟩)))
    have hux : u ≠ x := Nat.ne_of_gt (lt3 (x, excObj C t0 none .none) (List.mem_cons_of_mem _ List.mem_cons_self))
    have hsx : h₁.objs.size ≠ x := Nat.ne_of_gt x1
    refine bX.sup F₃ X₀ N₃ inI List.mem_cons_self (.tail hux (.tail hsx (.head (fun _ h => nomatch h)))) (one_le_line _) (fun t1 h₄ F₄ N₄ lt4 => ?_)
    have hx₄ : h₄.get? x = some (excO C t1) := (N₄ (x, excObj C t1 none .none) (by simp)).1
    have X₄ : K.In h₄ := X₀.keeps F₄.keep
    refine ks_wpAt_execs_cons (ks_wpAt_Assign_Attr (wpAt_of_wpAny (wpAny_Name (wpAny_loadName_local rfl l2 F₄.ns mfld (wpAny_Name (wpAny_loadName_local rfl l1 F₄.ns mself ?_) (by decide))) f7)))
    refine set_plain X₄ (ox := excO C t1) (od := none) ⟨hx₄, rfl, rfl, trivial⟩ T.sa ?_
    refine exc_osaT bX X₄ hx₄ hcl (show (refsT tl bm || _) = true by rw [hbm]; rfl) rfl T.noN (fun h₅ tk₅ dx k₅ dn dne hx₅ hn₅ => ?_)
    refine wpAt_of_wpAny (wpAny_execs_nil (hq h₅ tk₅ dx ⟨fun b o hb e => k₅ b o hb (F₄.keep b o (hideAll_get _ e (fun z => hb (List.mem_singleton.mp z)))), ⟨t1, hx₅⟩, Nat.le_trans (Nat.le_of_lt F₄.ns.lt) dn, dne, hn₅⟩))
theorem x_made (T : ExcTxt prog K mg nx q fld C fI) {v : Value} {mb : Str → Option Value} (X : K.In s.heap) (G : s.heap.Ns mainGlobals mg) (Gb : s.heap.Ns builtinsNs mb) (hb : ∀ y : Str, y ≠ "__name__" → mb y = bootBuiltins y) (hlim : s.heap.NoLimit) (hroom : A.depth + 1 < recursionLimit)
    (hq : ∀ h' tk e d, XMade s.heap h' e C d fld v → R (.ok (.ret (.ref e))) { s with heap := h', toks := tk }) :
    codeAny (model prog w) A (.call (.ref C) ⟨[v], []⟩) R s := by
  obtain ⟨B, nw, ini, tl, bX, ⟨nm, qq, N, bs, bm, sn, sub, ab, col, dd, k0, k1, k2, k3, k5, hC, hbm⟩, veC, sup, inI⟩ := T.base
  obtain ⟨hp, g, dr, tk, os⟩ := s
  have k : ∀ b o, hp.get? b = some o → ((hp.push (kdv_tup [v])).push (excO C hp.objs.size)).get? b = some o := fun b o e => Heap.get?_push_of_some _ (Heap.get?_push_of_some _ e)
  have hget : ((hp.push (kdv_tup [v])).push (excO C hp.objs.size)).get? (hp.objs.size + 1) = some (excO C hp.objs.size) := by heap_get
  have hnx : K.lookup (hp.objs.size + 1) = none := by
    cases e : K.lookup (hp.objs.size + 1) with
    | none => rfl
    | some o => exact absurd (Nat.lt_of_succ_lt (Heap.lt_size (show hp.get? (hp.objs.size + 1) = some o from X _ _ e))) (Nat.lt_irrefl _)
  refine bX.own (fun X => bX.contains X bm hbm) (X _ _ hC) (looks_findIn X T.iC) (fun self => bind_fn X self T.tC) (one_le_line v) ?_
  refine x_init (s := ⟨(hp.push (kdv_tup [v])).push (excO C hp.objs.size), g, dr, tk, os⟩) T (X.keeps k) (G.keeps k) (Gb.keeps k) hb (hlim.keeps k) hget hnx hroom fun h' tk' dx ⟨k', ⟨t1, hx⟩, dn, dne, hns⟩ => ?_
  have old : ∀ b o, hp.get? b = some o → h'.get? b = some o := fun b o e => k' b o (Nat.ne_of_lt (Nat.lt_succ_of_lt (Heap.lt_size e))) (k b o e)
  have z : hp.objs.size + 1 + 1 ≤ dx := by
    have q := dn
    rw [Heap.size_push, Heap.size_push] at q
    exact q
  exact ⟨rfl, hq h' tk' (hp.objs.size + 1) dx ⟨old, Nat.le_succ _, ⟨_, _, hx, rfl, rfl, rfl, rfl⟩, Nat.le_trans (Nat.le_trans (Nat.le_succ _) (Nat.le_succ _)) z, dne, hns⟩⟩
end
end EXV
end PySem

namespace L2
open PySem PySem.Spec PyProof.Rows
theorem relO_x {v : V} {v' : Value} (r : RelV v v') (fld f : Str) : RelO (List.lookup f [(fld, v)]) (if f = fld then some v' else none) := by
  by_cases hw : f = fld
  · subst hw
    rw [if_pos rfl, show List.lookup f [(f, v)] = some v by simp [List.lookup]]
    exact r
  · rw [if_neg hw, show List.lookup f [(fld, v)] = none by simp [List.lookup, show (f == fld) = false by simpa using hw]]
    trivial
section
variable {X : Cx} {C fI : Addr} {x q fld : Str}
/-- X(e), raised -/
def tMkX (C : Addr) (fld : Str) (ta : TA) : St → Hp → XK → Prop := fun σ H Q => ta σ H fun vs H1 => ∃ v, vs = [v] ∧ ∀ d, H1 d = none → Q (.ref C) (some d) (upd H1 d (.xd [(fld, v)]))
theorem pmk_x {a : Expr} {ta : TA} {p pos : Pos} {k : Nat} (T : PySem.EXV.ExcTxt X.prog X.K X.mg x q fld C fI) (hr : Room k X.A) (ha : PA X [a] ta) (hg : Gl X x := by rfl)
    (hdb : (x == ("__debug__" : Str)) = false := by decide)
    (he : starEach (a :: []) X.env = (false, eval a X.env) :: starEach [] X.env := by rfl) (hpl : (backTo pos (starEach [] X.env)).any (·.1) = false := by rfl) :
    PMk X (.Call (.Name x p) [a] [] pos) (tMkX C fld ta) := by
  intro pins s σ H Q I h
  refine wpAny_Call_Name_kw (ld_glob I hg T.gC ?_ hdb)
  refine PySem.W.callWith_K (h₀ := X.base) I.ok.mod.kin T.kC (thn (ha.run pos pins s σ H _ I h) fun us s1 hh => ?_) he hpl
  obtain ⟨vs, H1, I1, r1, v, ev, q1⟩ := hh
  subst ev
  refine ⟨I1.kIn, ?_⟩
  cases r1 with
  | cons rv rn =>
    rename_i v' us'
    cases rn
    show wpAny _ _ (call (.ref C) [v']) _ _ _
    have hlim := I1.nolimit
    obtain ⟨mb, hb1, hb2⟩ := I1.mod.blt
    have hG := I1.mod.glob.keeps I1.bk
    have hGb := hb1.keeps I1.bk
    obtain ⟨hp, g, dr, tk, os⟩ := s1
    refine wpAny_call (PySem.EXV.x_made T I1.kIn hG hGb hb2 hlim (by have := hr.dp; omega) fun h' tk' e d M => ?_)
    show MkP X pins σ Q (.ref e) ⟨h', g, dr, tk', os⟩
    obtain ⟨oe, fv, hoe, hc, hd, hdat, h1⟩ := M.obj
    have hns := M.ns
    obtain ⟨G', g1, g2⟩ := restrict h' fun b => decide (b ≠ e)
    have gk : ∀ b, b ≠ e → G'.get? b = h'.get? b := fun b hb => g1 b (decide_eq_true hb)
    have ge : G'.get? e = none := g2 e (by simp)
    have old : ∀ b o, hp.get? b = some o → G'.get? b = some o := fun b o z => (gk b (Nat.ne_of_lt (Nat.lt_of_lt_of_le (Heap.lt_size z) M.new))).trans (M.keep b o z)
    have ob : ObjOk X.prog X.w (upd H1 d (.xd [(fld, v)])) G' d (.xd [(fld, v)]) :=
      ⟨_, hns.at (fun o z => (gk d M.dne).trans z), fun f => relO_x rv fld f⟩
    have J : Inv X pins σ (upd H1 d (.xd [(fld, v)])) ⟨G', g, dr, tk', os⟩ := I1.laid (t' := tk') old M.dbig ob
    refine ⟨e, oe, fv, ⟨G', g, dr, tk', os⟩, _, .ref C, some d, rfl, J, fun b o z => ?_, ge, hoe, ⟨hc, hd⟩, hdat, h1, ?_, rfl, I1.bare, raises_own T.exC T.tyC, q1 d (I1.hok.fresh M.dbig)⟩
    · by_cases hb : b = e
      · have z' : G'.get? b = some o := z
        rw [hb, ge] at z'; cases z'
      · exact (gk b hb).symm.trans z
    · rw [upd_ne (Ne.symm M.dne)]
      exact I1.hok.fresh M.new
/-- raise X(e) -/
def tRaiseX (C : Addr) (fld : Str) (W : WX) (ta : TA) : TS := fun _ σ H => tMkX C fld ta σ H fun cls d H' => W cls d σ H'
theorem ps_raiseX {a : Expr} {ta : TA} {W : WX} {p pos pos2 : Pos} {k : Nat} (hc : X.calm = true) (T : PySem.EXV.ExcTxt X.prog X.K X.mg x q fld C fI) (hr : Room k X.A) (tk : Takes X W) (ha : PA X [a] ta) (hg : Gl X x := by rfl)
    (hdb : (x == ("__debug__" : Str)) = false := by decide)
    (he : starEach (a :: []) X.env = (false, eval a X.env) :: starEach [] X.env := by rfl) (hpl : (backTo pos (starEach [] X.env)).any (·.1) = false := by rfl) :
    PS X (.Raise (some (.Call (.Name x p) [a] [] pos)) none pos2) (tRaiseX C fld W ta) := ps_raise hc tk (pmk_x T hr ha hg hdb he hpl)
/-- err.FLD, err the exception that the suite holds (at a; its class cls, its dict d) -/
def tFldX (C : Addr) (fld : Str) (a : Addr) (cls : Value) (d : Option Addr) (te : TE) : TE := fun σ H Q => te σ H fun y H1 => y = .ref a ∧ cls = .ref C ∧ ∃ (dd : Addr) (v : V), d = some dd ∧ H1 dd = some (.xd [(fld, v)]) ∧ Q v H1
theorem pe_fldX {a : Addr} {oe : Obj} {cls : Value} {d : Option Addr} {pn : List (Addr × Obj)} {e : Expr} {te : TE} {pos : Pos} (T : PySem.EXV.ExcTxt X.prog X.K X.mg x q fld C fI) (hz : Zc cls d oe) (hf : ∃ vs, oe.data = .fields vs) (he : PE (X.suite a ((a, oe) :: pn)) e te)
    (hb : attributeBase e fld X.env (eval e X.env) = eval e X.env := by rfl) :
    PE (X.suite a ((a, oe) :: pn)) (.Attribute e fld pos) (tFldX C fld a cls d te) := by
  refine ⟨fun pins s σ H Q I h => ?_⟩
  refine attr_of hb (thn (he.run pins s σ H _ I h) fun u s1 hh => ?_)
  obtain ⟨y, H1, I1, rx, ex, ec, dd, v, ed, ea, q⟩ := hh
  subst ex
  obtain rfl : u = Value.ref a := rx
  subst ec
  subst ed
  obtain ⟨ha, _⟩ := I1.pin (a, oe) (List.mem_append_left _ List.mem_cons_self)
  obtain ⟨vs, hd⟩ := hf
  have hx : ObjOk X.prog X.w H1 s1.heap dd (.xd [(fld, v)]) := I1.hok dd _ ea
  obtain ⟨mA, hns, hr⟩ := hx
  obtain ⟨od, ho, hl⟩ := lookIn_ns hns
  have l : List.lookup fld [(fld, v)] = some v := by simp [List.lookup]
  obtain ⟨u, hu, ru⟩ := RelO.some_of (v := v) (o := mA fld) (by rw [← l]; exact hr fld)
  have J : PySem.W.InstAt s1.heap a oe C (some od) := ⟨ha, hz.1, by unfold PySem.W.notCls; rw [hd] <;> rfl, by rw [hz.2]; exact ho⟩
  exact HandSPX.exc_get I1.kIn J T.ga T.gg T.exC (PySem.W.findObj_own T.hdC T.noN rfl (by rw [hl, hu])) (handed_of ru) ⟨v, H1, I1.tok _, ru, q⟩
end
end L2

/-! Own error classes over KeyError: it has no maker of its own, LookupError's serves. -/
namespace PySem
namespace EXV
open PySem.W PySem.Calls PyProof.Rows PySem.HandSPX Builtin Builtin.ObjectAttr
abbrev keT : List Value := [.type "KeyError", .type "LookupError", .type "Exception", .type "BaseException", .type "object"]
theorem kxs_keyE : KxsFacts "KeyError" "KeyError.__init__" where
  typ := by
    show builtinType _ = _
    rw [builtinType_eq_fast]
    kernel_rfl
  nac := by
    first
    | kernel_rfl
    | rfl
theorem keyE_pass (self : Value) : refuseLoop self "__setattr__" keT = pure () := by
  kernel_rfl
section
variable {M : Model} {A : Around} {E : Value → Shared → Prop} {hp : Heap} {gs : Array GenState} {dr : Drawn} {tk : Nat} {os : OsState} {nm qn : Str} {C N : Addr} {bs bm sub : List Value} {hdct ab : Bool} {sn : List Str} {col : Option Bool}
  {dd : Option Addr} {k0 k1 k2 k3 k5 : Option Value}
theorem lk_checked {more : List Value} {Q : Unit → Shared → Prop} (cL : (Value.ref C :: bm).contains (.type "LookupError") = true)
    (cls : hp.get? C = some (excClassObj nm qn C N bs bm hdct sn sub ab col dd k0 k1 k2 k3 k5 "LookupError.__new__")) (q : Q () ⟨hp, gs, dr, tk, os⟩) : wpAny M A (checkBuiltinCall "LookupError.__new__" ⟨.ref C :: more, []⟩) Q E ⟨hp, gs, dr, tk, os⟩ := by
  have lf := PySem.F.excBase_LookupError
  have ns := lf.noStar
  simp only [checkBuiltinCall, lf.newSplit, lf.newKind, lf.newRow]
  repeat (first
    | refine wpAny_madeBy_exc cls ?_
    | refine wpAny_staticBase_exc cls ?_
    | refine wpAny_loadPart_at cls ?_
    | (refine wpAny_isSubtype_exc cls ?_; rw [cL])
    | simp only [bne_self_eq_false, if_false, Bool.false_eq_true]
    | wp_step)
  exact q
theorem ke_checked {e : Addr} {oe : Obj} {more : List Value} {Q : Unit → Shared → Prop} (cls : hp.get? C = some (excClassObj nm qn C N bs bm hdct sn sub ab col dd k0 k1 k2 k3 k5 "LookupError.__new__")) (he : hp.get? e = some oe) (oc : oe.cls = .ref C)
    (q : Q () ⟨hp, gs, dr, tk, os⟩) : wpAny M A (checkBoundCall "KeyError.__init__" ⟨.ref e :: more, []⟩) Q E ⟨hp, gs, dr, tk, os⟩ := by
  have kc := excClass_KeyError
  have ns := kc.notStar
  simp only [checkBoundCall, kc.initSig, kc.initKind]
  repeat (first
    | (with_reducible refine wpAny_loadPart_at cls ?_)
    | (with_reducible refine wpAny_loadPart_at he ?_
       rw [oc])
    | wp_step)
  refine wpAny_onRaise ?_
  have st : ∀ (a b : String) (n : Nat), Bind.check ⟨.positional, "*", "KeyError", .self, [⟨"args", .varPos, false⟩]⟩ a b n (List.map (fun x => x.fst) ({ pos := Value.ref e :: more } : Args).kw) = pure () := fun a b n => check_star_args _ _ _ _ _ _
  rw [st]
  exact wpAny_pure q
end
section
variable {prog : Program} {w : World} {A : Around} {R : Result → Shared → Prop} {hp : Heap} {gs : Array GenState} {dr : Drawn} {tk : Nat} {os : OsState} {nm qn : Str} {C N fI : Addr} {bs bm sub rest : List Value}
  {hdct ab : Bool} {sn : List Str} {col : Option Bool} {dd : Option Addr} {k0 k1 k2 k3 k5 : Option Value}
theorem lk_made (cL : (Value.ref C :: bm).contains (.type "LookupError") = true) (cA : (Value.ref C :: bm).contains (.type "AttributeError") = false) (cN : (Value.ref C :: bm).contains (.type "NameError") = false)
    (cls : hp.get? C = some (excClassObj nm qn C N bs bm hdct sn sub ab col dd k0 k1 k2 k3 k5 "LookupError.__new__")) (lr : rest.length ≤ sizeLine)
    (q : R (.ok (.ret (.ref (hp.objs.size + 1)))) ⟨(hp.push (W.kdv_tup rest)).push (excO C hp.objs.size), gs, dr, tk, os⟩) : codeAny (model prog w) A (.builtin "LookupError.__new__" ⟨.ref C :: rest, []⟩) R ⟨hp, gs, dr, tk, os⟩ := by
  have lf := PySem.F.excBase_LookupError
  have en := lf.ends
  refine codeAny_builtinAt lf.entry ?_
  unfold Builtin.«BaseException.__new__»
  refine wpAt_bind ?_
  show wpAt _ _ _ (stack >>= fun _ => _) _ _ _
  refine wpAt_bind (wpAt_stack fun p b => wpAt_of_wpAny ?_)
  wp_walk
  refine wpAt_of_wpAny ?_
  rw [lf.owner]
  repeat (first
    | with_reducible refine wpAny_loadPart_at cls ?_
    | with_reducible refine wpAny_madeHere_exc lf.canon cls ?_
    | (with_reducible refine wpAny_isSubtype_exc cls ?_
       first
       | rw [cL]
       | rw [cA]
       | rw [cN])
    | wp_step)
  show R _ _
  rw [Heap.size_push]
  exact q
theorem lk_call {E : Value → Shared → Prop} {Q : Fin → Shared → Prop} (cL : (Value.ref C :: bm).contains (.type "LookupError") = true) (cA : (Value.ref C :: bm).contains (.type "AttributeError") = false) (cN : (Value.ref C :: bm).contains (.type "NameError") = false)
    (cls : hp.get? C = some (excClassObj nm qn C N bs bm hdct sn sub ab col dd k0 k1 k2 k3 k5 "LookupError.__new__")) (li : W.Looks (model prog w) hp (typeLookup (.ref C) "__init__") (some (.ref fI)))
    (lb : ∀ self, W.Looks (model prog w) hp (bindSpecial (.ref fI) self) (.ref fI, [self])) (lr : rest.length ≤ sizeLine)
    (q : codeAny (model prog w) A (.call (.ref fI) ⟨.ref (hp.objs.size + 1) :: rest, []⟩) (fun r s' => match r with
      | .ok (.ret v) => v = .none ∧ Q (.done (.ret (.ref (hp.objs.size + 1)))) s'
      | .ok _ => False
      | .error e => E e s') ⟨(hp.push (W.kdv_tup rest)).push (excO C hp.objs.size), gs, dr, tk, os⟩) :
    wpAny (model prog w) A (Builtin.«type.__call__» ⟨.ref C :: rest, []⟩) Q E ⟨hp, gs, dr, tk, os⟩ := by
  repeat (first
    | with_reducible refine wpAny_madeBy_exc cls ?_
    | with_reducible refine wpAny_loadPart_at cls ?_
    | wp_step)
  refine codeAny_call_builtin_code (Code.quiet_builtin _ PySem.F.excBase_LookupError.quiet) (lk_checked cL cls (lk_made cL cA cN cls lr ?_))
  show wpAny _ _ _ _ _ _
  have old : ∀ b o, hp.get? b = some o → ((hp.push (W.kdv_tup rest)).push (excO C hp.objs.size)).get? b = some o := fun b o z => Heap.get?_push_of_some _ (Heap.get?_push_of_some _ z)
  have cls2 := old _ _ cls
  have new : ((hp.push (W.kdv_tup rest)).push (excO C hp.objs.size)).get? (hp.objs.size + 1) = some (excO C hp.objs.size) := by
    heap_get
  have cC : (Value.ref C :: bm).contains (.ref C) = true := by
    simp
  have li2 := li.keeps old
  have lb2 := (lb (.ref (hp.objs.size + 1))).keeps old
  unfold isInstance
  repeat (first
    | with_reducible refine wpAny_loadPart_at new ?_
    | (with_reducible refine wpAny_isSubtype_exc cls2 ?_
       rw [cC])
    | wp_step)
  show wpAny _ _ (typeLookup (.ref C) _) _ _ _
  refine li2.at (wpAny_holding (wpAny_bind (lb2.at (wpAny_bind (wpAny_call (codeAny_mono q fun r s' z => ?_))))))
  match r, z with
  | .error _, z => exact z
  | .ok .next, z => exact z.elim
  | .ok .brk, z => exact z.elim
  | .ok .cont, z => exact z.elim
  | .ok (.ret v), z =>
    obtain ⟨rfl, z⟩ := z
    first
    | exact wpAny_pure (wpAny_pure z)
    | (wp_walk
       exact z)
theorem ke_own (hT : ∀ X : String, bm.contains (.type X) = keT.contains (.type X))
    (cls : hp.get? C = some (excClassObj nm qn C N bs bm hdct sn sub ab col dd k0 k1 k2 k3 k5 "LookupError.__new__")) (li : W.Looks (model prog w) hp (typeLookup (.ref C) "__init__") (some (.ref fI)))
    (lb : ∀ self, W.Looks (model prog w) hp (bindSpecial (.ref fI) self) (.ref fI, [self])) (lr : rest.length ≤ sizeLine)
    (q : codeAny (model prog w) (A.under (.builtin "type.__call__" ⟨.ref C :: rest, []⟩)) (.call (.ref fI) ⟨.ref (hp.objs.size + 1) :: rest, []⟩) (W.InitBack (hp.objs.size + 1) R) ⟨(hp.push (W.kdv_tup rest)).push (excO C hp.objs.size), gs, dr, tk, os⟩) :
    codeAny (model prog w) A (.call (.ref C) ⟨rest, []⟩) R ⟨hp, gs, dr, tk, os⟩ := by
  have cX : ∀ X : String, (Value.ref C :: bm).contains (.type X) = keT.contains (.type X) := fun X => by
    rw [List.contains_cons, hT]
    rfl
  have t1 := tc_lookup
  have t2 := tc_bind (.ref C)
  have ty : (⟨hp, gs, dr, tk, os⟩ : Shared).TypeIs (.ref C) "type" := ⟨_, cls, rfl⟩
  refine codeAny_of_tree ?_
  show wpAny _ _ (callAny (.ref C) ⟨rest, []⟩) _ _ _
  repeat (any_goals (first
    | with_reducible refine wpAny_loadPart_at cls ?_
    | assumption
    | wp_step))
  refine ⟨rfl, codeAny_call_builtin_at (Code.quiet_builtin _ (by decide +kernel)) entry_typeCall (wpAny_check_type_call_sub cls (lk_call ((cX _).trans (by decide +kernel)) ((cX _).trans (by decide +kernel)) ((cX _).trans (by decide +kernel)) cls li lb lr ?_))⟩
  refine codeAny_mono q fun r s' z => ?_
  match r, z with
  | .error _, z => exact z
  | .ok .next, z => exact z
  | .ok .brk, z => exact z
  | .ok .cont, z => exact z
  | .ok (.ret v), z => exact z
end
section
variable {prog : Program} {w : World} {A : Around} {E : Value → Shared → Prop} {s : Shared} {h₀ : Heap} {L : Addr} {m : Str → Option Value} {news : List (Addr × Obj)} {K : Frag} {x C u t : Addr} {dv : Option Addr} {c2 : Value} {rest : List Value} {nws : Obj → List (Addr × Obj)}
theorem ke_sup {Q : Value → Shared → Prop} (f : Fr h₀ L s.heap m) (X : K.In h₀) (n : News h₀ L s.heap news) (ei : excInitIn K C keT "LookupError.__new__" = true) (hu : (u, kxs_mw "KeyError.__init__" x) ∈ news) (up : UpdF x (excObj C t dv c2) news nws)
    (lr : rest.length ≤ sizeLine) (q : ∀ t' h', Fr h₀ L h' m → News h₀ L h' ((t', excTup rest) :: nws (excObj C t' dv c2)) → (∀ p ∈ news, p.1 < t') → Q .none { s with heap := h' }) : wpAny (model prog w) A (call (.ref u) rest) Q E s := by
  obtain ⟨nm, N', qn, bs, bm, hdct, sn, sub, ab, col, dd, k0, k1, k2, k3, k5, cls, _⟩ := excInit_of (X.keeps f.keep) ei
  have gu := (n _ hu).1
  obtain ⟨pre, post, rfl, un, l1, l2⟩ := up.split
  have gx := (n (x, excObj C t dv c2) (List.mem_append_right _ List.mem_cons_self)).1
  have lt : ∀ p ∈ pre ++ (x, excObj C t dv c2) :: post, p.1 < s.heap.objs.size := fun p hp => Heap.lt_size (n p hp).1
  have fin : ∀ h', (∀ b o, b ≠ x → s.heap.get? b = some o → h'.get? b = some o) → h'.get? x = some (excObj C s.heap.objs.size dv c2) → h'.get? s.heap.objs.size = some (excTup rest) → Q .none { s with heap := h' } := by
    intro h' keep gx' gt'
    obtain ⟨oL, es, ep, gL, nsr⟩ := f.ns
    have nx := (n (x, excObj C t dv c2) (List.mem_append_right _ List.mem_cons_self)).2
    have keep0 : ∀ b o, h₀.get? b = some o → h'.get? b = some o := fun b o z => keep b o (fun y => by
      rw [y, nx.2] at z
      cases z) (f.keep b o z)
    refine q s.heap.objs.size h' ⟨⟨oL, es, ep, keep _ _ (fun z => nx.1 z.symm) gL, nsr⟩, keep0, f.above⟩ ?_ lt
    rw [un]
    intro p hp
    have lL := Heap.lt_size (show s.heap.get? L = some oL from gL)
    rcases List.mem_cons.mp hp with rfl | hp
    · refine ⟨gt', fun z => absurd (show s.heap.objs.size < s.heap.objs.size by rw [show s.heap.objs.size = L from z] at lL ⊢; exact lL) (Nat.lt_irrefl _), ?_⟩
      cases z : h₀.get? s.heap.objs.size with
      | none => rfl
      | some o => exact absurd (Heap.lt_size (f.keep _ _ z)) (Nat.lt_irrefl _)
    · rcases List.mem_append.mp hp with hp | hp
      · have y := n p (List.mem_append_left _ hp)
        exact ⟨keep _ _ (l1 p hp) y.1, y.2⟩
      · rcases List.mem_cons.mp hp with rfl | hp
        · exact ⟨gx', nx⟩
        · have y := n p (List.mem_append_right _ (List.mem_cons_of_mem _ hp))
          exact ⟨keep _ _ (l2 p hp) y.1, y.2⟩
  obtain ⟨hp, gs, dr, tk, os⟩ := s
  refine wpAny_call (codeAny_of_tree ?_)
  show wpAny _ A.in1 (callAny (.ref u) ⟨rest, []⟩) _ _ _
  simp only [callAny]
  refine wpAny_bind (wpAny_load gu ?_)
  have mw : (Value.type "method-wrapper" == Value.type "method" || Value.type "method-wrapper" == Value.type "builtin_function_or_method" || Value.type "method-wrapper" == Value.type "method-wrapper") = true := by decide
  simp only [kxs_mw, mw, if_true]
  refine KFB.if_so (by decide) (wpAny_bind (ke_checked cls gx rfl (wpAny_bind (wpAny_pure (wpAny_pure ?_)))))
  exact ⟨plainId_quiet excClass_KeyError.init.plain _, codeAny_builtin excClass_KeyError.initEntry (exc_init_tree (cls := .ref C) (t0 := t) (dv := dv) (c2 := c2) (c3 := .none) (b4 := .bool false) gx lr fin)⟩
end
theorem base_KeyError : BaseX "KeyError" "LookupError.__new__" "KeyError.__init__" keT :=
  ⟨fun hT c li lb lr q => ke_own hT c li lb lr q, fun f X n ei hu up lr q => ke_sup f X n ei hu up lr q, kxs_keyE, keyE_pass, by decide +kernel, (fun _ _ h => nomatch h), (fun h => nomatch h)⟩
end EXV
end PySem

/-! Own layer: repr of nested data. repr asks that no repr is under way around it, so such defs promise only there (FnG). -/
namespace L2
open PySem PySem.Spec PyProof.Rows
/-! ### defs that are called where no repr is under way -/
structure FnG (P : Program) (w : World) (K : PySem.W.Frag) (mg : Str → Option Value) (base : Heap) (CX : CXT) (k : Nat) (f : Addr) (fd : FuncData) (ps : List Str) (sp : Sp) : Prop where
  len : ∀ vs H Q E, sp vs H Q E → vs.length = ps.length
  run : ∀ (A : Around) (outer : List Env) (s : Shared) (H : Hp) (args : Args) (us : List Value) (vs : List V) (Q : VK) (E : XK), Room k A → A.guards = some [] → Env0 P w K mg base A outer s H → BindsTo s fd args (ps.zip us) → Vals vs us → sp vs H Q E →
    codeAny (model P w) A (.call (.ref f) args) (CR CX outer P w H s Q E) s
section
variable {P : Program} {w : World} {K : PySem.W.Frag} {mg : Str → Option Value} {base : Heap} {CX : CXT} {k : Nat} {f : Addr} {fd : FuncData} {ps : List Str} {sp : Sp}
theorem FnOk.toG (F : FnOk P w K mg base CX k f fd ps sp) : FnG P w K mg base CX k f fd ps sp :=
  ⟨F.len, fun A outer s H args us vs Q E hr _ => F.run A outer s H args us vs Q E hr⟩
theorem FnG.mono {j : Nat} (F : FnG P w K mg base CX j f fd ps sp) (h : j ≤ k) : FnG P w K mg base CX k f fd ps sp :=
  ⟨F.len, fun A outer s H args us vs Q E hr => F.run A outer s H args us vs Q E (hr.mono h)⟩
/-- a def, by its body -/
theorem FunD.okG {x qual : Str} {params : Arguments} {body : List Stmt} {scope : Scope} {dvs : List V} {kws : List (Str × V)} {N : List Str} (F : FunD K x qual params body scope dvs kws f fd) (S : FnScope N ps scope) (len : ∀ vs H Q E, sp vs H Q E → vs.length = ps.length)
    (hbody : ∀ (cdv : Value) (A : Around) (outer : List Env) (s : Shared) (H : Hp) (vs : List V) (Q : VK) (E : XK), Room k (A.deeper (envOfC qual scope s.heap.objs.size f cdv)) → A.guards = some [] → sp vs H Q E →
      ∃ t, PSs (cxOf CX P w K mg base N qual scope f cdv A outer s H E) body t ∧ t { nx := fun _ H' => Q .non H', rt := Q } (start N vs) H) : FnG P w K mg base CX (k + 1) f fd ps sp := by
  obtain ⟨oc, od, dV, kV, doc, pm, an, cdv, ct, osl, rfl, lk, hcd, _, _⟩ := F.ex
  refine ⟨len, fun A outer s H args us vs Q E hr hg e0 hb r hsp => ?_⟩
  have hl := len _ _ _ _ hsp
  have KX : K.In s.heap := e0.mod.kin.keeps fun b o e => (e0.bs b o e).1
  have lim : s.heap.NoLimit := e0.mod.nolimit.keeps fun b o e => (e0.bs b o e).1
  refine codeAny_call_function hr.depth (KX _ _ lk) rfl S.co S.gen rfl (PySem.W.codeRec_of KX hcd) (hb _ _ _ _ ?_)
  refine wpAny_newFunctionEnv_cells S.kind (fun ⟨n, v⟩ hy => (S.par n (List.of_mem_zip hy).1).elim .inl fun q => .inr ⟨q, PySem.W.cellsFrom_some _ _ _ (.inl q)⟩) fun env he s1 x => ?_
  subst he
  refine ⟨lim.keeps x.toInCall.keep, codeAny_func ?_⟩
  obtain ⟨t, ht, hq⟩ := hbody cdv A outer s H vs Q E (hr.deeper _) hg hsp
  have I : Inv (cxOf CX P w K mg base N qual scope f cdv A outer s H E) [] (start N vs) H s1 := inv_start S hr.hd e0 hl r x
  refine wpAny_mono (ht.run [] s1 (start N vs) H _ I hq) (fun fl s' hs => ?_) fun e s' hs => hs
  cases fl with
  | ret u =>
    obtain ⟨v, σ', H', J, rv, q⟩ := hs
    exact ⟨v, H', J.os, J.bare, J.base, J.hok, rv, q⟩
  | next =>
    obtain ⟨σ', H', J, q⟩ := hs
    exact ⟨V.non, H', J.os, J.bare, J.base, J.hok, rfl, q⟩
  | brk => exact hs.elim fun _ h => h.elim fun _ h => h.2.elim
  | cont => exact hs.elim fun _ h => h.elim fun _ h => h.2.elim
end
section
variable {X : Cx} {CX : CXT} {k n : Nat} {f : Addr} {fd : FuncData} {ps ks : List Str} {sp : Sp} {dvs : List V} {ds : List Value} {E : XK} {x : Str} {p pos : Pos} {e : Expr} {es : List Expr} {kws : List Keyword} {t tk : TA} {g : List Value → List Value → List Value} {gV : List V → List V → List V}
theorem run_fnG {pins : List (Addr × Obj)} {σ : St} {H : Hp} {s : Shared} {Q : VK} {us : List Value} {vs : List V} (hA : X.A.guards = some []) (F : FnG X.prog X.w X.K X.mg X.base CX k f fd ps sp) (hr : Room k X.A) (hb : Binds X.K fd ps ds) (hd : Vals dvs ds) (hx : Passes CX X E)
    (I : Inv X pins σ H s) (r : Vals vs us) (h : sp (vs ++ dvs) H Q E) : wpAny (model X.prog X.w) X.A (call (.ref f) us) (EP X pins σ Q) X.xe s := by
  have r2 : Vals (vs ++ dvs) (us ++ ds) := r.append hd
  have hl : (us ++ ds).length = ps.length := by rw [← r2.length]; exact F.len _ _ _ _ h
  refine wpAny_call (codeAny_mono (F.run X.A X.stack s H ⟨us, []⟩ (us ++ ds) (vs ++ dvs) Q E hr hA I.env0 (hb s us I.kIn hl) r2 h) fun r s' hq => ?_)
  match r, hq with
  | .error e, hq => exact hx pins σ H s e s' I hq
  | .ok (.ret u), hq => exact I.after hq
  | .ok .next, hq => exact hq.elim
  | .ok .brk, hq => exact hq.elim
  | .ok .cont, hq => exact hq.elim
theorem pe_callG (hA : X.A.guards = some []) (F : FnG X.prog X.w X.K X.mg X.base CX k f fd ps sp) (hr : Room k X.A) (hg : Gl X x) (hm : X.mg x = some (.ref f)) (hk : PySem.W.keepIn X.K (.ref f) = true) (hb : Binds X.K fd ps ds) (hd : Vals dvs ds) (hx : Passes CX X E)
    (ha : PA X (e :: es) t) (hdb : (x == ("__debug__" : Str)) = false := by decide) (he : starEach (e :: es) X.env = (false, eval e X.env) :: starEach es X.env := by rfl) (hpl : (backTo pos (starEach es X.env)).any (·.1) = false := by rfl) :
    PE X (.Call (.Name x p) (e :: es) [] pos) (tCall sp dvs E t) := by
  refine ⟨fun pins s σ H Q I h => wpAny_Call_Name_kw (ld_glob I hg hm ?_ hdb)⟩
  exact PySem.W.callWith_K (h₀ := X.base) I.ok.mod.kin hk (thn (ha.run pos pins s σ H _ I h) fun us s1 ⟨vs, H1, I1, r, q⟩ => ⟨I1.kIn, run_fnG hA F hr hb hd hx I1 r q⟩) he hpl
theorem pe_callG0 (hA : X.A.guards = some []) (F : FnG X.prog X.w X.K X.mg X.base CX k f fd ps sp) (hr : Room k X.A) (hg : Gl X x) (hm : X.mg x = some (.ref f)) (hk : PySem.W.keepIn X.K (.ref f) = true) (hb : Binds X.K fd ps ds) (hd : Vals dvs ds) (hx : Passes CX X E)
    (hdb : (x == ("__debug__" : Str)) = false := by decide) : PE X (.Call (.Name x p) [] [] pos) (tCall sp dvs E tNil) := by
  refine ⟨fun pins s σ H Q I h => wpAny_Call_Name_kw (ld_glob I hg hm ?_ hdb)⟩
  exact PySem.W.callWith_K0 I.kIn hk (run_fnG (us := []) hA F hr hb hd hx I .nil h)
end
/-! ### data with dicts, as repr reads it -/
def keyD : Key → PyData
  | .inl i => .int i
  | .inr x => .str x
mutual
inductive Dx (K : PySem.W.Frag) (H : Hp) : V → PyData → Prop
  | non : Dx K H .non .none
  | bl (b : Bool) : Dx K H (.bl b) (.bool b)
  | int (i : Int) : Dx K H (.int i) (.int i)
  | str (x : Str) : Dx K H (.str x) (.str x)
  | lst {a : Addr} {xs : List V} {ds : List PyData} : SqL K H a xs → DxAll K H xs ds → Dx K H (.ref a) (.list ds)
  | tup {a : Addr} {xs : List V} {ds : List PyData} : SqT K H a xs → DxAll K H xs ds → Dx K H (.ref a) (.tuple ds)
  | dic {a : Addr} {ks : List (Key × V)} {kvs : List (PyData × PyData)} : Rd H a (.dK ks) → kvs.map (·.1) = ks.map (fun p => keyD p.1) → DxAll K H (ks.map (·.2)) (kvs.map (·.2)) → Dx K H (.ref a) (.dict kvs)
inductive DxAll (K : PySem.W.Frag) (H : Hp) : List V → List PyData → Prop
  | nil : DxAll K H [] []
  | cons {v : V} {vs : List V} {d : PyData} {ds : List PyData} : Dx K H v d → DxAll K H vs ds → DxAll K H (v :: vs) (d :: ds)
end
section
variable {X : Cx} {pins : List (Addr × Obj)} {σ : St} {H : Hp} {s : Shared}
theorem keys_read {h : Heap} : ∀ {es : List DictEntry} {vs : List (Key × Value)} {knd : PySem.KeyKind X.prog X.w Key}, knd.is = keyIs → Pairs knd es vs → ReadsAll h (es.map (·.key)) (vs.map fun q => keyD q.1) []
  | _, _, _, _, .nil => .nil
  | e :: es, q :: qs, knd, hk, .cons h1 h2 h3 => by
    have r := keys_read (h := h) hk h3
    rw [hk] at h1
    rcases keyIs_shape h1 with ⟨i, t, e1, e2⟩ | ⟨x, t, e1, e2⟩
    · rw [List.map_cons, List.map_cons, e1, e2]
      exact .cons (as := []) (.int i t) r
    · rw [List.map_cons, List.map_cons, e1, e2]
      exact .cons (as := []) (.str x t) r
theorem pairs_vals {es : List DictEntry} {vs : List (Key × Value)} {knd : PySem.KeyKind X.prog X.w Key} (h : Pairs knd es vs) : es.map (·.val) = vs.map (·.2) := by
  induction h with
  | nil => rfl
  | cons h1 h2 h3 ih => rw [List.map_cons, List.map_cons, h2, ih]
theorem kv_keys {ks : List (Key × V)} {vs : List (Key × Value)} (h : KV ks vs) : vs.map (fun q => keyD q.1) = ks.map (fun p => keyD p.1) := by
  unfold KV at h
  induction h with
  | nil => rfl
  | cons h1 h2 ih => rw [List.map_cons, List.map_cons, ih, h1.1]
theorem kv_vals {ks : List (Key × V)} {vs : List (Key × Value)} (h : KV ks vs) : Vals (ks.map (·.2)) (vs.map (·.2)) := by
  unfold KV at h
  induction h with
  | nil => exact .nil
  | cons h1 h2 ih => exact .cons h1.2 ih
end
end L2

namespace L2
open PySem PySem.Spec PyProof.Rows
section
variable {X : Cx} {pins : List (Addr × Obj)} {σ : St} {H : Hp} {s : Shared}
/-- the module's dict of modules is among the written part's objects -/
def HasSm (K : PySem.W.Frag) : Prop := ∃ o, K.lookup sysModules = some o ∧ o.cls = .type "dict"
mutual
theorem Dx.reads (I : Inv X pins σ H s) (sm : HasSm X.K) : ∀ (d : PyData) (v : V) (u : Value), Dx X.K H v d → RelV v u → ∃ as, Reads s.heap u d as ∧ sysModules ∉ as
  | .none, _, _, h, r => by cases h; cases r; exact ⟨_, Reads.none, by simp⟩
  | .bool b, _, _, h, r => by cases h; cases r; exact ⟨_, Reads.bool b, by simp⟩
  | .int i, _, _, h, r => by cases h; obtain ⟨t, rfl⟩ := r; exact ⟨_, Reads.int i t, by simp⟩
  | .str x, _, _, h, r => by cases h; obtain ⟨t, rfl⟩ := r; exact ⟨_, Reads.str x t, by simp⟩
  | .list ds, _, _, h, r => by
    cases h with
    | lst hs ha =>
      cases r
      obtain ⟨its, rv, ⟨o, n, ho, hc, _, hd⟩, _⟩ := I.list hs
      obtain ⟨as, hr, hn⟩ := Dx.readsAll I sm ds _ its ha rv
      refine ⟨_, Reads.list ho hc hd hr, fun hm => ?_⟩
      rcases List.mem_cons.mp hm with e | hm
      · obtain ⟨o', k1, k2⟩ := sm
        have q := I.kIn _ _ k1
        rw [e, ho] at q
        cases q
        rw [hc] at k2
        exact absurd k2 (by decide)
      · exact hn hm
  | .tuple ds, _, _, h, r => by
    cases h with
    | tup hs ha =>
      cases r
      obtain ⟨its, rv, ⟨o, ho, hc, n, hd⟩, _⟩ := I.tuple hs
      obtain ⟨as, hr, hn⟩ := Dx.readsAll I sm ds _ its ha rv
      exact ⟨_, Reads.tuple ho hc hd hr, hn⟩
  | .dict kvs, _, _, h, r => by
    cases h with
    | dic hs hk ha =>
      cases r
      obtain ⟨_, hsm, vs, rel, o, es, ep, ho, hx, hd, _, hp, _⟩ := dk_rd I.hok hs
      obtain ⟨bs, hr, hn⟩ := Dx.readsKv I sm kvs _ (vs.map (·.2)) ha (kv_vals rel)
      have r1 : ReadsAll s.heap (es.toList.map (·.key)) (kvs.map (·.1)) [] := by
        rw [hk, ← kv_keys rel]
        exact keys_read (X := X) rfl hp
      rw [← pairs_vals hp] at hr
      refine ⟨_, Reads.dict ho hx.1 hd r1 hr, fun hm => ?_⟩
      rcases List.mem_append.mp hm with hm | hm
      · rw [List.mem_singleton.mp hm] at hsm
        simp at hsm
      · exact hn hm
theorem Dx.readsAll (I : Inv X pins σ H s) (sm : HasSm X.K) : ∀ (ds : List PyData) (vs : List V) (us : List Value), DxAll X.K H vs ds → Vals vs us → ∃ as, ReadsAll s.heap us ds as ∧ sysModules ∉ as
  | [], _, _, h, r => by cases h; cases r; exact ⟨_, ReadsAll.nil, by simp⟩
  | d :: ds, _, _, h, r => by
    cases h with
    | cons h1 h2 =>
      cases r with
      | cons r1 r2 =>
        obtain ⟨as, q1, n1⟩ := Dx.reads I sm d _ _ h1 r1
        obtain ⟨bs, q2, n2⟩ := Dx.readsAll I sm ds _ _ h2 r2
        exact ⟨_, ReadsAll.cons q1 q2, fun hm => (List.mem_append.mp hm).elim n1 n2⟩
theorem Dx.readsKv (I : Inv X pins σ H s) (sm : HasSm X.K) : ∀ (kvs : List (PyData × PyData)) (vs : List V) (us : List Value), DxAll X.K H vs (kvs.map (·.2)) → Vals vs us → ∃ as, ReadsAll s.heap us (kvs.map (·.2)) as ∧ sysModules ∉ as
  | [], _, _, h, r => by cases h; cases r; exact ⟨_, ReadsAll.nil, by simp⟩
  | (k, d) :: ds, _, _, h, r => by
    rw [List.map_cons] at h ⊢
    cases h with
    | cons h1 h2 =>
      cases r with
      | cons r1 r2 =>
        obtain ⟨as, q1, n1⟩ := Dx.reads I sm d _ _ h1 r1
        obtain ⟨bs, q2, n2⟩ := Dx.readsKv I sm ds _ _ h2 r2
        exact ⟨_, ReadsAll.cons q1 q2, fun hm => (List.mem_append.mp hm).elim n1 n2⟩
end
/-- what repr may be asked of: ints of less than 1920 bits, nested at most 60 deep, a text that fits -/
def Fine (d : PyData) : Prop := d.showable = true ∧ d.depth ≤ 60 ∧ d.shown.length ≤ sizeLine
def rReprD (K : PySem.W.Frag) : List V → Hp → VK → Prop := fun xs H Q => ∃ x d, xs = [x] ∧ Dx K H x d ∧ Fine d ∧ Q (.str d.shown) H
theorem call_reprD (hA : X.A.guards = some []) (hu : X.A.units + 64 < cLine) (sm : HasSm X.K) : CallR X (.builtin "repr") (rReprD X.K) := by
  intro pins s σ H xs us Q I r h
  obtain ⟨x, d, rfl, hd, ⟨h1, h2, h3⟩, q⟩ := h
  obtain ⟨u, rfl, ru⟩ := vals1 r
  obtain ⟨as, hr, hn⟩ := Dx.reads I sm d x u hd ru
  have fin : ∀ (h' : Heap) (t : Tok) (tk : Nat), (∀ b o, s.heap.get? b = some o → h'.get? b = some o) → EP X pins σ Q (.str d.shown t) { s with heap := h', toks := tk } := fun h' t tk hk =>
    ⟨.str _, H, I.kept (t' := tk) hk, ⟨t, rfl⟩, q⟩
  cases hr with
  | none => exact PySem.P.repr_of_none (fin s.heap _ _ fun _ _ e => e)
  | bool b => exact PySem.P.repr_of_bool (fin s.heap _ _ fun _ _ e => e)
  | int i t => exact PySem.P.repr_of_int (by simpa [PyData.showable] using h1) (fin s.heap _ _ fun _ _ e => e)
  | str y t => exact PySem.P.repr_of_str (fin s.heap _ _ fun _ _ e => e) h3
  | list a1 a2 a3 a4 => exact repr_of_reads' (.list a1 a2 a3 a4) h1 (fun _ => hn) hA (by omega) (fun _ _ e => e) (fun h' u tk hk => fin h' u tk hk) h3
  | tuple a1 a2 a3 a4 => exact repr_of_reads' (.tuple a1 a2 a3 a4) h1 (fun _ => hn) hA (by omega) (fun _ _ e => e) (fun h' u tk hk => fin h' u tk hk) h3
  | dict a1 a2 a3 a4 a5 => exact repr_of_reads' (.dict a1 a2 a3 a4 a5) h1 (fun _ => hn) hA (by omega) (fun _ _ e => e) (fun h' u tk hk => fin h' u tk hk) h3
end
end L2

namespace L2
open PySem PySem.Spec PyProof.Rows
section
variable {P : Program} {w : World} {K : PySem.W.Frag} {mg mb : Str → Option Value} {s₁ : Shared}
/-- the state behind the top, seen with the objects of H tracked: none of them holds names, none is the written part's -/
theorem top_env0 (KX : K.In s₁.heap) (hns : s₁.heap.Ns mainGlobals mg) (hb : s₁.heap.Ns builtinsNs mb) (hbb : ∀ x : Str, x ≠ "__name__" → mb x = bootBuiltins x) (hlim : s₁.heap.NoLimit) (hg : s₁.gens = #[])
    {H : Hp} (hok : HOk P w H s₁.heap) (hA : ∀ b o, H b ≠ none → s₁.heap.get? b = some o → ∀ es ep, o.data ≠ .dict es ep) (hK : ∀ b, H b ≠ none → K.lookup b = none) :
    Env0 P w K mg (hidT s₁.heap H) callerA [] s₁ H ∧ K.In (hidT s₁.heap H) ∧ (hidT s₁.heap H).Ns mainGlobals mg := by
  have keepN : ∀ {b : Addr} {m : Str → Option Value}, s₁.heap.Ns b m → (hidT s₁.heap H).Ns b m := fun {b m} ⟨o, es, ep, e, d, r⟩ =>
    ⟨o, es, ep, hidT_get e (Classical.byContradiction fun z => hA b o z e es ep d), d, r⟩
  have keepK : K.In (hidT s₁.heap H) := fun b o e => hidT_get (KX b o e) (Classical.byContradiction fun z => by rw [hK b z] at e; cases e)
  refine ⟨⟨rfl, ⟨keepK, keepN hns, ⟨mb, keepN hb, hbb⟩, ?_⟩, fun b o e => of_hidT e, Nat.le_of_eq (hidT_size _ _), trivial, fun b hb => ?_, hok, .of_eq hg⟩, keepK, keepN hns⟩
  · obtain ⟨mc, h1, h2⟩ := hlim
    exact ⟨mc, keepN h1, h2⟩
  · exact absurd (show b ∈ ([] : List Addr) from hb) (List.not_mem_nil)
/-- the law's call: its def promises where no repr is under way -/
theorem law_callG {CX : CXT} {k : Nat} {fa a : Addr} {fd : FuncData} {x : Str} {sp : Sp} {vs : List Value} {ns : List Int}
    (KX : K.In s₁.heap) (hns : s₁.heap.Ns mainGlobals mg) (hb : s₁.heap.Ns builtinsNs mb) (hbb : ∀ x : Str, x ≠ "__name__" → mb x = bootBuiltins x) (hlim : s₁.heap.NoLimit) (hg : s₁.gens = #[])
    (ha : s₁.heap.get? a = some { cls := .type "list", data := .seq vs.toArray }) (hi : IntsAre vs ns) (hl : ns.length ≤ sizeLine) (hr : Room k callerA)
    (F : ∀ base : Heap, K.In base → base.Ns mainGlobals mg → FnG P w K mg base CX k fa fd [x] sp) (hbind : ∀ (s : Shared) (u : Value), BindsTo s fd ⟨[u], []⟩ [(x, u)])
    (hsp : ∀ H : Hp, Only H → SqL K H a (ns.map V.int) → sp [.ref a] H (fun v _ => v = .bl true) fun _ _ _ => False)
    (hCX : ∀ H e s', CX [] H s₁ (fun _ _ _ => False) e s' → False) :
    codeAny (model P w) callerA (.call (.ref fa) ⟨[.ref a], []⟩) (fun r s' => r = .ok (.ret (.bool true)) ∧ OldK s₁.heap s'.heap ∧ s'.os = s₁.os ∧ AllBare s'.gens) s₁ := by
  have rv := vals_ints hi
  -- once H is chosen
  have go : ∀ H : Hp, Only H → SqL K H a (ns.map V.int) → HOk P w H s₁.heap → (∀ b, H b ≠ none → b = a ∧ K.lookup b = none) →
      codeAny (model P w) callerA (.call (.ref fa) ⟨[.ref a], []⟩) (fun r s' => r = .ok (.ret (.bool true)) ∧ OldK s₁.heap s'.heap ∧ s'.os = s₁.os ∧ AllBare s'.gens) s₁ := by
    intro H hO hS hok hA
    obtain ⟨e0, b1, b2⟩ := top_env0 (P := P) (w := w) KX hns hb hbb hlim hg hok (fun b o z e es ep d => by
      rw [(hA b z).1, ha] at e
      cases e
      exact Data.noConfusion d) fun b z => (hA b z).2
    refine codeAny_mono ((F _ b1 b2).run callerA [] s₁ H ⟨[.ref a], []⟩ [.ref a] [.ref a] _ _ hr rfl e0 (hbind s₁ (.ref a)) (.cons rfl .nil) (hsp H hO hS)) fun r s' h => ?_
    match r, h with
    | .error e, h => exact (hCX H e s' h).elim
    | .ok .next, h => exact h.elim
    | .ok .brk, h => exact h.elim
    | .ok .cont, h => exact h.elim
    | .ok (.ret u), h =>
      obtain ⟨v, H', os, bare, un, hok', r', q⟩ := h
      have q2 : v = .bl true := q
      subst q2
      obtain rfl : u = Value.bool true := r'
      refine ⟨rfl, OldK.of_keep fun b o e => ?_, os, bare⟩
      rcases hO b with z | ⟨ob, xs, z⟩
      · exact un.keep b o e z (List.not_mem_nil) (List.not_mem_nil)
      · have e1 := (hok b _ z).1
        have e2 := (hok' b _ (un.frzs b ob _ z)).1
        rw [e] at e1
        cases e1
        exact e2
  cases hk : K.lookup a with
  | some o =>
    have e := KX a o hk
    rw [ha] at e
    cases e
    refine go (fun _ => none) (fun _ => .inl rfl) (.inr ⟨_, vs.toArray, _, hk, rfl, rfl, rfl, ?_, by simpa using rv⟩) (fun b u z => nomatch (show (none : Option HO) = some u from z)) fun b z => absurd rfl z
    rw [List.size_toArray, hi.length]
    exact hl
  | none =>
    have at_a : ∀ {b : Addr} {u : HO}, (if b = a then some (HO.frz { cls := .type "list", data := .seq vs.toArray } (.lst (ns.map V.int))) else none) = some u → b = a ∧ u = .frz { cls := .type "list", data := .seq vs.toArray } (.lst (ns.map V.int)) := fun {b u} z => by
      split at z
      · rename_i hb
        cases z
        exact ⟨hb, rfl⟩
      · cases z
    refine go (fun b => if b = a then some (.frz { cls := .type "list", data := .seq vs.toArray } (.lst (ns.map V.int))) else none) (fun b => ?_) (.inl (.inr ⟨{ cls := .type "list", data := .seq vs.toArray }, if_pos rfl⟩)) (fun b u z => ?_) fun b z => ?_
    · by_cases hb : b = a
      · exact .inr ⟨_, _, if_pos hb⟩
      · exact .inl (if_neg hb)
    · obtain ⟨rfl, rfl⟩ := at_a z
      exact ⟨ha, by rw [List.length_map]; exact hl, vs, _, rv, ha⟩
    · obtain ⟨u, hu⟩ := Option.ne_none_iff_exists'.mp z
      obtain ⟨rfl, _⟩ := at_a hu
      exact ⟨rfl, hk⟩
end
/-- a law over a head by facts, its def under no repr -/
theorem walk_ofG {l : PySem.W.OpenLaw} {n k : Nat} {q : Program} {loose : List Str} {XP : (Str → Option Value) → Heap → Prop} {YP : World → Heap → Prop} {d : DefRec} {CX : CXT} {x : Str}
    (hn : l.most = some n) (hn2 : n ≤ sizeLine) (hdf : d.params.defaults = []) (hr : Room k callerA)
    (F : ∀ (w : World) (mg : Str → Option Value) (fa : Addr) (h : Heap), YP w h → h.Ns mainGlobals mg → mg d.name = some (.ref fa) →
      ∃ (K : PySem.W.Frag) (fd : FuncData) (sp : Sp), K.In h ∧ (∀ (s : Shared) (u : Value), BindsTo s fd ⟨[u], []⟩ [(x, u)]) ∧
        (∀ (H : Hp) (a : Addr) (ns : List Int), ns.length ≤ n → Only H → SqL K H a (ns.map V.int) → sp [.ref a] H (fun v _ => v = .bl true) fun _ _ _ => False) ∧
        ∀ base : Heap, K.In base → base.Ns mainGlobals mg → FnG l.prog w K mg base CX k fa fd [x] sp)
    (hCX : ∀ (H : Hp) (s : Shared) (e : Value) (s' : Shared), CX [] H s (fun _ _ _ => False) e s' → False) :
    PySem.W.WalkO q loose XP YP l.row.toRowW d [] (fun f vs => PySem.call f vs) := by
  refine Att.attach_call hn hdf fun w s₀ s₁ mg mb fa o pm cd doc a vs ns G Y ho hd hcd hmg hobj hints hlen hg => ?_
  obtain ⟨K, fd, sp, KX, hb, hsp, hF⟩ := F w mg fa _ Y G.T.g hmg
  exact law_callG KX G.T.g G.T.b G.T.builtins G.T.nolimit hg hobj hints (Nat.le_trans hlen hn2) hr hF hb (fun H => hsp H a ns hlen) fun H e s' => hCX H s₁ e s'
end L2

namespace PySem
namespace EXV
open PySem.W PySem.Calls PyProof.Rows PySem.HandSPX He L2
/-! ### a Hook: facts, defs, any tests of the written part, own error classes -/
abbrev FnC : Type := Option (Str × Str × Arguments × FuncBody × Scope × Addr × List Str × Value × Value × Addr)
def fnC (K : Frag) (a : Addr) : FnC := match K.lookup a with
  | some ⟨_, _, .func fd, _⟩ => some (fd.name, fd.qualname, fd.params, fd.body, fd.scope, fd.globals, fd.closure.map (·.1), fd.defaults, fd.kwdefaults, fd.builtins)
  | _ => none
/-- the text of an own error class: its name, its __init__'s qualified name, the field, the message, the places -/
structure ExD where
  x : Str
  q : Str
  fld : Str
  txt : Str
  k : Nat
  p : Nat → Pos
  p1 : Pos
  p2 : Pos
  b : Nat := 0
/-- the bases: 0 ValueError, 1 LookupError, 2 KeyError -/
def bNm : Nat → String
  | 0 => "ValueError"
  | 1 => "LookupError"
  | _ => "KeyError"
def bNw : Nat → String
  | 0 => "ValueError.__new__"
  | _ => "LookupError.__new__"
def bIn : Nat → String
  | 0 => "ValueError.__init__"
  | 1 => "LookupError.__init__"
  | _ => "KeyError.__init__"
def bTl : Nat → List Value
  | 0 => [.type "ValueError", .type "Exception", .type "BaseException", .type "object"]
  | 1 => [.type "LookupError", .type "Exception", .type "BaseException", .type "object"]
  | _ => keT
theorem b_base : ∀ b : Nat, BaseX (bNm b) (bNw b) (bIn b) (bTl b)
  | 0 => base_ValueError
  | 1 => base_LookupError
  | _ + 2 => base_KeyError
def ExD.val (d : ExD) : FnC := some ("__init__", d.q, xArgs d.fld d.p1 d.p2, .stmts (xBody d.fld d.txt d.k d.p), xScope d.fld, mainGlobals, ["__class__"], .none, .none, builtinsNs)
def clsB (nw : String) (T : List Value) (K : Frag) (C : Addr) : Bool := match K.lookup C with
  | some ⟨.type "type", _, .cls cd, sl⟩ => (match cd.mro, sl.toList with
    | .ref C' :: bm, [_, _, _, _, some (.builtin n), _] => C' == C && n == nw && !cd.hasDel && cd.hasDict && refsT T bm
    | _, _ => false)
  | _ => false
theorem clsB_ok {nw : String} {T : List Value} {K : Frag} {C : Addr} (h : clsB nw T K C = true) :
    ∃ nm q N bs bm sn sub ab col dd k0 k1 k2 k3 k5, K.lookup C = some (excClassObj nm q C N bs bm true sn sub ab col dd k0 k1 k2 k3 k5 nw) ∧ refsT T bm = true := by
  unfold clsB at h
  split at h
  · rename_i dd cd sl ho
    split at h
    · rename_i C' bm k0 k1 k2 k3 n k5 hm hs
      simp only [Bool.and_eq_true, beq_iff_eq, Bool.not_eq_true'] at h
      obtain ⟨⟨⟨⟨rfl, rfl⟩, h1⟩, h2⟩, h3⟩ := h
      obtain ⟨nm, bs, mro, ns, qn, hd, sn, sub, ab, col, del⟩ := cd
      dsimp only at hm h1 h2
      subst hm h1 h2
      obtain ⟨l⟩ := sl
      have hl : l = [k0, k1, k2, k3, some (.builtin n), k5] := hs
      subst hl
      exact ⟨nm, qn, ns, bs, bm, sn, sub, ab, col, dd, k0, k1, k2, k3, k5, ho, h3⟩
    · cases h
  · cases h
def fileB (K : Frag) (cd : Value) (file : Str) : Bool := match cd with
  | .ref c => (match K.lookup c with
    | some (⟨_, _, .fields vs, _⟩ : Obj) => (match (vs[2]? : Option Value) with
      | some (.str f _) => file == f
      | _ => false)
    | _ => false)
  | _ => false
theorem fileB_ok {K : Frag} {c : Addr} {file : Str} (h : fileB K (.ref c) file = true) :
    ∃ ccl cdd vs ccs f tf, K.lookup c = some ⟨ccl, cdd, .fields vs, ccs⟩ ∧ vs[2]? = some (.str f tf) ∧ (file == f) = true := by
  have h1 : (match K.lookup c with
    | some (⟨_, _, .fields vs, _⟩ : Obj) => (match (vs[2]? : Option Value) with
      | some (.str f _) => file == f
      | _ => false)
    | _ => false) = true := h
  split at h1
  · rename_i a b vs d e
    split at h1
    · rename_i f t e2
      exact ⟨_, _, _, _, _, _, e, e2, h1⟩
    · cases h1
  · cases h1
def cellB (K : Frag) (C : Addr) (l : List (Str × Addr)) : Bool := match l with
  | [(_, cc)] => (match K.lookup cc with
    | some ⟨_, _, .cell (some (.ref D)), _⟩ => D == C
    | _ => false)
  | _ => false
theorem cellB_ok {K : Frag} {C cc : Addr} {y : Str} (h : cellB K C [(y, cc)] = true) : ∃ cl cld csl, K.lookup cc = some ⟨cl, cld, .cell (some (.ref C)), csl⟩ := by
  have h1 : (match K.lookup cc with
    | some ⟨_, _, .cell (some (.ref D)), _⟩ => D == C
    | _ => false) = true := h
  split at h1
  · rename_i a b D d e
    rw [beq_iff_eq] at h1
    rw [← h1]
    exact ⟨_, _, _, e⟩
  · cases h1
def initB (K : Frag) (C fI : Addr) (q file : Str) : Bool := match K.lookup fI with
  | some ⟨_, _, .func fd, _⟩ => codeIn K fd.code q && fileB K fd.code file && cellB K C fd.closure
  | _ => false
def fldB (fld : Str) : Bool := (fld == ("self" : Str)) == false && ((("self" : Str) == fld) == false && ((fld == ("__class__" : Str)) == false && ((("__class__" : Str) == fld) == false && ((fld == ("super" : Str)) == false && ((("super" : Str) == fld) == false && (fld == ("__debug__" : Str)) == false)))))
def ExD.ok (file : Str) (K : Frag) (d : ExD) : Bool :=
  let C := ga K d.x
  let fI := ma K C "__init__"
  eqO (nsIn K mainGlobals d.x) (some (some (.ref C))) && (clsB (bNw d.b) (bTl d.b) K C && (eqO (findIn K (.ref C) "__setattr__") (some (some (.builtin "object.__setattr__"))) && (eqO (findIn K (.ref C) "__getattribute__") (some (some (.builtin "BaseException.__getattribute__"))) &&
  (eqO (findIn K (.ref C) "__getattr__") (some none) && (eqO (findIn K (.ref C) d.fld) (some none) && (eqO (findIn K (.ref C) "__init__") (some (some (.ref fI))) && (decide (typeIn K (.ref fI) = some (.type "function")) && (keepIn K (.ref C) &&
  (decide (subIn K (.ref C) (.type "BaseException") = some true) && (decide (subIn K (.ref C) (.type (bNm d.b)) = some true) && (decide (typeIn K (.ref C) = some (.type "type")) && (hasDictIn K C && (eqO (ks_superIn K C C "__init__") (some (some (.builtin (bIn d.b)))) &&
  (excInitIn K C (bTl d.b) (bNw d.b) && (decide (mroIn K C (.ref C) = some true) && (eqO (nsIn K cStatics "thirdparty.any") (some none) && (eqO (nsIn K mainGlobals "super") (some none) &&
  (initB K C fI d.q file && (((d.p 2).endLine == (d.p 4).line) && fldB d.fld)))))))))))))))))))
theorem ExD.toTxt {P : Program} {K : Frag} {h : Heap} {mg : Str → Option Value} {d : ExD} {file : Str} (X : K.In h) (G : h.Ns mainGlobals mg) (e : fnC K (ma K (ga K d.x) "__init__") = d.val) (c : d.ok file K = true) (hf : P.main.file = file)
    (topS : (P.main.scope.names.lookup ("super" : Str)).isSome = false)
    (hb : ∀ (doc pm : Value) (an : Option Addr) (cdv ct : Value) (cc : Addr) (a b : Value), bindArgs (ksFn "__init__" d.q (xArgs d.fld d.p1 d.p2) (xBody d.fld d.txt d.k d.p) (xScope d.fld) .none .none doc pm an cdv ct cc) ⟨[a, b], []⟩ = pure [(("self" : Str), a), (d.fld, b)]) :
    ExcTxt P K mg d.x d.q d.fld (ga K d.x) (ma K (ga K d.x) "__init__") := by
  unfold ExD.ok at c
  simp only [Bool.and_eq_true] at c
  obtain ⟨c1, c2, c3, c4, c5, c6, c7, c8, c9, c10, c11, c12, c13, c14, c15, c16, c17, c18, c19, c20, c21⟩ := c
  refine { gC := mg_of X G (eqO_ok c1), base := ⟨_, _, _, _, b_base d.b, clsB_ok c2, of_decide_eq_true c11, eqO_ok c14, c15⟩, sa := eqO_ok c3, ga := eqO_ok c4, gg := eqO_ok c5, noN := eqO_ok c6, iC := eqO_ok c7, tC := of_decide_eq_true c8, kC := c9, exC := of_decide_eq_true c10,
           tyC := of_decide_eq_true c12, hdC := c13, self := of_decide_eq_true c16, third := eqO_ok c17, noS := eqO_ok c18, fn := ?_, fldOk := ?_, topS := topS }
  · unfold initB at c19
    unfold fnC at e
    split at c19
    · rename_i oc od fd osl ho
      rw [ho] at e
      obtain ⟨n1, n2, n3, n4, n5, n6, n7, n8, n9, n10, n11, n12, n13, n14, n15⟩ := fd
      have e2 : (some (n1, n2, n3, n4, n5, n6, n7.map (·.1), n8, n9, n15) : FnC) = d.val := e
      unfold ExD.val at e2
      simp only [Option.some.injEq, Prod.mk.injEq] at e2
      obtain ⟨h1, h2, h3, h4, h5, h6, h7, h8, h9, h10⟩ := e2
      subst h1 h2 h3 h4 h5 h6 h8 h9 h10
      match n7, h7 with
      | [(y, cc)], h7 =>
        obtain rfl : y = "__class__" := (List.cons.inj h7).1
        simp only [Bool.and_eq_true] at c19
        obtain ⟨⟨k1, k2⟩, k3⟩ := c19
        have k1' : codeIn K n13 d.q = true := k1
        obtain ⟨cda, rfl⟩ : ∃ c, n13 = .ref c := by
          cases n13 with
          | ref c => exact ⟨c, rfl⟩
          | _ => cases k1'
        refine ⟨oc, od, n10, n11, n12, cda, n14, osl, cc, d.txt, d.k, d.p, d.p1, d.p2, ho, k1', ?_, c20, cellB_ok k3, fun a b => hb _ _ _ _ _ _ _ _⟩
        rw [hf]
        exact fileB_ok k2
    · cases c19
  · unfold fldB at c21
    simp only [Bool.and_eq_true, beq_iff_eq] at c21
    exact c21
/-! the Hook -/
abbrev AlX : Type := Bool × List FnW × List FnC
def obsX (file : Str) (bs : List (Frag → Bool)) (fa : List Fa) (fn : List DefD) (ex : List ExD) (K : Frag) : AlX :=
  ((fa.all fun f => f.ok K) && ((fn.all fun d => d.ok K) && ((bs.all fun b => b K) && ex.all fun d => d.ok file K)), fn.map fun d => fnW K d.at_, ex.map fun d => fnC K (ma K (ga K d.x) "__init__"))
def valX (fn : List DefD) (ex : List ExD) : AlX := (true, fn.map DefD.val, ex.map ExD.val)
def SaysX (file : Str) (bs : List (Frag → Bool)) (fa : List Fa) (fn : List DefD) (ex : List ExD) (K : Frag) : Prop := obsX file bs fa fn ex K = valX fn ex
def obsXG (n : Nat) (file : Str) (bs : List (Frag → Bool)) (fa : List Fa) (fn : List DefD) (ex : List ExD) (g : Addr → Option Obj) : AlX := obsX file bs fa fn ex (frG g (asD g n ++ [cStatics, sysModules]))
def hookX (n : Nat) (file : Str) (bs : List (Frag → Bool)) (fa : List Fa) (fn : List DefD) (ex : List ExD) : Hook where
  α := AlX
  obs := fun s => obsXG n file bs fa fn ex s.heap.get?
  val := fun _ => valX fn ex
  says := fun _ h => ∃ K : Frag, K.In h ∧ SaysX file bs fa fn ex K
  of := fun _ _ e => ⟨_, frG_in, e⟩
  keeps := fun _ _ _ ⟨K, hK, c⟩ k => ⟨K, Frag.In.keeps hK k, c⟩
/-- the same over given addresses: no walk through the heap to find them -/
def obsYG (as : List Addr) (file : Str) (bs : List (Frag → Bool)) (fa : List Fa) (fn : List DefD) (ex : List ExD) (g : Addr → Option Obj) : AlX := obsX file bs fa fn ex (frG g as)
def hookY (as : List Addr) (file : Str) (bs : List (Frag → Bool)) (fa : List Fa) (fn : List DefD) (ex : List ExD) : Hook where
  α := AlX
  obs := fun s => obsYG as file bs fa fn ex s.heap.get?
  val := fun _ => valX fn ex
  says := fun _ h => ∃ K : Frag, K.In h ∧ SaysX file bs fa fn ex K
  of := fun _ _ e => ⟨_, frG_in, e⟩
  keeps := fun _ _ _ ⟨K, hK, c⟩ k => ⟨K, Frag.In.keeps hK k, c⟩
theorem obsYG_eq {as : List Addr} {file : Str} {bs : List (Frag → Bool)} {fa : List Fa} {fn : List DefD} {ex : List ExD} {g : Addr → Option Obj} {s : Shared} (h : ∀ a, g a = s.heap.get? a) : obsYG as file bs fa fn ex g = (hookY as file bs fa fn ex).obs s := by
  have e : g = s.heap.get? := funext h
  rw [e] <;> rfl
theorem obsXG_eq {n : Nat} {file : Str} {bs : List (Frag → Bool)} {fa : List Fa} {fn : List DefD} {ex : List ExD} {g : Addr → Option Obj} {s : Shared} (h : ∀ a, g a = s.heap.get? a) : obsXG n file bs fa fn ex g = (hookX n file bs fa fn ex).obs s := by
  have e : g = s.heap.get? := funext h
  rw [e] <;> rfl
section
variable {file : Str} {bs : List (Frag → Bool)} {fa : List Fa} {fn : List DefD} {ex : List ExD} {K : Frag}
theorem SaysX.all (c : SaysX file bs fa fn ex K) : ((fa.all fun f => f.ok K) && ((fn.all fun d => d.ok K) && ((bs.all fun b => b K) && ex.all fun d => d.ok file K))) = true := congrArg (fun z : AlX => z.1) c
theorem SaysX.fact (c : SaysX file bs fa fn ex K) (i : Nat) {f : Fa} (h : fa[i]? = some f := by rfl) : f.ok K = true := List.all_eq_true.mp (ba c.all).1 f (List.mem_of_getElem? h)
theorem SaysX.test (c : SaysX file bs fa fn ex K) (i : Nat) {b : Frag → Bool} (h : bs[i]? = some b := by rfl) : b K = true := List.all_eq_true.mp (ba (ba (ba c.all).2).2).1 b (List.mem_of_getElem? h)
theorem SaysX.def_ (c : SaysX file bs fa fn ex K) (i : Nat) {d : DefD} (h : fn[i]? = some d := by rfl) : ∃ fd, FunD K d.name d.qual d.params d.body d.scope (d.dvs K) (d.kws K) (fAd K d.at_) fd := by
  have c2 := (ba (ba c.all).2).1
  have e : fn.map (fun d => fnW K d.at_) = fn.map DefD.val := congrArg (fun z : AlX => z.2.1) c
  have e2 : (fn.map fun d => fnW K d.at_)[i]? = (fn.map DefD.val)[i]? := by rw [e]
  rw [List.getElem?_map, List.getElem?_map, h] at e2
  exact DefD.funD (Option.some.inj e2) (List.all_eq_true.mp c2 d (List.mem_of_getElem? h))
theorem SaysX.exc (c : SaysX file bs fa fn ex K) {P : Program} {h : Heap} {mg : Str → Option Value} (X : K.In h) (G : h.Ns mainGlobals mg) (hf : P.main.file = file) (topS : (P.main.scope.names.lookup ("super" : Str)).isSome = false) (i : Nat) {d : ExD} (hd : ex[i]? = some d := by rfl)
    (hb : ∀ (doc pm : Value) (an : Option Addr) (cdv ct : Value) (cc : Addr) (a b : Value), bindArgs (ksFn "__init__" d.q (xArgs d.fld d.p1 d.p2) (xBody d.fld d.txt d.k d.p) (xScope d.fld) .none .none doc pm an cdv ct cc) ⟨[a, b], []⟩ = pure [(("self" : Str), a), (d.fld, b)]) :
    ExcTxt P K mg d.x d.q d.fld (ga K d.x) (ma K (ga K d.x) "__init__") := by
  have c2 := (ba (ba (ba c.all).2).2).2
  have e : ex.map (fun d => fnC K (ma K (ga K d.x) "__init__")) = ex.map ExD.val := congrArg (fun z : AlX => z.2.2) c
  have e2 : (ex.map fun d => fnC K (ma K (ga K d.x) "__init__"))[i]? = (ex.map ExD.val)[i]? := by rw [e]
  rw [List.getElem?_map, List.getElem?_map, hd] at e2
  exact ExD.toTxt X G (Option.some.inj e2) (List.all_eq_true.mp c2 d (List.mem_of_getElem? hd)) hf topS hb
end
def smB (K : Frag) : Bool := match K.lookup sysModules with
  | some ⟨.type c, _, _, _⟩ => c == "dict"
  | _ => false
theorem smB_ok {K : Frag} (h : smB K = true) : L2.HasSm K := by
  unfold smB at h
  split at h
  · rename_i c a b d e
    rw [beq_iff_eq] at h
    subst h
    exact ⟨_, e, rfl⟩
  · cases h
end EXV
end PySem

namespace L2
open PySem PySem.Spec PyProof.Rows
/-! ### try with several clauses, each by one name, with or without 'as'; clauses that are never reached may be of any form -/
inductive Cl where
  | one (c : Value) (ts : Addr → Value → Option Addr → TS)
  | as_ (c : Value) (i : Nat) (ts : Addr → Value → Option Addr → TS)
/-- the ends of a suite whose name goes at its end -/
abbrev goneE (i : Nat) (D : Ends) : Ends := { nx := fun σ' H' => D.nx (σ'.set i none) H', rt := D.rt, bk := fun σ' H' => D.bk (σ'.set i none) H', ct := fun σ' H' => D.ct (σ'.set i none) H' }
def wG (K : PySem.W.Frag) (D : Ends) : List Cl → WX
  | [] => fun _ _ _ _ => False
  | .one c ts :: r => fun cls d σ H => ∃ b, PySem.W.exmOne K cls c = some b ∧ (b = true → ∀ a, H a = none → ts a cls d D σ H) ∧ (b = false → wG K D r cls d σ H)
  | .as_ c i ts :: r => fun cls d σ H => ∃ b, PySem.W.exmOne K cls c = some b ∧ (b = true → ∀ a, H a = none → ts a cls d (goneE i D) (σ.set i (some (.ref a))) H) ∧ (b = false → wG K D r cls d σ H)
/-- a suite of a clause -/
abbrev SuOk (X : Cx) (suite : List Stmt) (ts : Addr → Value → Option Addr → TS) : Prop :=
  ∀ (a : Addr) (oe : Obj) (cls : Value) (d : Option Addr) (pn : List (Addr × Obj)), Zc cls d oe → (∃ vs, oe.data = .fields vs) → PSs (X.suite a ((a, oe) :: pn)) suite (ts a cls d)
inductive HdsG (X : Cx) : List ExceptHandler → List Cl → Prop
  | stop {hds : List ExceptHandler} : HdsG X hds []
  | one {x : Str} {c : Value} {ts : Addr → Value → Option Addr → TS} {b₀ : Stmt} {suite : List Stmt} {np pos' : Pos} {hds : List ExceptHandler} {l : List Cl} (hc : Names X x c) (hsu : SuOk X (b₀ :: suite) ts) (r : HdsG X hds l) :
      HdsG X (.ExceptHandler (some (.Name x np)) none (b₀ :: suite) pos' :: hds) (.one c ts :: l)
  | as_ {x n : Str} {c : Value} {i : Nat} {ts : Addr → Value → Option Addr → TS} {b₀ : Stmt} {suite : List Stmt} {np pos' : Pos} {hds : List ExceptHandler} {l : List Cl} (hN : X.N.Nodup) (hi : X.N[i]? = some n) (hln : X.env.kindOf n = some .local) (hc : Names X x c)
      (hsu : SuOk X (b₀ :: suite) ts) (r : HdsG X hds l) : HdsG X (.ExceptHandler (some (.Name x np)) (some n) (b₀ :: suite) pos' :: hds) (.as_ c i ts :: l)
section
variable {X : Cx} {body : List Stmt} {h₀ : ExceptHandler} {hds : List ExceptHandler} {l : List Cl} {pos : Pos} {tb : WX → TS}
theorem ps_tryG (hs : X.stack = X.env :: X.outer) (hf : X.env.frame = some X.env.locals)
    (hb : ∀ (W : WX) (pn : List (Addr × Obj)) (xe : Value → Shared → Prop), Takes (X.tr pn xe) W → PassesOwn (model X.prog X.w) X.A X.env xe → PSs (X.tr pn xe) body (tb W))
    (hh : HdsG X (h₀ :: hds) l) : PS X (.Try body (h₀ :: hds) [] [] pos) (fun D σ H => tb (wG X.K D l) D σ H) := by
  refine ⟨fun pins s σ H D I h => ?_⟩
  have ok := I.ok
  have hfr : X.A.frames = some (X.env :: X.outer) := by rw [ok.frames, hs]
  -- an end of the body, of a suite
  have done : ∀ {f : Flow} {s1 : Shared} {pn : List (Addr × Obj)} {xe : Value → Shared → Prop}, SP (X.tr (X.pn ++ pins) xe) pn D f s1 → SP X pins D f s1 := fun {f s1 pn xe} hsp => by
    cases f with
    | next => obtain ⟨σ', H', J', q⟩ := hsp; exact ⟨σ', H', J'.ofTry ok, q⟩
    | brk => obtain ⟨σ', H', J', q⟩ := hsp; exact ⟨σ', H', J'.ofTry ok, q⟩
    | cont => obtain ⟨σ', H', J', q⟩ := hsp; exact ⟨σ', H', J'.ofTry ok, q⟩
    | ret u => obtain ⟨v, σ', H', J', r, q⟩ := hsp; exact ⟨v, σ', H', J'.ofTry ok, r, q⟩
  refine wpAny_Try_except ?_
  refine wpAny_mono ((hb (wG X.K D l) (X.pn ++ pins) (fun e s₁ => wpAny (model X.prog X.w) X.A (noteFrame e X.env) (fun _ s₂ => wpAny (model X.prog X.w) X.A (setFlight e none) (fun _ s₃ =>
    wpAny (model X.prog X.w) X.A (handleBy e X.env (h₀ :: hds)) (SP X pins D) X.xe s₃) X.xe s₂) X.xe s₁) (fun u s' xx => ?_) PassesOwn.looking).run [] s σ H D (I.toTry _) h) (fun f s1 hsp => ?_) (fun e s1 he => he)
  · obtain ⟨a, B, sI, pins', σ', H', cls, d, rfl, J', nb, up, sky, na, os, ag, w⟩ := xx
    have J : Inv X pins σ' H' sI := J'.ofTry ok
    have sky' : Sky B (X.env :: X.outer) a (Zc cls d) X.env.locals s'.heap := by rw [← hs]; exact sky
    show wpAny (model X.prog X.w) X.A (noteFrame (.ref a) X.env) _ _ _
    refine Sky.land Zc.steady hfr hf sky' fun h3 fl3 up3 => ?_
    have J3 : Inv X pins σ' H' { s' with heap := h3 } := J.landed nb fl3.1 (up.trans up3) os ag
    obtain ⟨oe3, vs3, he3, hz3, hd3⟩ := fl3.there
    have nfr : a ∉ frs (X.env :: X.outer) := fun hm => by
      obtain ⟨_, o', e', hnf⟩ := fl3.2.2.1.mem hm
      rw [he3] at e'
      cases e'
      exact hnf _ hd3
    have nL : a ≠ X.env.locals := fun z => nfr (List.mem_filterMap.mpr ⟨X.env, List.mem_cons_self, by rw [hf, z]⟩)
    have nF : a ∉ X.fs := fun hm => by
      obtain ⟨e, he, q⟩ := List.mem_filterMap.mp hm
      exact nfr (List.mem_filterMap.mpr ⟨e, List.mem_cons_of_mem _ he, q⟩)
    have S3 := J3.suite he3 hd3 na nL nF
    have LT : PySem.W.Looks (model X.prog X.w) h3 (typeOf (.ref a)) cls := fun A Q E s k q => wpAny_typeOf_ref (k _ _ he3) (by rw [hz3.1]; exact q)
    have test : ∀ {x : Str} {np : Pos} {c : Value} {Q E : Value → Shared → Prop}, Names X x c → Q c { s' with heap := h3 } → wpAny (model X.prog X.w) (X.A.mark (some (.ref a))) (eval (.Name x np) X.env) Q E { s' with heap := h3 } := fun hc q => by
      obtain ⟨hg, hdbg, hm | ⟨hm, hv, hnn⟩⟩ := hc
      · exact ld_glob (X := X.suite a ((a, oe3) :: (X.pn ++ pins))) S3 hg hm q hdbg
      · exact ld_blt (X := X.suite a ((a, oe3) :: (X.pn ++ pins))) S3 hg hm hv q hnn hdbg
    have go : ∀ {hds' : List ExceptHandler} {l' : List Cl}, HdsG X hds' l' → wG X.K D l' cls d σ' H' → wpAny (model X.prog X.w) X.A (handleBy (.ref a) X.env hds') (SP X pins D) X.xe { s' with heap := h3 } := by
      intro hds' l' hk
      induction hk with
      | stop => exact fun w => False.elim w
      | one hc hsu r ih =>
        intro w
        obtain ⟨b, hb1, hyes, hno⟩ := w
        refine wpAny_handleBy_cons (codeAny_handlers_test ?_) (by intro q; cases q)
        refine test hc ((PySem.W.exm_one (M := model X.prog X.w) J3.kIn LT hb1).here ?_)
        cases b with
        | false => exact ih (hno rfl)
        | true =>
          refine codeAny_handlers_suite (HandSPX.lands_againZ fl3 fun h4 fl4 up4 => ?_)
          have J4 : Inv X pins σ' H' { s' with heap := h4 } := J.landed nb fl4.1 ((up.trans up3).trans up4) os ag
          obtain ⟨oe4, vs4, he4, hz4, hd4⟩ := fl4.there
          refine wpAny_mono ((hsu a oe4 cls d (X.pn ++ pins) hz4 ⟨_, hd4⟩).run [] _ _ H' _ (J4.suite he4 hd4 na nL nF) (hyes rfl a na)) (fun f s6 hsp => ?_) (fun _ _ z => False.elim z)
          cases f with
          | next => obtain ⟨σ6, H6, S6, q6⟩ := hsp; exact ⟨_, _, S6.unsuite ok, q6⟩
          | brk => obtain ⟨σ6, H6, S6, q6⟩ := hsp; exact ⟨_, _, S6.unsuite ok, q6⟩
          | cont => obtain ⟨σ6, H6, S6, q6⟩ := hsp; exact ⟨_, _, S6.unsuite ok, q6⟩
          | ret u => obtain ⟨v6, σ6, H6, S6, r6, q6⟩ := hsp; exact ⟨_, _, _, S6.unsuite ok, r6, q6⟩
      | as_ hN hi hln hc hsu r ih =>
        intro w
        obtain ⟨b, hb1, hyes, hno⟩ := w
        refine wpAny_handleBy_cons (codeAny_handlers_test ?_) (by intro q; cases q)
        refine test hc ((PySem.W.exm_one (M := model X.prog X.w) J3.kIn LT hb1).here ?_)
        cases b with
        | false => exact ih (hno rfl)
        | true =>
          refine codeAny_handlers_suite_as (HandSPX.lands_againZ fl3 fun h4 fl4 up4 => ?_)
          have J4 : Inv X pins σ' H' { s' with heap := h4 } := J.landed nb fl4.1 ((up.trans up3).trans up4) os ag
          obtain ⟨oe4, vs4, he4, hz4, hd4⟩ := fl4.there
          refine store_ok (X := X.suite a ((a, oe4) :: (X.pn ++ pins))) (v := .ref a) (J4.suite he4 hd4 na nL nF) hN hi (.inl hln) rfl (fun s5 S5 => ?_) (.inr hln)
          refine wpAny_mono ((hsu a oe4 cls d (X.pn ++ pins) hz4 ⟨_, hd4⟩).run [] s5 _ H' _ S5 (hyes rfl a na)) (fun f s6 hsp => ?_) (fun _ _ z => False.elim z)
          cases f with
          | next => obtain ⟨σ6, H6, S6, q6⟩ := hsp; exact gone_ok (S6.unsuite ok) hN hi hln fun s7 J7 => ⟨_, _, J7, q6⟩
          | brk => obtain ⟨σ6, H6, S6, q6⟩ := hsp; exact gone_ok (S6.unsuite ok) hN hi hln fun s7 J7 => ⟨_, _, J7, q6⟩
          | cont => obtain ⟨σ6, H6, S6, q6⟩ := hsp; exact gone_ok (S6.unsuite ok) hN hi hln fun s7 J7 => ⟨_, _, J7, q6⟩
          | ret u => obtain ⟨v6, σ6, H6, S6, r6, q6⟩ := hsp; exact gone_ok (S6.unsuite ok) hN hi hln fun s7 J7 => ⟨_, _, _, J7, r6, q6⟩
    exact go hh w
  · have r := done hsp
    cases f with
    | next => exact wpAny_execs_nil r
    | brk => exact r
    | cont => exact r
    | ret u => exact r
end
end L2

namespace PySem
namespace EXV
open PySem.W PySem.Calls PyProof.Rows PySem.Spec
section
variable {prog : Program} {w : World} {M : Model} {A : Around} {E : Value → Shared → Prop} {s : Shared} {K : Frag} {x C f : Addr} {ox : Obj} {od : Option Obj}
theorem ifBound_B {name : Str} {id : String} {args : List Value} {Q : Option Value → Shared → Prop} (X : K.In s.heap) (I : InstAt s.heap x ox C od) (hs : findIn K (.ref C) name = some (some (.builtin id)))
    (hb : ∀ self, bindSpecial (.builtin id) self = pure (.builtin id, [self])) (h : wpAny M A (call (.builtin id) (.ref x :: args)) (fun v => Q (some v)) E s) : wpAny M A (callSpecialIfBound? (.ref x) name args) Q E s := by
  simp only [callSpecialIfBound?, bindSpecialIfBound?]
  refine wpAny_holding (wpAny_bind (wpAny_bind (wpAny_bind (I.type.here ((looks_findIn X hs).here ?_)))))
  refine wpAny_bind (wpAny_askSetting (wpAny_ite ?_))
  have fin : wpAny M A (call (.builtin id) ([.ref x] ++ args) >>= fun v => pure (some v)) Q E s := wpAny_bind (wpAny_mono h (fun v s' h' => wpAny_pure h') fun _ _ h' => h')
  split
  · exact wpAny_bind ((Looks.of_pure (hb _)).here (wpAny_pure (by exact fin)))
  · exact wpAny_tryCatch (wpAny_bind ((Looks.of_pure (hb _)).here (wpAny_pure (by exact fin))))
open Builtin in
/-- x != b, x's class has its own __eq__, object's __ne__ -/
theorem ne_K {b tb : Value} {Q : Value → Shared → Prop} (hu : A.units + 1 < cLine) (X : K.In s.heap) (I : InstAt s.heap x ox C od) (hb : Looks (model prog w) s.heap (typeOf b) tb) (hn : notFirst K C tb = true)
    (hne : findIn K (.ref C) "__ne__" = some (some (.builtin "object.__ne__"))) (hm : mroIn K C (.type "object") = some true) (hs : findIn K (.ref C) "__eq__" = some (some (.ref f))) (hf : isFn K (.ref f) = true)
    (h : wpAny (model prog w) A.in1 (call (.ref f) [.ref x, b]) (fun v s' => ∃ r, v = .bool r ∧ Q (.bool (!r)) s') E s) : wpAny (model prog w) A (richCompare .NotEq (.ref x) b) Q E s := by
  have entry : wpAny (model prog w) A.in1 (Builtin.«object.__ne__» ⟨[.ref x, b], []⟩) (fun fin s' => ∃ v, fin = .done (.ret v) ∧ ∃ r, v = .bool (!r) ∧ Q (.bool (!r)) s') E s := by
    unfold Builtin.«object.__ne__»
    repeat (first
      | with_reducible refine wpAny_cRoomFor (by show A.units + 1 < cLine; exact hu) ?_
      | (refine wpAny_bind (m := callSpecialIfBound? (.ref x) (Str.ofString "__eq__") [b])
          (ifBound_K X I hs hf (wpAny_mono h (fun r s' hr => by
            obtain ⟨r, rfl, hq⟩ := hr
            repeat (first | exact ⟨_, rfl, _, rfl, hq⟩ | exact wpAny_pure ⟨_, rfl, _, rfl, hq⟩ | exact wpAny_truthy_bool ⟨_, rfl, _, rfl, hq⟩ | (refine wpAny_bind (m := truthy (.bool _)) (wpAny_truthy_bool ?_)) | wp_step)) fun _ _ e => e)))
      | wp_step)
  have one : wpAny (model prog w) A (tryCompare (.ref x) "__ne__" b) (fun r s' => ∃ v, r = some v ∧ Q v s') E s := by
    unfold tryCompare
    refine wpAny_bind (ifBound_B X I hne PySem.F.slot_object_ne.bind (wpAny_call (codeAny_call_builtin PySem.F.slot_object_ne.plain PySem.F.entry_object_ne
      (check_slot (i := "object.__ne__") (owner := "object") (n := "__ne__") (by decide +kernel) (by decide +kernel) (I.type.andThen (looks_mroIn X hm)) (PySem.F.args_object_ne_2 _ _) (wpAny_mono entry (fun fin s' z => ?_) fun _ _ z => z)))))
    obtain ⟨v, rfl, r, rfl, q⟩ := z
    first | exact wpAny_pure ⟨_, rfl, q⟩ | (show wpAny _ _ _ _ _ _; exact wpAny_pure ⟨_, rfl, q⟩)
  unfold richCompare
  simp only [oneThing_ref]
  refine wpAny_holding (wpAny_bind (wpAny_cRoomFor (Nat.lt_of_succ_lt hu) ?_))
  rw [cmpInfo_NotEq]
  dsimp only
  refine wpAny_bind (I.type.here (wpAny_bind (hb.here ?_)))
  split
  · rename_i q
    have e : subIn K tb (.ref C) = some false := by
      rcases Bool.or_eq_true_iff.mp hn with e | e
      · rw [beq_iff_eq.mp e] at q; simp at q
      · exact beq_iff_eq.mp e
    refine wpAny_bind ((looks_subIn X e).here ?_)
    simp only [Bool.false_eq_true, if_false]
    refine wpAny_bind (wpAny_mono one (fun r s' z => ?_) fun _ _ e => e)
    obtain ⟨v, rfl, hq⟩ := z
    exact wpAny_pure hq
  · refine wpAny_bind (wpAny_pure ?_)
    simp only [Bool.false_eq_true, if_false]
    refine wpAny_bind (wpAny_mono one (fun r s' z => ?_) fun _ _ e => e)
    obtain ⟨v, rfl, hq⟩ := z
    exact wpAny_pure hq
end
end EXV
end PySem
namespace L2
open PySem PySem.Spec PyProof.Rows
section
variable {X : Cx} {CX : CXT} {k : Nat} {C f : Addr} {fd : FuncData} {ps : List Str} {sp : Sp} {E : XK}
/-- the callee runs at another depth of the same frames -/
theorem run_fnAt {A' : Around} {pins : List (Addr × Obj)} {σ : St} {H : Hp} {s : Shared} {Q : VK} {us : List Value} {vs : List V} (hfr : A'.frames = X.A.frames) (F : FnOk X.prog X.w X.K X.mg X.base CX k f fd ps sp) (hr : Room k A') (hb : Binds X.K fd ps []) (hx : Passes CX X E)
    (I : Inv X pins σ H s) (r : Vals vs us) (h : sp vs H Q E) : wpAny (model X.prog X.w) A' (call (.ref f) us) (EP X pins σ Q) X.xe s := by
  have e := I.env0
  have e0 : Env0 X.prog X.w X.K X.mg X.base A' X.stack s H := ⟨by rw [hfr]; exact e.frames, e.mod, e.bs, e.bsz, e.funs, e.frf, e.hok, e.bare⟩
  have b := hb s us I.kIn (by rw [List.append_nil, ← r.length]; exact F.len _ _ _ _ h)
  rw [List.append_nil] at b
  refine wpAny_call (codeAny_mono (F.run A' X.stack s H ⟨us, []⟩ us vs Q E hr e0 b r h) fun r s' hq => ?_)
  match r, hq with
  | .error e, hq => exact hx pins σ H s e s' I hq
  | .ok (.ret u), hq => exact I.after hq
  | .ok .next, hq => exact hq.elim
  | .ok .brk, hq => exact hq.elim
  | .ok .cont, hq => exact hq.elim
/-! ### own ==, != and str, with both answers, the other operand of any type -/
def rEqX (K : PySem.W.Frag) (C : Addr) (sp : Sp) (E : XK) : R2 := fun x y H Q => ∃ a dx fs t, x = .ref a ∧ H a = some (.ins C dx fs) ∧ TyX K H y t ∧ PySem.W.notFirst K C t = true ∧ sp [x, y] H (fun v H' => ∃ b, v = .bl b ∧ Q (.bl b) H') E
def rNeX (K : PySem.W.Frag) (C : Addr) (sp : Sp) (E : XK) : R2 := fun x y H Q => ∃ a dx fs t, x = .ref a ∧ H a = some (.ins C dx fs) ∧ TyX K H y t ∧ PySem.W.notFirst K C t = true ∧ sp [x, y] H (fun v H' => ∃ b, v = .bl b ∧ Q (.bl (!b)) H') E
def rStrX (C : Addr) (sp : Sp) (E : XK) : List V → Hp → VK → Prop := fun xs H Q => ∃ a dx fs, xs = [.ref a] ∧ H a = some (.ins C dx fs) ∧ sp [.ref a] H (fun v H' => ∃ b, v = .str b ∧ Q (.str b) H') E
theorem op_eqX (F : FnOk X.prog X.w X.K X.mg X.base CX k f fd ps sp) (hr : Room k X.A) (hb : Binds X.K fd ps []) (hx : Passes CX X E) (hs : PySem.W.findIn X.K (.ref C) "__eq__" = some (some (.ref f))) (hf : PySem.W.isFn X.K (.ref f) = true) :
    OpR X (compareOp .Eq) (rEqX X.K C sp E) := by
  intro pins s σ H x y v u Q I rx ry h
  obtain ⟨a, dx, fs, t, rfl, ha, ty, hn, hsp⟩ := h
  cases rx
  obtain ⟨mA, J, _⟩ := ins_get I.hok ha
  obtain ⟨od, J, _⟩ := J.look
  obtain ⟨m, hF⟩ := I.fr
  obtain ⟨P, Z, p, _⟩ := kit_of I ry ty
  refine PySem.W.cmp_K (op := .Eq) (tb := t) hr.units0 hF I.ok.mod.kin J (Z.ty _ _ I.kIn p) hn hs hf ?_
  refine wpAny_mono (run_fnAt (vs := [.ref a, y]) rfl F hr hb hx I (.cons rfl (.cons ry .nil)) hsp) (fun w s' z => ?_) fun _ _ z => z
  obtain ⟨v', H', I', rv, b, rfl, q⟩ := z
  obtain rfl : w = .bool b := rv
  exact ⟨.bl b, H', I', rfl, q⟩
theorem op_neX (F : FnOk X.prog X.w X.K X.mg X.base CX k f fd ps sp) (hr : Room (k + 1) X.A) (hb : Binds X.K fd ps []) (hx : Passes CX X E) (hne : PySem.W.findIn X.K (.ref C) "__ne__" = some (some (.builtin "object.__ne__"))) (hm : PySem.W.mroIn X.K C (.type "object") = some true)
    (hs : PySem.W.findIn X.K (.ref C) "__eq__" = some (some (.ref f))) (hf : PySem.W.isFn X.K (.ref f) = true) : OpR X (compareOp .NotEq) (rNeX X.K C sp E) := by
  intro pins s σ H x y v u Q I rx ry h
  obtain ⟨a, dx, fs, t, rfl, ha, ty, hn, hsp⟩ := h
  cases rx
  obtain ⟨mA, J, _⟩ := ins_get I.hok ha
  obtain ⟨od, J, _⟩ := J.look
  obtain ⟨P, Z, p, _⟩ := kit_of I ry ty
  refine PySem.EXV.ne_K (by have := hr.un; omega) I.kIn J (Z.ty _ _ I.kIn p) hn hne hm hs hf ?_
  refine wpAny_mono (run_fnAt (vs := [.ref a, y]) rfl F hr.in1 hb hx I (.cons rfl (.cons ry .nil)) hsp) (fun w s' z => ?_) fun _ _ z => z
  obtain ⟨v', H', I', rv, b, rfl, q⟩ := z
  obtain rfl : w = .bool b := rv
  exact ⟨b, rfl, .bl (!b), H', I', rfl, q⟩
theorem call_strX (F : FnOk X.prog X.w X.K X.mg X.base CX k f fd ps sp) (hr : Room (k + 2) X.A) (hb : Binds X.K fd ps []) (hx : Passes CX X E) (hs : PySem.W.findIn X.K (.ref C) "__str__" = some (some (.ref f))) (hf : PySem.W.isFn X.K (.ref f) = true) :
    CallR X (.type "str") (rStrX C sp E) := by
  intro pins s σ H xs us Q I r h
  obtain ⟨a, dx, fs, rfl, ha, hsp⟩ := h
  obtain ⟨u, rfl, ru⟩ := vals1 r
  cases ru
  obtain ⟨mA, J, _⟩ := ins_get I.hok ha
  obtain ⟨od, J, _⟩ := J.look
  refine PySem.W.kso_call hr.in1.in1.units0 I.kIn J hs hf ?_
  refine wpAny_mono (run_fnAt (vs := [.ref a]) rfl F hr.in1.in1 hb hx I (.cons rfl .nil) hsp) (fun w s' z => ?_) fun _ _ z => z
  obtain ⟨v', H', I', rv, b, rfl, q⟩ := z
  obtain ⟨t, rfl⟩ := rv
  exact ⟨.str b, H', I', ⟨t, rfl⟩, q⟩
end
end L2

namespace PySem
namespace EXV
open L2
/-- an own error class's text, read off its __init__ -/
def exdOf (x q fld txt : Str) (st : Stmt) (b : Nat := 0) : ExD :=
  match defBody st, (defArgs st).args with
  | [.Expr (.Call (.Attribute (.Call (.Name _ a0) _ _ a1) _ a2) [.Constant _ k a3] _ a4) a5, .Assign [.Attribute (.Name _ a6) _ a7] (.Name _ a8) a9], [u, v] =>
    ⟨x, q, fld, txt, k, fun i => [a0, a1, a2, a3, a4, a5, a6, a7, a8, a9].getD i a0, u.pos, v.pos, b⟩
  | _, _ => ⟨x, q, fld, txt, 0, fun _ => ⟨0, 0, 0, 0⟩, ⟨0, 0, 0, 0⟩, ⟨0, 0, 0, 0⟩, b⟩
end EXV
end PySem
namespace L2
open PySem PySem.Spec PyProof.Rows
/-! ### making an instance, the wish of what is raised at the caller's slots -/
def tMakeS (C : Addr) (sp : Sp) (dvs : List V) (E : St → XK) (t : TA) : TE := fun σ H Q => t σ H fun vs H1 => ∀ x dx, H1 x = none → H1 dx = none → dx ≠ x →
  sp (.ref x :: (vs ++ dvs)) (upd (upd H1 dx (.own x)) x (.ins C dx [])) (fun v H2 => v = .non ∧ Q (.ref x) H2) (E σ)
section
variable {X : Cx} {CX : CXT} {k : Nat} {f C : Addr} {fd : FuncData} {ps : List Str} {sp : Sp} {dvs : List V} {ds : List Value} {E : St → XK} {x : Str} {p pos : Pos} {e : Expr} {es : List Expr} {t : TA}
theorem run_makeS {pins : List (Addr × Obj)} {σ : St} {H : Hp} {s : Shared} {Q : VK} {us : List Value} {vs : List V} (M : Mk X.K C f) (F : FnOk X.prog X.w X.K X.mg X.base CX k f fd ps sp) (hr : Room (k + 1) X.A) (hb : Binds X.K fd ps ds) (hd : Vals dvs ds)
    (hx : PassesAt CX X σ (E σ)) (I : Inv X pins σ H s) (r : Vals vs us)
    (h : ∀ x dx, H x = none → H dx = none → dx ≠ x → sp (.ref x :: (vs ++ dvs)) (upd (upd H dx (.own x)) x (.ins C dx [])) (fun v H2 => v = .non ∧ Q (.ref x) H2) (E σ)) :
    wpAny (model X.prog X.w) X.A (call (.ref C) us) (EP X pins σ Q) X.xe s := by
  have hq := h (s.heap.objs.size + 1) s.heap.objs.size (I.hok.fresh (Nat.le_succ _)) (I.hok.fresh (Nat.le_refl _)) (Nat.ne_of_lt (Nat.lt_succ_self _))
  have I2 := Inv.made (C := C) I
  have r2 : Vals (V.ref (s.heap.objs.size + 1) :: (vs ++ dvs)) (Value.ref (s.heap.objs.size + 1) :: (us ++ ds)) := .cons rfl (r.append hd)
  have hl : (Value.ref (s.heap.objs.size + 1) :: us ++ ds).length = ps.length := (r2.length.symm.trans (F.len _ _ _ _ hq))
  refine wpAny_call (make_map (f := f) I.kIn M.makes M.init (beq_iff_eq.mp M.fn) (codeAny_mono (F.run _ X.stack _ _ ⟨Value.ref (s.heap.objs.size + 1) :: us, []⟩ (Value.ref (s.heap.objs.size + 1) :: (us ++ ds)) _ _ (E σ) (hr.make C us [])
    (I2.env0.make C us []) (hb _ (Value.ref (s.heap.objs.size + 1) :: us) I2.kIn hl) r2 hq) fun r s' hq' => ?_))
  match r, hq' with
  | .error e, hq' => exact hx pins _ _ e s' I2 hq'
  | .ok (.ret u), hq' =>
    obtain ⟨v, H', I3, rv, rfl, q3⟩ := I2.after hq'
    exact ⟨rv, ⟨V.ref (s.heap.objs.size + 1), H', I3, rfl, q3⟩⟩
  | .ok .next, hq' => exact hq'.elim
  | .ok .brk, hq' => exact hq'.elim
  | .ok .cont, hq' => exact hq'.elim
theorem pe_makeS (M : Mk X.K C f) (F : FnOk X.prog X.w X.K X.mg X.base CX k f fd ps sp) (hr : Room (k + 1) X.A) (hg : Gl X x) (hm : X.mg x = some (.ref C)) (hb : Binds X.K fd ps ds) (hd : Vals dvs ds) (hx : ∀ σ, PassesAt CX X σ (E σ))
    (ha : PA X (e :: es) t) (hdb : (x == ("__debug__" : Str)) = false := by decide) (he : starEach (e :: es) X.env = (false, eval e X.env) :: starEach es X.env := by rfl) (hpl : (backTo pos (starEach es X.env)).any (·.1) = false := by rfl) :
    PE X (.Call (.Name x p) (e :: es) [] pos) (tMakeS C sp dvs E t) := by
  refine ⟨fun pins s σ H Q I h => wpAny_Call_Name_kw (ld_glob I hg hm ?_ hdb)⟩
  exact PySem.W.callWith_K (h₀ := X.base) I.ok.mod.kin M.kp (thn (ha.run pos pins s σ H _ I h) fun us s1 ⟨vs, H1, I1, r, q⟩ => ⟨I1.kIn, run_makeS M F hr hb hd (hx σ) I1 r q⟩) he hpl
end
/-- nothing is raised there -/
abbrev E0S : St → XK := fun _ => E0
theorem passS {X : Cx} : ∀ σ, PassesAt (L2.CX X.prog X.w) X σ (E0S σ) := fun _ pins H s e s' I h => passL pins _ H s e s' I h
theorem passS0 {X : Cx} : ∀ σ, PassesAt CX0 X σ (E0S σ) := fun _ _ _ _ _ _ _ h => h.elim
/-! ### an own class among the types -/
def tyNames : List String := ["NoneType", "int", "str", "bool", "list", "tuple", "dict"]
structure OwnC (K : PySem.W.Frag) (C : Addr) : Prop where
  cl : Cls K C
  ia : PySem.W.findIn K (.ref C) "__class__" = some (some (.builtin "object.__class__"))
  ig : PySem.W.specialIn K (.builtin "object.__class__") "__get__" = some (some (.builtin "getset_descriptor.__get__"))
  it : PySem.W.takesIn K (.builtin "object.__class__") = some true
  ob : PySem.W.mroIn K C (.type "object") = some true
  ne : PySem.W.findIn K (.ref C) "__ne__" = some (some (.builtin "object.__ne__"))
  to : ∀ n ∈ ["int", "str", "bool", "list", "tuple", "dict"], PySem.W.kitOne K (.ref C) (.type n) = some false
  fr : ∀ n ∈ tyNames, PySem.W.kitOne K (.type n) (.ref C) = some false
  nf : ∀ n ∈ tyNames, PySem.W.notFirst K C (.type n) = true
  me : PySem.W.kitOne K (.ref C) (.ref C) = some true
  nm : PySem.W.notFirst K C (.ref C) = true
def ownB (K : PySem.W.Frag) (x : Str) : Bool :=
  let C := He.ga K x
  (He.Fa.cls x).ok K && (He.eqO (PySem.W.findIn K (.ref C) "__class__") (some (some (.builtin "object.__class__"))) && (He.eqO (PySem.W.specialIn K (.builtin "object.__class__") "__get__") (some (some (.builtin "getset_descriptor.__get__"))) &&
  (decide (PySem.W.takesIn K (.builtin "object.__class__") = some true) && (decide (PySem.W.mroIn K C (.type "object") = some true) && (He.eqO (PySem.W.findIn K (.ref C) "__ne__") (some (some (.builtin "object.__ne__"))) &&
  ((["int", "str", "bool", "list", "tuple", "dict"].all fun n => decide (PySem.W.kitOne K (.ref C) (.type n) = some false)) && ((tyNames.all fun n => decide (PySem.W.kitOne K (.type n) (.ref C) = some false)) && ((tyNames.all fun n => PySem.W.notFirst K C (.type n)) &&
  (decide (PySem.W.kitOne K (.ref C) (.ref C) = some true) && PySem.W.notFirst K C (.ref C))))))))))
theorem ownB_ok {K : PySem.W.Frag} {x : Str} (h : ownB K x = true) : OwnC K (He.ga K x) := by
  unfold ownB at h
  simp only [Bool.and_eq_true] at h
  obtain ⟨h1, h2, h3, h4, h5, h6, h7, h8, h9, h10, h11⟩ := h
  exact ⟨He.cls_ok h1, He.eqO_ok h2, He.eqO_ok h3, of_decide_eq_true h4, of_decide_eq_true h5, He.eqO_ok h6, fun n hn => of_decide_eq_true (List.all_eq_true.mp h7 n hn), fun n hn => of_decide_eq_true (List.all_eq_true.mp h8 n hn), fun n hn => List.all_eq_true.mp h9 n hn, of_decide_eq_true h10, h11⟩
theorem OwnC.ty {K : PySem.W.Frag} {C : Addr} (O : OwnC K C) {H : Hp} {a dx : Addr} {fs : List (Str × V)} (e : H a = some (.ins C dx fs)) : TyX K H (.ref a) (.ref C) := .base (.ins e O.cl O.ia O.ig O.it O.ob)
theorem Meth.found {X : PySem.W.Frag} {C f : Addr} {m : Str} (h : Meth X C m f) : PySem.W.findIn X (.ref C) m = some (some (.ref f)) := h.1
end L2

/-! module constants, an empty tuple as a default, room for tests of membership -/
namespace PySem
namespace EXV
open PySem.W L2
def conB (x : Str) (i : Int) (K : Frag) : Bool := match nsIn K mainGlobals x with
  | some (some (.int j _)) => decide (j = i)
  | _ => false
theorem conB_ok {K : Frag} {h : Heap} {mg : Str → Option Value} {x : Str} {i : Int} (X : K.In h) (G : h.Ns mainGlobals mg) (c : conB x i K = true) : ∃ t, mg x = some (.int i t) := by
  unfold conB at c
  split at c
  · rename_i j t e
    exact ⟨t, by rw [mg_of X G e, of_decide_eq_true c]⟩
  · cases c
/-- an empty tuple of the written part -/
def IsE (K : Frag) (a : Addr) : Prop := ∃ (o : Obj) (n : Nat), K.lookup a = some o ∧ o.cls = .type "tuple" ∧ o.data = .seq #[] n
theorem IsE.sq {K : Frag} {a : Addr} (h : IsE K a) (H : Hp) : SqT K H a [] := by
  obtain ⟨o, n, h1, h2, h3⟩ := h
  exact .inr ⟨o, #[], n, h1, h2, h3, Nat.zero_le _, .nil⟩
def isEB (K : Frag) (a : Addr) : Bool := match K.lookup a with
  | some ⟨.type c, _, .seq its _, _⟩ => c == "tuple" && its.isEmpty
  | _ => false
theorem isEB_ok {K : Frag} {a : Addr} (h : isEB K a = true) : IsE K a := by
  unfold isEB at h
  split at h
  · rename_i c d its n sl e
    obtain ⟨h1, h2⟩ := Bool.and_eq_true_iff.mp h
    rw [beq_iff_eq] at h1
    have h3 : its = #[] := by simpa using h2
    subst h1 h3
    exact ⟨_, n, e, rfl, rfl⟩
  · cases h
end EXV
end PySem
namespace L2
open PySem
theorem hu65 {A : Around} {k : Nat} (hr : Room k A) : A.units + 65 < cLine := by have := hr.un; omega
def rLenSeq (K : PySem.W.Frag) : List V → Hp → VK → Prop := fun xs H Q => ∃ p ys, xs = [.ref p] ∧ (SqL K H p ys ∨ SqT K H p ys) ∧ Q (.int ys.length) H
def rListOf (K : PySem.W.Frag) : List V → Hp → VK → Prop := fun xs H Q => ∃ p ys, xs = [.ref p] ∧ (SqL K H p ys ∨ SqT K H p ys) ∧ ∀ l, H l = none → Q (.ref l) (upd H l (.lst ys))
def rTupOf (K : PySem.W.Frag) : List V → Hp → VK → Prop := fun xs H Q => ∃ p ys, xs = [.ref p] ∧ ((SqL K H p ys ∧ ∀ l, H l = none → Q (.ref l) (upd H l (.tup ys))) ∨ (SqT K H p ys ∧ Q (.ref p) H))
theorem popP {α : Type} : ∀ {l : List α} {k : Nat} {y : α}, l[k]? = some y → (y :: l.eraseIdx k).Perm l
  | [], _, _, h => by simp at h
  | a :: r, 0, y, h => by
    simp at h
    subst h
    exact List.Perm.refl _
  | a :: r, k + 1, y, h => by
    have h2 := popP (l := r) (k := k) (y := y) (by simpa using h)
    exact (List.Perm.swap a y _).trans (h2.cons a)
end L2

namespace K09
open PySem PySem.Spec PyProof.Rows L2 TL
def top (i : Nat) : Stmt := PySem.Challenge.pw_resampler_k09_problems_equal.main.body.getD i (.Pass ⟨0, 0, 0, 0⟩)
abbrev s_is_list : Stmt := top 10
abbrev N_is_list : List Str := ["value", "low", "high"]
theorem sc_is_list : FnScope N_is_list ["value", "low", "high"] (defScope s_is_list) := ⟨rfl, rfl, rfl, by decide +kernel, rfl, by decide +kernel, by decide +kernel⟩
abbrev s_check_distinct : Stmt := top 11
abbrev N_check_distinct : List Str := ["names", "seen", "name"]
theorem sc_check_distinct : FnScope N_check_distinct ["names"] (defScope s_check_distinct) := ⟨rfl, rfl, rfl, by decide +kernel, rfl, by decide +kernel, by decide +kernel⟩
abbrev s_is_name : Stmt := top 13
abbrev N_is_name : List Str := ["value", "letter"]
theorem sc_is_name : FnScope N_is_name ["value"] (defScope s_is_name) := ⟨rfl, rfl, rfl, by decide +kernel, rfl, by decide +kernel, by decide +kernel⟩
abbrev s_is_any_integer : Stmt := top 14
abbrev N_is_any_integer : List Str := ["value"]
theorem sc_is_any_integer : FnScope N_is_any_integer ["value"] (defScope s_is_any_integer) := ⟨rfl, rfl, rfl, by decide +kernel, rfl, by decide +kernel, by decide +kernel⟩
abbrev s_is_integer : Stmt := top 15
abbrev N_is_integer : List Str := ["value", "low", "high"]
theorem sc_is_integer : FnScope N_is_integer ["value", "low", "high"] (defScope s_is_integer) := ⟨rfl, rfl, rfl, by decide +kernel, rfl, by decide +kernel, by decide +kernel⟩
abbrev s_Problem_init : Stmt := inClass (top 19) 0
abbrev N_Problem_init : List Str := ["self", "variables", "events", "name", "size", "place", "scope", "bad_tuples", "_"]
theorem sc_Problem_init : FnScope N_Problem_init ["self", "variables", "events"] (defScope s_Problem_init) := ⟨rfl, rfl, rfl, by decide +kernel, rfl, by decide +kernel, by decide +kernel⟩
abbrev s_Problem_eq : Stmt := inClass (top 19) 1
abbrev N_Problem_eq : List Str := ["self", "other"]
theorem sc_Problem_eq : FnScope N_Problem_eq ["self", "other"] (defScope s_Problem_eq) := ⟨rfl, rfl, rfl, by decide +kernel, rfl, by decide +kernel, by decide +kernel⟩
abbrev s_Problem_variables : Stmt := inClass (top 19) 4
abbrev N_Problem_variables : List Str := ["self"]
theorem sc_Problem_variables : FnScope N_Problem_variables ["self"] (defScope s_Problem_variables) := ⟨rfl, rfl, rfl, by decide +kernel, rfl, by decide +kernel, by decide +kernel⟩
abbrev s__neighbors_of : Stmt := top 20
abbrev N__neighbors_of : List Str := ["event", "scopes", "found", "other", "scope", "variable"]
theorem sc__neighbors_of : FnScope N__neighbors_of ["event", "scopes"] (defScope s__neighbors_of) := ⟨rfl, rfl, rfl, by decide +kernel, rfl, by decide +kernel, by decide +kernel⟩
abbrev s__are_values : Stmt := top 21
abbrev N__are_values : List Str := ["value", "sizes", "item", "size"]
theorem sc__are_values : FnScope N__are_values ["value", "sizes"] (defScope s__are_values) := ⟨rfl, rfl, rfl, by decide +kernel, rfl, by decide +kernel, by decide +kernel⟩
abbrev s__check_variables : Stmt := top 22
abbrev N__check_variables : List Str := ["variables", "name", "_", "row"]
theorem sc__check_variables : FnScope N__check_variables ["variables"] (defScope s__check_variables) := ⟨rfl, rfl, rfl, by decide +kernel, rfl, by decide +kernel, by decide +kernel⟩
abbrev s__is_variable_row : Stmt := top 23
abbrev N__is_variable_row : List Str := ["row"]
theorem sc__is_variable_row : FnScope N__is_variable_row ["row"] (defScope s__is_variable_row) := ⟨rfl, rfl, rfl, by decide +kernel, rfl, by decide +kernel, by decide +kernel⟩
abbrev s__check_events : Stmt := top 24
abbrev N__check_events : List Str := ["events", "sizes", "names", "name", "scope", "bad_tuples", "row", "variable"]
theorem sc__check_events : FnScope N__check_events ["events", "sizes"] (defScope s__check_events) := ⟨rfl, rfl, rfl, by decide +kernel, rfl, by decide +kernel, by decide +kernel⟩
abbrev s__is_event_row : Stmt := top 25
abbrev N__is_event_row : List Str := ["row"]
theorem sc__is_event_row : FnScope N__is_event_row ["row"] (defScope s__is_event_row) := ⟨rfl, rfl, rfl, by decide +kernel, rfl, by decide +kernel, by decide +kernel⟩
abbrev s__check_scope : Stmt := top 26
abbrev N__check_scope : List Str := ["scope", "sizes", "item"]
theorem sc__check_scope : FnScope N__check_scope ["scope", "sizes"] (defScope s__check_scope) := ⟨rfl, rfl, rfl, by decide +kernel, rfl, by decide +kernel, by decide +kernel⟩
abbrev s__check_variable : Stmt := top 27
abbrev N__check_variable : List Str := ["value", "sizes"]
theorem sc__check_variable : FnScope N__check_variable ["value", "sizes"] (defScope s__check_variable) := ⟨rfl, rfl, rfl, by decide +kernel, rfl, by decide +kernel, by decide +kernel⟩
abbrev s__are_bad_tuples : Stmt := top 28
abbrev N__are_bad_tuples : List Str := ["bad_tuples", "sizes", "known", "values"]
theorem sc__are_bad_tuples : FnScope N__are_bad_tuples ["bad_tuples", "sizes"] (defScope s__are_bad_tuples) := ⟨rfl, rfl, rfl, by decide +kernel, rfl, by decide +kernel, by decide +kernel⟩
abbrev s_l_cell : Stmt := top 30
abbrev N_l_cell : List Str := ["_law_script", "_law_index"]
theorem sc_l_cell : FnScope N_l_cell ["_law_script", "_law_index"] (defScope s_l_cell) := ⟨rfl, rfl, rfl, by decide +kernel, rfl, by decide +kernel, by decide +kernel⟩
abbrev s_l_bag : Stmt := top 31
abbrev N_l_bag : List Str := ["_law_cell_here"]
theorem sc_l_bag : FnScope N_l_bag ["_law_cell_here"] (defScope s_l_bag) := ⟨rfl, rfl, rfl, by decide +kernel, rfl, by decide +kernel, by decide +kernel⟩
abbrev s_l_take : Stmt := top 32
abbrev N_l_take : List Str := ["_law_bag_here", "_law_count", "_law_digit", "_law_mixed"]
theorem sc_l_take : FnScope N_l_take ["_law_bag_here", "_law_count"] (defScope s_l_take) := ⟨rfl, rfl, rfl, by decide +kernel, rfl, by decide +kernel, by decide +kernel⟩
abbrev s_l_names : Stmt := top 33
abbrev N_l_names : List Str := ["_law_bag_here", "_law_count", "_law_letters", "_law_index", "_law_stem", "_law_at", "_law_first", "_law_step", "_law_found", "_law_begun"]
theorem sc_l_names : FnScope N_l_names ["_law_bag_here", "_law_count"] (defScope s_l_names) := ⟨rfl, rfl, rfl, by decide +kernel, rfl, by decide +kernel, by decide +kernel⟩
abbrev s_l_scope : Stmt := top 34
abbrev N_l_scope : List Str := ["_law_bag_here", "_law_names_here", "_law_left", "_law_most", "_law_index"]
theorem sc_l_scope : FnScope N_l_scope ["_law_bag_here", "_law_names_here"] (defScope s_l_scope) := ⟨rfl, rfl, rfl, by decide +kernel, rfl, by decide +kernel, by decide +kernel⟩
abbrev s_l_tuples : Stmt := top 35
abbrev N_l_tuples : List Str := ["_law_bag_here", "_law_sizes", "_law_scope_here", "_law_most", "_law_found", "_law_index", "_law_row", "_law_name"]
theorem sc_l_tuples : FnScope N_l_tuples ["_law_bag_here", "_law_sizes", "_law_scope_here", "_law_most"] (defScope s_l_tuples) := ⟨rfl, rfl, rfl, by decide +kernel, rfl, by decide +kernel, by decide +kernel⟩
abbrev s_l_parts : Stmt := top 36
abbrev N_l_parts : List Str := ["_law_bag_here", "_law_count", "_law_names_here", "_law_sizes", "_law_titles", "_law_title", "_law_rows", "_law_scope_here", "_law_name", "_law_index"]
theorem sc_l_parts : FnScope N_l_parts ["_law_bag_here"] (defScope s_l_parts) := ⟨rfl, rfl, rfl, by decide +kernel, rfl, by decide +kernel, by decide +kernel⟩
abbrev s_l_key : Stmt := top 37
abbrev N_l_key : List Str := ["_law_sizes", "_law_rows", "_law_title", "_law_scope_here", "_law_bad"]
theorem sc_l_key : FnScope N_l_key ["_law_sizes", "_law_rows"] (defScope s_l_key) := ⟨rfl, rfl, rfl, by decide +kernel, rfl, by decide +kernel, by decide +kernel⟩
abbrev s_l_fresh : Stmt := top 38
abbrev N_l_fresh : List Str := ["_law_names_here", "_law_letters", "_law_one"]
theorem sc_l_fresh : FnScope N_l_fresh ["_law_names_here"] (defScope s_l_fresh) := ⟨rfl, rfl, rfl, by decide +kernel, rfl, by decide +kernel, by decide +kernel⟩
abbrev s_l_other_variables : Stmt := top 39
abbrev N_l_other_variables : List Str := ["_law_bag_here", "_law_sizes", "_law_rows", "_law_found", "_law_at", "_law_to", "_law_way", "_law_name", "_law_size", "_law_used", "_law_big", "_law_fresh_here", "_law_one", "_law_many", "_law_title", "_law_scope_here", "_law_bad"]
theorem sc_l_other_variables : FnScope N_l_other_variables ["_law_bag_here", "_law_sizes", "_law_rows"] (defScope s_l_other_variables) := ⟨rfl, rfl, rfl, by decide +kernel, rfl, by decide +kernel, by decide +kernel⟩
abbrev s_l_other_events : Stmt := top 40
abbrev N_l_other_events : List Str := ["_law_bag_here", "_law_sizes", "_law_rows", "_law_found", "_law_way", "_law_title", "_law_at", "_law_to", "_law_scope_here", "_law_bad", "_law_limits", "_law_value", "_law_spot", "_law_fit", "_law_name", "_law_size", "_law_row"]
theorem sc_l_other_events : FnScope N_l_other_events ["_law_bag_here", "_law_sizes", "_law_rows"] (defScope s_l_other_events) := ⟨rfl, rfl, rfl, by decide +kernel, rfl, by decide +kernel, by decide +kernel⟩
abbrev s_law : Stmt := top 41
abbrev N_law : List Str := ["_law_script", "_law_index", "_law_bag_here", "_law_sizes", "_law_rows", "_law_some", "_law_turn", "_law_one", "_law_built", "_law_other", "_law_same", "_law_value", "_law_title", "_law_scope_here", "_law_bad"]
theorem sc_law : FnScope N_law ["_law_script"] (defScope s_law) := ⟨rfl, rfl, rfl, by decide +kernel, rfl, by decide +kernel, by decide +kernel⟩
structure Txt (P : Program) (K : PySem.W.Frag) (mg : Str → Option Value) where
  e0 : Addr
  t_e0 : PySem.EXV.IsE K e0
  C_Problem : Addr
  g_Problem : mg "Problem" = some (.ref C_Problem)
  f_is_list : Addr
  fd_is_list : FuncData
  F_is_list : FunD K "is_list" "is_list" (defArgs s_is_list) (defBody s_is_list) (defScope s_is_list) [] [] f_is_list fd_is_list
  g_is_list : mg "is_list" = some (.ref f_is_list)
  f_check_distinct : Addr
  fd_check_distinct : FuncData
  F_check_distinct : FunD K "check_distinct" "check_distinct" (defArgs s_check_distinct) (defBody s_check_distinct) (defScope s_check_distinct) [] [] f_check_distinct fd_check_distinct
  g_check_distinct : mg "check_distinct" = some (.ref f_check_distinct)
  f_is_name : Addr
  fd_is_name : FuncData
  F_is_name : FunD K "is_name" "is_name" (defArgs s_is_name) (defBody s_is_name) (defScope s_is_name) [] [] f_is_name fd_is_name
  g_is_name : mg "is_name" = some (.ref f_is_name)
  f_is_any_integer : Addr
  fd_is_any_integer : FuncData
  F_is_any_integer : FunD K "is_any_integer" "is_any_integer" (defArgs s_is_any_integer) (defBody s_is_any_integer) (defScope s_is_any_integer) [] [] f_is_any_integer fd_is_any_integer
  g_is_any_integer : mg "is_any_integer" = some (.ref f_is_any_integer)
  f_is_integer : Addr
  fd_is_integer : FuncData
  F_is_integer : FunD K "is_integer" "is_integer" (defArgs s_is_integer) (defBody s_is_integer) (defScope s_is_integer) [] [] f_is_integer fd_is_integer
  g_is_integer : mg "is_integer" = some (.ref f_is_integer)
  f_Problem_init : Addr
  fd_Problem_init : FuncData
  F_Problem_init : FunD K "__init__" "Problem.__init__" (defArgs s_Problem_init) (defBody s_Problem_init) (defScope s_Problem_init) [.ref e0] [] f_Problem_init fd_Problem_init
  f_Problem_eq : Addr
  fd_Problem_eq : FuncData
  F_Problem_eq : FunD K "__eq__" "Problem.__eq__" (defArgs s_Problem_eq) (defBody s_Problem_eq) (defScope s_Problem_eq) [] [] f_Problem_eq fd_Problem_eq
  m_Problem_eq : Meth K C_Problem "__eq__" f_Problem_eq
  f_Problem_variables : Addr
  fd_Problem_variables : FuncData
  F_Problem_variables : FunD K "variables" "Problem.variables" (defArgs s_Problem_variables) (defBody s_Problem_variables) (defScope s_Problem_variables) [] [] f_Problem_variables fd_Problem_variables
  m_Problem_variables : Meth K C_Problem "variables" f_Problem_variables
  f__neighbors_of : Addr
  fd__neighbors_of : FuncData
  F__neighbors_of : FunD K "_neighbors_of" "_neighbors_of" (defArgs s__neighbors_of) (defBody s__neighbors_of) (defScope s__neighbors_of) [] [] f__neighbors_of fd__neighbors_of
  g__neighbors_of : mg "_neighbors_of" = some (.ref f__neighbors_of)
  f__are_values : Addr
  fd__are_values : FuncData
  F__are_values : FunD K "_are_values" "_are_values" (defArgs s__are_values) (defBody s__are_values) (defScope s__are_values) [] [] f__are_values fd__are_values
  g__are_values : mg "_are_values" = some (.ref f__are_values)
  f__check_variables : Addr
  fd__check_variables : FuncData
  F__check_variables : FunD K "_check_variables" "_check_variables" (defArgs s__check_variables) (defBody s__check_variables) (defScope s__check_variables) [] [] f__check_variables fd__check_variables
  g__check_variables : mg "_check_variables" = some (.ref f__check_variables)
  f__is_variable_row : Addr
  fd__is_variable_row : FuncData
  F__is_variable_row : FunD K "_is_variable_row" "_is_variable_row" (defArgs s__is_variable_row) (defBody s__is_variable_row) (defScope s__is_variable_row) [] [] f__is_variable_row fd__is_variable_row
  g__is_variable_row : mg "_is_variable_row" = some (.ref f__is_variable_row)
  f__check_events : Addr
  fd__check_events : FuncData
  F__check_events : FunD K "_check_events" "_check_events" (defArgs s__check_events) (defBody s__check_events) (defScope s__check_events) [] [] f__check_events fd__check_events
  g__check_events : mg "_check_events" = some (.ref f__check_events)
  f__is_event_row : Addr
  fd__is_event_row : FuncData
  F__is_event_row : FunD K "_is_event_row" "_is_event_row" (defArgs s__is_event_row) (defBody s__is_event_row) (defScope s__is_event_row) [] [] f__is_event_row fd__is_event_row
  g__is_event_row : mg "_is_event_row" = some (.ref f__is_event_row)
  f__check_scope : Addr
  fd__check_scope : FuncData
  F__check_scope : FunD K "_check_scope" "_check_scope" (defArgs s__check_scope) (defBody s__check_scope) (defScope s__check_scope) [] [] f__check_scope fd__check_scope
  g__check_scope : mg "_check_scope" = some (.ref f__check_scope)
  f__check_variable : Addr
  fd__check_variable : FuncData
  F__check_variable : FunD K "_check_variable" "_check_variable" (defArgs s__check_variable) (defBody s__check_variable) (defScope s__check_variable) [] [] f__check_variable fd__check_variable
  g__check_variable : mg "_check_variable" = some (.ref f__check_variable)
  f__are_bad_tuples : Addr
  fd__are_bad_tuples : FuncData
  F__are_bad_tuples : FunD K "_are_bad_tuples" "_are_bad_tuples" (defArgs s__are_bad_tuples) (defBody s__are_bad_tuples) (defScope s__are_bad_tuples) [] [] f__are_bad_tuples fd__are_bad_tuples
  g__are_bad_tuples : mg "_are_bad_tuples" = some (.ref f__are_bad_tuples)
  f_l_cell : Addr
  fd_l_cell : FuncData
  F_l_cell : FunD K "_law_cell" "_law_cell" (defArgs s_l_cell) (defBody s_l_cell) (defScope s_l_cell) [] [] f_l_cell fd_l_cell
  g_l_cell : mg "_law_cell" = some (.ref f_l_cell)
  f_l_bag : Addr
  fd_l_bag : FuncData
  F_l_bag : FunD K "_law_bag" "_law_bag" (defArgs s_l_bag) (defBody s_l_bag) (defScope s_l_bag) [] [] f_l_bag fd_l_bag
  g_l_bag : mg "_law_bag" = some (.ref f_l_bag)
  f_l_take : Addr
  fd_l_take : FuncData
  F_l_take : FunD K "_law_take" "_law_take" (defArgs s_l_take) (defBody s_l_take) (defScope s_l_take) [] [] f_l_take fd_l_take
  g_l_take : mg "_law_take" = some (.ref f_l_take)
  f_l_names : Addr
  fd_l_names : FuncData
  F_l_names : FunD K "_law_names" "_law_names" (defArgs s_l_names) (defBody s_l_names) (defScope s_l_names) [] [] f_l_names fd_l_names
  g_l_names : mg "_law_names" = some (.ref f_l_names)
  f_l_scope : Addr
  fd_l_scope : FuncData
  F_l_scope : FunD K "_law_scope" "_law_scope" (defArgs s_l_scope) (defBody s_l_scope) (defScope s_l_scope) [] [] f_l_scope fd_l_scope
  g_l_scope : mg "_law_scope" = some (.ref f_l_scope)
  f_l_tuples : Addr
  fd_l_tuples : FuncData
  F_l_tuples : FunD K "_law_tuples" "_law_tuples" (defArgs s_l_tuples) (defBody s_l_tuples) (defScope s_l_tuples) [] [] f_l_tuples fd_l_tuples
  g_l_tuples : mg "_law_tuples" = some (.ref f_l_tuples)
  f_l_parts : Addr
  fd_l_parts : FuncData
  F_l_parts : FunD K "_law_parts" "_law_parts" (defArgs s_l_parts) (defBody s_l_parts) (defScope s_l_parts) [] [] f_l_parts fd_l_parts
  g_l_parts : mg "_law_parts" = some (.ref f_l_parts)
  f_l_key : Addr
  fd_l_key : FuncData
  F_l_key : FunD K "_law_key" "_law_key" (defArgs s_l_key) (defBody s_l_key) (defScope s_l_key) [] [] f_l_key fd_l_key
  g_l_key : mg "_law_key" = some (.ref f_l_key)
  f_l_fresh : Addr
  fd_l_fresh : FuncData
  F_l_fresh : FunD K "_law_fresh" "_law_fresh" (defArgs s_l_fresh) (defBody s_l_fresh) (defScope s_l_fresh) [] [] f_l_fresh fd_l_fresh
  g_l_fresh : mg "_law_fresh" = some (.ref f_l_fresh)
  f_l_other_variables : Addr
  fd_l_other_variables : FuncData
  F_l_other_variables : FunD K "_law_other_variables" "_law_other_variables" (defArgs s_l_other_variables) (defBody s_l_other_variables) (defScope s_l_other_variables) [] [] f_l_other_variables fd_l_other_variables
  g_l_other_variables : mg "_law_other_variables" = some (.ref f_l_other_variables)
  f_l_other_events : Addr
  fd_l_other_events : FuncData
  F_l_other_events : FunD K "_law_other_events" "_law_other_events" (defArgs s_l_other_events) (defBody s_l_other_events) (defScope s_l_other_events) [] [] f_l_other_events fd_l_other_events
  g_l_other_events : mg "_law_other_events" = some (.ref f_l_other_events)
  f_law : Addr
  fd_law : FuncData
  F_law : FunD K "law" "law" (defArgs s_law) (defBody s_law) (defScope s_law) [] [] f_law fd_law
  g_law : mg "law" = some (.ref f_law)
  cl_Problem : Cls K C_Problem
  mk_Problem : Mk K C_Problem f_Problem_init
  na_Problem__variables : NoAttr K C_Problem "_variables"
  na_Problem__sizes : NoAttr K C_Problem "_sizes"
  na_Problem__places : NoAttr K C_Problem "_places"
  na_Problem__events : NoAttr K C_Problem "_events"
  na_Problem__scopes : NoAttr K C_Problem "_scopes"
  na_Problem__bad_tuples : NoAttr K C_Problem "_bad_tuples"
  na_Problem__neighbors : NoAttr K C_Problem "_neighbors"
  ow_Problem : OwnC K C_Problem
  n_all : mg "all" = none
  n_any : mg "any" = none
  n_bool : mg "bool" = none
  n_dict : mg "dict" = none
  n_enumerate : mg "enumerate" = none
  n_int : mg "int" = none
  n_isinstance : mg "isinstance" = none
  n_len : mg "len" = none
  n_list : mg "list" = none
  n_max : mg "max" = none
  n_min : mg "min" = none
  n_range : mg "range" = none
  n_set : mg "set" = none
  n_sorted : mg "sorted" = none
  n_str : mg "str" = none
  n_tuple : mg "tuple" = none
  n_zip : mg "zip" = none
  c_MOST_VARIABLES : ∃ t, mg "MOST_VARIABLES" = some (.int 8 t)
  c_MOST_EVENTS : ∃ t, mg "MOST_EVENTS" = some (.int 8 t)
theorem b_is_list {P : Program} {K : PySem.W.Frag} {mg : Str → Option Value} (T : Txt P K mg) : Binds K T.fd_is_list ["value", "low", "high"] [] := T.F_is_list.bindsN fun _ _ _ _ _ _ us hl => match us, hl with | [_, _, _], _ => rfl
theorem b_check_distinct {P : Program} {K : PySem.W.Frag} {mg : Str → Option Value} (T : Txt P K mg) : Binds K T.fd_check_distinct ["names"] [] := T.F_check_distinct.bindsN fun _ _ _ _ _ _ us hl => match us, hl with | [_], _ => rfl
theorem b_is_name {P : Program} {K : PySem.W.Frag} {mg : Str → Option Value} (T : Txt P K mg) : Binds K T.fd_is_name ["value"] [] := T.F_is_name.bindsN fun _ _ _ _ _ _ us hl => match us, hl with | [_], _ => rfl
theorem b_is_any_integer {P : Program} {K : PySem.W.Frag} {mg : Str → Option Value} (T : Txt P K mg) : Binds K T.fd_is_any_integer ["value"] [] := T.F_is_any_integer.bindsN fun _ _ _ _ _ _ us hl => match us, hl with | [_], _ => rfl
theorem b_is_integer {P : Program} {K : PySem.W.Frag} {mg : Str → Option Value} (T : Txt P K mg) : Binds K T.fd_is_integer ["value", "low", "high"] [] := T.F_is_integer.bindsN fun _ _ _ _ _ _ us hl => match us, hl with | [_, _, _], _ => rfl
theorem b_Problem_init_1 {P : Program} {K : PySem.W.Frag} {mg : Str → Option Value} (T : Txt P K mg) : ∃ ds, Vals (([.ref T.e0] : List V).drop 0) ds ∧ Binds K T.fd_Problem_init ["self", "variables", "events"] ds := T.F_Problem_init.binds1 (ps := ["self", "variables", "events"]) 2 0 (by simp) (by rfl) fun _ _ _ _ _ _ _ us its h1 h2 => match us, its, h1, h2 with | [_, _], [_], _, _ => ⟨_, rfl, rfl⟩
theorem b_Problem_init {P : Program} {K : PySem.W.Frag} {mg : Str → Option Value} (T : Txt P K mg) : Binds K T.fd_Problem_init ["self", "variables", "events"] [] := by
  obtain ⟨ds, v, b⟩ := T.F_Problem_init.binds1 (ps := ["self", "variables", "events"]) 3 1 (by simp) (by rfl) fun _ _ _ _ _ _ _ us its h1 h2 => match us, its, h1, h2 with | [_, _, _], [_], _, _ => ⟨_, rfl, rfl⟩
  cases v
  exact b
theorem b_Problem_eq {P : Program} {K : PySem.W.Frag} {mg : Str → Option Value} (T : Txt P K mg) : Binds K T.fd_Problem_eq ["self", "other"] [] := T.F_Problem_eq.bindsN fun _ _ _ _ _ _ us hl => match us, hl with | [_, _], _ => rfl
theorem b_Problem_variables {P : Program} {K : PySem.W.Frag} {mg : Str → Option Value} (T : Txt P K mg) : Binds K T.fd_Problem_variables ["self"] [] := T.F_Problem_variables.bindsN fun _ _ _ _ _ _ us hl => match us, hl with | [_], _ => rfl
theorem b__neighbors_of {P : Program} {K : PySem.W.Frag} {mg : Str → Option Value} (T : Txt P K mg) : Binds K T.fd__neighbors_of ["event", "scopes"] [] := T.F__neighbors_of.bindsN fun _ _ _ _ _ _ us hl => match us, hl with | [_, _], _ => rfl
theorem b__are_values {P : Program} {K : PySem.W.Frag} {mg : Str → Option Value} (T : Txt P K mg) : Binds K T.fd__are_values ["value", "sizes"] [] := T.F__are_values.bindsN fun _ _ _ _ _ _ us hl => match us, hl with | [_, _], _ => rfl
theorem b__check_variables {P : Program} {K : PySem.W.Frag} {mg : Str → Option Value} (T : Txt P K mg) : Binds K T.fd__check_variables ["variables"] [] := T.F__check_variables.bindsN fun _ _ _ _ _ _ us hl => match us, hl with | [_], _ => rfl
theorem b__is_variable_row {P : Program} {K : PySem.W.Frag} {mg : Str → Option Value} (T : Txt P K mg) : Binds K T.fd__is_variable_row ["row"] [] := T.F__is_variable_row.bindsN fun _ _ _ _ _ _ us hl => match us, hl with | [_], _ => rfl
theorem b__check_events {P : Program} {K : PySem.W.Frag} {mg : Str → Option Value} (T : Txt P K mg) : Binds K T.fd__check_events ["events", "sizes"] [] := T.F__check_events.bindsN fun _ _ _ _ _ _ us hl => match us, hl with | [_, _], _ => rfl
theorem b__is_event_row {P : Program} {K : PySem.W.Frag} {mg : Str → Option Value} (T : Txt P K mg) : Binds K T.fd__is_event_row ["row"] [] := T.F__is_event_row.bindsN fun _ _ _ _ _ _ us hl => match us, hl with | [_], _ => rfl
theorem b__check_scope {P : Program} {K : PySem.W.Frag} {mg : Str → Option Value} (T : Txt P K mg) : Binds K T.fd__check_scope ["scope", "sizes"] [] := T.F__check_scope.bindsN fun _ _ _ _ _ _ us hl => match us, hl with | [_, _], _ => rfl
theorem b__check_variable {P : Program} {K : PySem.W.Frag} {mg : Str → Option Value} (T : Txt P K mg) : Binds K T.fd__check_variable ["value", "sizes"] [] := T.F__check_variable.bindsN fun _ _ _ _ _ _ us hl => match us, hl with | [_, _], _ => rfl
theorem b__are_bad_tuples {P : Program} {K : PySem.W.Frag} {mg : Str → Option Value} (T : Txt P K mg) : Binds K T.fd__are_bad_tuples ["bad_tuples", "sizes"] [] := T.F__are_bad_tuples.bindsN fun _ _ _ _ _ _ us hl => match us, hl with | [_, _], _ => rfl
theorem b_l_cell {P : Program} {K : PySem.W.Frag} {mg : Str → Option Value} (T : Txt P K mg) : Binds K T.fd_l_cell ["_law_script", "_law_index"] [] := T.F_l_cell.bindsN fun _ _ _ _ _ _ us hl => match us, hl with | [_, _], _ => rfl
theorem b_l_bag {P : Program} {K : PySem.W.Frag} {mg : Str → Option Value} (T : Txt P K mg) : Binds K T.fd_l_bag ["_law_cell_here"] [] := T.F_l_bag.bindsN fun _ _ _ _ _ _ us hl => match us, hl with | [_], _ => rfl
theorem b_l_take {P : Program} {K : PySem.W.Frag} {mg : Str → Option Value} (T : Txt P K mg) : Binds K T.fd_l_take ["_law_bag_here", "_law_count"] [] := T.F_l_take.bindsN fun _ _ _ _ _ _ us hl => match us, hl with | [_, _], _ => rfl
theorem b_l_names {P : Program} {K : PySem.W.Frag} {mg : Str → Option Value} (T : Txt P K mg) : Binds K T.fd_l_names ["_law_bag_here", "_law_count"] [] := T.F_l_names.bindsN fun _ _ _ _ _ _ us hl => match us, hl with | [_, _], _ => rfl
theorem b_l_scope {P : Program} {K : PySem.W.Frag} {mg : Str → Option Value} (T : Txt P K mg) : Binds K T.fd_l_scope ["_law_bag_here", "_law_names_here"] [] := T.F_l_scope.bindsN fun _ _ _ _ _ _ us hl => match us, hl with | [_, _], _ => rfl
theorem b_l_tuples {P : Program} {K : PySem.W.Frag} {mg : Str → Option Value} (T : Txt P K mg) : Binds K T.fd_l_tuples ["_law_bag_here", "_law_sizes", "_law_scope_here", "_law_most"] [] := T.F_l_tuples.bindsN fun _ _ _ _ _ _ us hl => match us, hl with | [_, _, _, _], _ => rfl
theorem b_l_parts {P : Program} {K : PySem.W.Frag} {mg : Str → Option Value} (T : Txt P K mg) : Binds K T.fd_l_parts ["_law_bag_here"] [] := T.F_l_parts.bindsN fun _ _ _ _ _ _ us hl => match us, hl with | [_], _ => rfl
theorem b_l_key {P : Program} {K : PySem.W.Frag} {mg : Str → Option Value} (T : Txt P K mg) : Binds K T.fd_l_key ["_law_sizes", "_law_rows"] [] := T.F_l_key.bindsN fun _ _ _ _ _ _ us hl => match us, hl with | [_, _], _ => rfl
theorem b_l_fresh {P : Program} {K : PySem.W.Frag} {mg : Str → Option Value} (T : Txt P K mg) : Binds K T.fd_l_fresh ["_law_names_here"] [] := T.F_l_fresh.bindsN fun _ _ _ _ _ _ us hl => match us, hl with | [_], _ => rfl
theorem b_l_other_variables {P : Program} {K : PySem.W.Frag} {mg : Str → Option Value} (T : Txt P K mg) : Binds K T.fd_l_other_variables ["_law_bag_here", "_law_sizes", "_law_rows"] [] := T.F_l_other_variables.bindsN fun _ _ _ _ _ _ us hl => match us, hl with | [_, _, _], _ => rfl
theorem b_l_other_events {P : Program} {K : PySem.W.Frag} {mg : Str → Option Value} (T : Txt P K mg) : Binds K T.fd_l_other_events ["_law_bag_here", "_law_sizes", "_law_rows"] [] := T.F_l_other_events.bindsN fun _ _ _ _ _ _ us hl => match us, hl with | [_, _, _], _ => rfl
theorem b_law {P : Program} {K : PySem.W.Frag} {mg : Str → Option Value} (T : Txt P K mg) : Binds K T.fd_law ["_law_script"] [] := T.F_law.bindsN fun _ _ _ _ _ _ us hl => match us, hl with | [_], _ => rfl

end K09
namespace K09
open PySem PySem.Spec PyProof.Rows L2 TL
def d_is_list : He.DefD := ⟨("is_list", none), "is_list", "is_list", defArgs s_is_list, defBody s_is_list, defScope s_is_list, [], []⟩
def d_check_distinct : He.DefD := ⟨("check_distinct", none), "check_distinct", "check_distinct", defArgs s_check_distinct, defBody s_check_distinct, defScope s_check_distinct, [], []⟩
def d_is_name : He.DefD := ⟨("is_name", none), "is_name", "is_name", defArgs s_is_name, defBody s_is_name, defScope s_is_name, [], []⟩
def d_is_any_integer : He.DefD := ⟨("is_any_integer", none), "is_any_integer", "is_any_integer", defArgs s_is_any_integer, defBody s_is_any_integer, defScope s_is_any_integer, [], []⟩
def d_is_integer : He.DefD := ⟨("is_integer", none), "is_integer", "is_integer", defArgs s_is_integer, defBody s_is_integer, defScope s_is_integer, [], []⟩
def d_Problem_init : He.DefD := ⟨("Problem", some "__init__"), "__init__", "Problem.__init__", defArgs s_Problem_init, defBody s_Problem_init, defScope s_Problem_init, [.adr (He.dflAt ("Problem", some "__init__") 0)], []⟩
def d_Problem_eq : He.DefD := ⟨("Problem", some "__eq__"), "__eq__", "Problem.__eq__", defArgs s_Problem_eq, defBody s_Problem_eq, defScope s_Problem_eq, [], []⟩
def d_Problem_variables : He.DefD := ⟨("Problem", some "variables"), "variables", "Problem.variables", defArgs s_Problem_variables, defBody s_Problem_variables, defScope s_Problem_variables, [], []⟩
def d__neighbors_of : He.DefD := ⟨("_neighbors_of", none), "_neighbors_of", "_neighbors_of", defArgs s__neighbors_of, defBody s__neighbors_of, defScope s__neighbors_of, [], []⟩
def d__are_values : He.DefD := ⟨("_are_values", none), "_are_values", "_are_values", defArgs s__are_values, defBody s__are_values, defScope s__are_values, [], []⟩
def d__check_variables : He.DefD := ⟨("_check_variables", none), "_check_variables", "_check_variables", defArgs s__check_variables, defBody s__check_variables, defScope s__check_variables, [], []⟩
def d__is_variable_row : He.DefD := ⟨("_is_variable_row", none), "_is_variable_row", "_is_variable_row", defArgs s__is_variable_row, defBody s__is_variable_row, defScope s__is_variable_row, [], []⟩
def d__check_events : He.DefD := ⟨("_check_events", none), "_check_events", "_check_events", defArgs s__check_events, defBody s__check_events, defScope s__check_events, [], []⟩
def d__is_event_row : He.DefD := ⟨("_is_event_row", none), "_is_event_row", "_is_event_row", defArgs s__is_event_row, defBody s__is_event_row, defScope s__is_event_row, [], []⟩
def d__check_scope : He.DefD := ⟨("_check_scope", none), "_check_scope", "_check_scope", defArgs s__check_scope, defBody s__check_scope, defScope s__check_scope, [], []⟩
def d__check_variable : He.DefD := ⟨("_check_variable", none), "_check_variable", "_check_variable", defArgs s__check_variable, defBody s__check_variable, defScope s__check_variable, [], []⟩
def d__are_bad_tuples : He.DefD := ⟨("_are_bad_tuples", none), "_are_bad_tuples", "_are_bad_tuples", defArgs s__are_bad_tuples, defBody s__are_bad_tuples, defScope s__are_bad_tuples, [], []⟩
def d_l_cell : He.DefD := ⟨("_law_cell", none), "_law_cell", "_law_cell", defArgs s_l_cell, defBody s_l_cell, defScope s_l_cell, [], []⟩
def d_l_bag : He.DefD := ⟨("_law_bag", none), "_law_bag", "_law_bag", defArgs s_l_bag, defBody s_l_bag, defScope s_l_bag, [], []⟩
def d_l_take : He.DefD := ⟨("_law_take", none), "_law_take", "_law_take", defArgs s_l_take, defBody s_l_take, defScope s_l_take, [], []⟩
def d_l_names : He.DefD := ⟨("_law_names", none), "_law_names", "_law_names", defArgs s_l_names, defBody s_l_names, defScope s_l_names, [], []⟩
def d_l_scope : He.DefD := ⟨("_law_scope", none), "_law_scope", "_law_scope", defArgs s_l_scope, defBody s_l_scope, defScope s_l_scope, [], []⟩
def d_l_tuples : He.DefD := ⟨("_law_tuples", none), "_law_tuples", "_law_tuples", defArgs s_l_tuples, defBody s_l_tuples, defScope s_l_tuples, [], []⟩
def d_l_parts : He.DefD := ⟨("_law_parts", none), "_law_parts", "_law_parts", defArgs s_l_parts, defBody s_l_parts, defScope s_l_parts, [], []⟩
def d_l_key : He.DefD := ⟨("_law_key", none), "_law_key", "_law_key", defArgs s_l_key, defBody s_l_key, defScope s_l_key, [], []⟩
def d_l_fresh : He.DefD := ⟨("_law_fresh", none), "_law_fresh", "_law_fresh", defArgs s_l_fresh, defBody s_l_fresh, defScope s_l_fresh, [], []⟩
def d_l_other_variables : He.DefD := ⟨("_law_other_variables", none), "_law_other_variables", "_law_other_variables", defArgs s_l_other_variables, defBody s_l_other_variables, defScope s_l_other_variables, [], []⟩
def d_l_other_events : He.DefD := ⟨("_law_other_events", none), "_law_other_events", "_law_other_events", defArgs s_l_other_events, defBody s_l_other_events, defScope s_l_other_events, [], []⟩
def d_law : He.DefD := ⟨("law", none), "law", "law", defArgs s_law, defBody s_law, defScope s_law, [], []⟩
def fn : List He.DefD := [d_is_list, d_check_distinct, d_is_name, d_is_any_integer, d_is_integer, d_Problem_init, d_Problem_eq, d_Problem_variables, d__neighbors_of, d__are_values, d__check_variables, d__is_variable_row, d__check_events, d__is_event_row, d__check_scope, d__check_variable, d__are_bad_tuples, d_l_cell, d_l_bag, d_l_take, d_l_names, d_l_scope, d_l_tuples, d_l_parts, d_l_key, d_l_fresh, d_l_other_variables, d_l_other_events, d_law]
def fa : List He.Fa := [.glo "is_list", .glo "check_distinct", .glo "is_name", .glo "is_any_integer", .glo "is_integer", .glo "_neighbors_of", .glo "_are_values", .glo "_check_variables", .glo "_is_variable_row", .glo "_check_events", .glo "_is_event_row", .glo "_check_scope", .glo "_check_variable", .glo "_are_bad_tuples", .glo "_law_cell", .glo "_law_bag", .glo "_law_take", .glo "_law_names", .glo "_law_scope", .glo "_law_tuples", .glo "_law_parts", .glo "_law_key", .glo "_law_fresh", .glo "_law_other_variables", .glo "_law_other_events", .glo "law", .glo "Problem", .meth "Problem" "__eq__", .meth "Problem" "variables", .free "all", .free "any", .free "bool", .free "dict", .free "enumerate", .free "int", .free "isinstance", .free "len", .free "list", .free "max", .free "min", .free "range", .free "set", .free "sorted", .free "str", .free "tuple", .free "zip", .cls "Problem", .mkr "Problem", .noat "Problem" "_variables", .noat "Problem" "_sizes", .noat "Problem" "_places", .noat "Problem" "_events", .noat "Problem" "_scopes", .noat "Problem" "_bad_tuples", .noat "Problem" "_neighbors"]
abbrev R : PySem.W.OpenRow := PySem.W.OpenLaw.row PySem.Challenge.rw_resampler_k09_problems_equal
def exs : List PySem.EXV.ExD := []
def tests : List (PySem.W.Frag → Bool) := [(fun K => ownB K "Problem"), (PySem.EXV.conB "MOST_VARIABLES" 8), (PySem.EXV.conB "MOST_EVENTS" 8), (fun K => PySem.EXV.isEB K (He.dflAt ("Problem", some "__init__") 0 K))]
def file : Str := PySem.Challenge.pw_resampler_k09_problems_equal.main.file
def asv : List PySem.Addr := [3, 356, 355, 159, 158, 166, 165, 171, 170, 178, 177, 185, 184, 199, 198, 194, 206, 205, 227, 226, 365, 364, 370, 369, 375, 374, 382, 381, 387, 386, 394, 393, 401, 400, 408, 407, 415, 414, 422, 421, 429, 428, 436, 435, 441, 440, 446, 445, 451, 450, 456, 455, 461, 460, 466, 465, 471, 470, 476, 475, 481, 480, 193, 1, 2]
abbrev hk : PySem.W.Hook := PySem.EXV.hookY asv file tests fa fn exs
def ob (s : PySem.W.SharedT) : PySem.EXV.AlX := PySem.EXV.obsYG asv file tests fa fn exs (HandSHeadRun.getT s)
theorem ob_eq (s : PySem.W.SharedT) : ob s = hk.obs s.abs := PySem.EXV.obsYG_eq (HandSHeadRun.getT_eq s)
def loose : List Str := [("_wall" : Str), ("ResampleError" : Str), ("MissingError" : Str), ("InvalidVariables" : Str), ("InvalidEvents" : Str), ("DuplicateName" : Str), ("UnknownVariable" : Str), ("UnknownEvent" : Str), ("is_list" : Str), ("check_distinct" : Str), ("is_name" : Str), ("is_any_integer" : Str), ("is_integer" : Str), ("Problem" : Str), ("_neighbors_of" : Str), ("_are_values" : Str), ("_check_variables" : Str), ("_is_variable_row" : Str), ("_check_events" : Str), ("_is_event_row" : Str), ("_check_scope" : Str), ("_check_variable" : Str), ("_are_bad_tuples" : Str), ("_law_cell" : Str), ("_law_bag" : Str), ("_law_take" : Str), ("_law_names" : Str), ("_law_scope" : Str), ("_law_tuples" : Str), ("_law_parts" : Str), ("_law_key" : Str), ("_law_fresh" : Str), ("_law_other_variables" : Str), ("_law_other_events" : Str), ("MOST_VARIABLES" : Str), ("MOST_EVENTS" : Str)]
theorem run (w : World) : HandSHeadRun.RunEq R (PySem.W.view R.prog [41]) hk ob 8000 loose w := by
  intro os
  kernel_rfl


end K09
namespace L2
open PySem PySem.Spec PyProof.Rows
/-! ### data whose repr fits -/
def CpOk (x : Str) : Prop := ∀ c ∈ x.cps.toList, c < 16 ^ 8
theorem cpOk_of (s : String) : CpOk (Str.ofString s) := by
  intro c hc
  rw [Str.ofString_eq_toList] at hc
  obtain ⟨ch, _, rfl⟩ := List.mem_map.mp (show c ∈ s.toList.map Char.toNat by simpa using hc)
  have h : ch.toNat < 4294967296 := ch.val.toNat_lt
  exact h
theorem cpOk_app {x y : Str} (hx : CpOk x) (hy : CpOk y) : CpOk (x ++ y) := by
  intro c hc
  have e : (x ++ y).cps.toList = x.cps.toList ++ y.cps.toList := by show (x.cps ++ y.cps).toList = _; simp
  rw [e] at hc
  exact (List.mem_append.mp hc).elim (hx c) (hy c)
theorem cpOk_empty : CpOk Str.empty := fun c hc => by cases hc
/-- repr fits in B signs, nested at most k deep -/
structure OkD (B k : Nat) (d : PyData) : Prop where
  sh : d.showable = true
  dp : d.depth ≤ k
  ln : d.shown.length ≤ B
theorem OkD.mono {B B' k k' : Nat} {d : PyData} (h : OkD B k d) (hB : B ≤ B') (hk : k ≤ k') : OkD B' k' d := ⟨h.sh, Nat.le_trans h.dp hk, Nat.le_trans h.ln hB⟩
theorem OkD.fine {B k : Nat} {d : PyData} (h : OkD B k d) (hB : B ≤ 16777216) (hk : k ≤ 60) : Fine d := ⟨h.sh, Nat.le_trans h.dp hk, by rw [sizeLine_eq]; exact Nat.le_trans h.ln hB⟩
theorem okd_none : OkD 4 0 .none := ⟨rfl, Nat.le_refl _, Nat.le_refl _⟩
theorem okd_bool (b : Bool) : OkD 5 0 (.bool b) := ⟨rfl, Nat.le_refl _, by cases b <;> decide⟩
theorem okd_int {i : Int} (h : i.natAbs < 10 ^ 500) : OkD 501 0 (.int i) := by
  refine ⟨?_, Nat.le_refl _, ?_⟩
  · have e : i.natAbs.log2 < 1900 := PySem.Flt.log2_lt_of (k := 1900) (by decide) (Nat.lt_of_lt_of_le h (by decide +kernel))
    simp only [PyData.showable, decide_eq_true_eq]
    omega
  · show (Str.ofString (toString i)).length ≤ 501
    rw [PySem.ofString_length]
    exact int_text_length_le10 (k := 500) (by decide) h
theorem okd_str {x : Str} {n : Nat} (h : CpOk x) (l : x.length ≤ n) : OkD (10 * n + 2) 0 (.str x) := by
  refine ⟨rfl, Nat.le_refl _, ?_⟩
  have := StrLaws.reprText_len x h
  simp only [PyData.shown]
  omega
theorem showableAll_of : ∀ {ds : List PyData}, (∀ d ∈ ds, d.showable = true) → PyData.showableAll ds = true
  | [], _ => rfl
  | d :: ds, h => by
    simp only [PyData.showableAll, Bool.and_eq_true]
    exact ⟨h d List.mem_cons_self, showableAll_of fun x hx => h x (List.mem_cons_of_mem _ hx)⟩
theorem depthAll_of {k : Nat} : ∀ {ds : List PyData}, (∀ d ∈ ds, d.depth ≤ k) → PyData.depthAll ds ≤ k
  | [], _ => Nat.zero_le _
  | d :: ds, h => by
    simp only [PyData.depthAll]
    exact Nat.max_le.mpr ⟨h d List.mem_cons_self, depthAll_of fun x hx => h x (List.mem_cons_of_mem _ hx)⟩
theorem shownAll_sum {B : Nat} : ∀ {ds : List PyData}, (∀ d ∈ ds, d.shown.length ≤ B) → ((PyData.shownAll ds).map (·.length)).sum ≤ ds.length * B
  | [], _ => Nat.zero_le _
  | d :: ds, h => by
    have h1 := h d List.mem_cons_self
    have h2 := shownAll_sum (ds := ds) fun x hx => h x (List.mem_cons_of_mem _ hx)
    simp only [PyData.shownAll, List.map_cons, List.sum_cons, List.length_cons, Nat.add_mul, Nat.one_mul]
    omega
theorem okd_list {B k m : Nat} {ds : List PyData} (h : ∀ d ∈ ds, OkD B k d) (hm : ds.length ≤ m) : OkD (m * (B + 2) + 3) (k + 1) (.list ds) := by
  refine ⟨?_, ?_, ?_⟩
  · simp only [PyData.showable]; exact showableAll_of fun d hd => (h d hd).sh
  · simp only [PyData.depth]; exact Nat.succ_le_succ (depthAll_of fun d hd => (h d hd).dp)
  · have h1 := shownAll_sum fun d hd => (h d hd).ln
    have h2 := listText_len_le (PyData.shownAll ds)
    have h3 := PyData.shownAll_length ds
    have h4 : ds.length * (B + 2) ≤ m * (B + 2) := Nat.mul_le_mul_right _ hm
    rw [Nat.mul_add] at h4
    simp only [PyData.shown]
    omega
theorem okd_tuple {B k m : Nat} {ds : List PyData} (h : ∀ d ∈ ds, OkD B k d) (hm : ds.length ≤ m) : OkD (m * (B + 2) + 3) (k + 1) (.tuple ds) := by
  refine ⟨?_, ?_, ?_⟩
  · simp only [PyData.showable]; exact showableAll_of fun d hd => (h d hd).sh
  · simp only [PyData.depth]; exact Nat.succ_le_succ (depthAll_of fun d hd => (h d hd).dp)
  · have h1 := shownAll_sum fun d hd => (h d hd).ln
    have h2 := tupleText_len_le (PyData.shownAll ds)
    have h3 := PyData.shownAll_length ds
    have h4 : ds.length * (B + 2) ≤ m * (B + 2) := Nat.mul_le_mul_right _ hm
    rw [Nat.mul_add] at h4
    simp only [PyData.shown]
    omega
theorem all1 {P : PyData → Prop} {a : PyData} (ha : P a) : ∀ d ∈ [a], P d := fun d hd => by
  rw [List.mem_singleton.mp hd]; exact ha
theorem allC {P : PyData → Prop} {a : PyData} {l : List PyData} (ha : P a) (hl : ∀ d ∈ l, P d) : ∀ d ∈ a :: l, P d := fun d hd => (List.mem_cons.mp hd).elim (fun e => e ▸ ha) (hl d)
theorem all0 {P : PyData → Prop} : ∀ d ∈ ([] : List PyData), P d := fun d hd => by cases hd
/-! ### data that stays -/
mutual
theorem Dx.same {K : PySem.W.Frag} {H H' : Hp} (s : ∀ a o, H a = some o → H' a = some o) : ∀ {d : PyData} {v : V}, Dx K H v d → Dx K H' v d
  | .none, _, h => by cases h; exact .non
  | .bool b, _, h => by cases h; exact .bl b
  | .int i, _, h => by cases h; exact .int i
  | .str x, _, h => by cases h; exact .str x
  | .list ds, _, h => by
    cases h with
    | lst hs ha => exact .lst (hs.ext s) (DxAll.same s ha)
  | .tuple ds, _, h => by
    cases h with
    | tup hs ha => exact .tup (hs.ext s) (DxAll.same s ha)
  | .dict kvs, _, h => by
    cases h with
    | dic hs hk ha => exact .dic (hs.elim (fun h => .inl (s _ _ h)) fun ⟨o, h⟩ => .inr ⟨o, s _ _ h⟩) hk (DxKv.same s ha)
theorem DxAll.same {K : PySem.W.Frag} {H H' : Hp} (s : ∀ a o, H a = some o → H' a = some o) : ∀ {ds : List PyData} {vs : List V}, DxAll K H vs ds → DxAll K H' vs ds
  | [], _, h => by cases h; exact .nil
  | d :: ds, _, h => by
    cases h with
    | cons h1 h2 => exact .cons (Dx.same s h1) (DxAll.same s h2)
theorem DxKv.same {K : PySem.W.Frag} {H H' : Hp} (s : ∀ a o, H a = some o → H' a = some o) : ∀ {kvs : List (PyData × PyData)} {vs : List V}, DxAll K H vs (kvs.map (·.2)) → DxAll K H' vs (kvs.map (·.2))
  | [], _, h => by cases h; exact .nil
  | (k, d) :: ds, _, h => by
    rw [List.map_cons] at h ⊢
    cases h with
    | cons h1 h2 => exact .cons (Dx.same s h1) (DxKv.same s h2)
end
end L2

/-! enumerate(a dict): its keys by turns. -/
namespace PySem
open Sem (wp)
section
variable {prog : Program} {w : World} {A : Around} {E : Value → Shared → Prop} {st : Shared}
theorem ekey_item {jt dd : Addr} {j n ep : Nat} {ob : Obj} {es : Array DictEntry} {en : DictEntry} {P : Value → Shared → Prop} (g : st.heap.IsKeyIter jt dd j n ep) (gd : st.heap.get? dd = some ob) (cd : ob.data = .dict es ep)
    (zs : es.size = n) (hx : es[j]? = some en) (hQ : ∀ h', h'.IsKeyIter jt dd (j + 1) n ep → Heap.SameBut jt st.heap h' → P en.key { st with heap := h' }) :
    wpAny (model prog w) A (Builtin.SmallTypes.nextOf (.ref jt)) P E st := by
  obtain ⟨oi, gi, ci, di⟩ := id g
  unfold Builtin.SmallTypes.nextOf
  refine wpAny_bind (wpAny_callSpecial?_slot (name := Str.ofString "__next__") g.typeIs F.slot_dict_keyiterator_next (wpAny_call_entry F.slot_dict_keyiterator_next g.typeIs F.entry_dict_keyiterator_next ?_ (F.args_dict_keyiterator_next_1 _)))
  refine wpAny_bind <| wpAny_pure ?_
  refine wpAny_bind (wpAny_bind ?_)
  first | refine wpAny_bind (wpAny_typeNameOfWhole_keyiter g.typeIs (wpAny_pure ?_)) | refine wpAny_bind (wpAny_typeNameOf_keyiter g.typeIs (wpAny_pure ?_))
  refine wpAny_bind (wpAny_fieldsOf gi di ?_)
  have ow : Builtin.Dict_items.ownsTuple "dict_keyiterator" = false := by decide
  simp only [ow, Bool.false_eq_true, if_false]
  show wpAny _ _ (if (Value.ref dd == Value.none) = true then _ else _) _ _ st
  rw [if_neg (show ¬ ((Value.ref dd == Value.none) = true) from Bool.false_ne_true)]
  refine wpAny_bind (wpAny_pure (wpAny_bind (wpAny_dictEntries gd cd ?_)))
  rw [if_neg (by rw [zs]; simp)]
  refine wpAny_bind (wpAny_pure (wpAny_bind (wpAny_dictEpoch gd cd ?_)))
  rw [if_neg (by simp)]
  refine wpAny_pure ?_
  obtain ⟨lt, hen⟩ := Array.getElem?_eq_some_iff.mp hx
  simp only [show ¬ ((j : Int) < 0) from by omega, if_false, Int.toNat_natCast, Array.getElem?_eq_getElem lt]
  refine wpAny_bind ?_
  first | refine wpAny_bind (wpAny_typeNameOfWhole_keyiter g.typeIs (wpAny_pure ?_)) | refine wpAny_bind (wpAny_typeNameOf_keyiter g.typeIs (wpAny_pure ?_))
  refine wpAny_bind (wpAny_isOneOf_keyiter g.typeIs ?_)
  show wpAny _ _ (setField (.ref jt) 1 (rawInt ((j : Int) + 1)) >>= _) _ _ st
  refine wpAny_bind (wpAny_setField gi di (by simp) ?_)
  have g' : (st.heap.update jt (Obj.mapFields (·.setIfInBounds 1 (rawInt ((j : Int) + 1))))).IsKeyIter jt dd (j + 1) n ep :=
    ⟨_, Heap.get?_update_self _ gi (Obj.isFreed_of_fields (Obj.data_mapFields di _)), (Obj.cls_mapFields ..).trans ci, by rw [Obj.data_mapFields di]; simp [rawInt]⟩
  refine wpAny_bind (wpAny_holding (wpAny_bind (wpAny_isOneOf_keyiter (s := { st with heap := st.heap.update jt (Obj.mapFields (·.setIfInBounds 1 (rawInt ((j : Int) + 1)))) }) g'.typeIs ?_)))
  show wpAny _ _ (pure es[j].key) _ _ _
  rw [hen]
  exact wpAny_pure (wpAny_pure ⟨_, rfl, wpAny_pure (hQ _ g' (Heap.SameBut.update ..))⟩)
theorem ekey_end {jt dd : Addr} {j n ep : Nat} {ob : Obj} {es : Array DictEntry} {P : Value → Shared → Prop} (hh : A.handled = none) (g : st.heap.IsKeyIter jt dd j n ep) (gd : st.heap.get? dd = some ob) (cd : ob.data = .dict es ep)
    (zs : es.size = n) (ge : n ≤ j) (hE : ∀ h' e, Heap.ExtBut jt st.heap h' → (∃ o, h'.get? e = some o ∧ o.cls = .type "StopIteration") → E (.ref e) { st with heap := h' }) :
    wpAny (model prog w) A (Builtin.SmallTypes.nextOf (.ref jt)) P E st := by
  obtain ⟨oi, gi, ci, di⟩ := id g
  unfold Builtin.SmallTypes.nextOf
  refine wpAny_bind (wpAny_callSpecial?_slot (name := Str.ofString "__next__") g.typeIs F.slot_dict_keyiterator_next (wpAny_call_entry F.slot_dict_keyiterator_next g.typeIs F.entry_dict_keyiterator_next ?_ (F.args_dict_keyiterator_next_1 _)))
  refine wpAny_bind <| wpAny_pure ?_
  refine wpAny_bind (wpAny_bind ?_)
  first | refine wpAny_bind (wpAny_typeNameOfWhole_keyiter g.typeIs (wpAny_pure ?_)) | refine wpAny_bind (wpAny_typeNameOf_keyiter g.typeIs (wpAny_pure ?_))
  refine wpAny_bind (wpAny_fieldsOf gi di ?_)
  have ow : Builtin.Dict_items.ownsTuple "dict_keyiterator" = false := by decide
  simp only [ow, Bool.false_eq_true, if_false]
  show wpAny _ _ (if (Value.ref dd == Value.none) = true then _ else _) _ _ st
  rw [if_neg (show ¬ ((Value.ref dd == Value.none) = true) from Bool.false_ne_true)]
  refine wpAny_bind (wpAny_pure (wpAny_bind (wpAny_dictEntries gd cd ?_)))
  rw [if_neg (by rw [zs]; simp)]
  refine wpAny_bind (wpAny_pure (wpAny_bind (wpAny_dictEpoch gd cd ?_)))
  rw [if_neg (by simp)]
  refine wpAny_pure ?_
  have ge' : es.size ≤ j := by rw [zs]; exact ge
  simp only [show ¬ ((j : Int) < 0) from by omega, if_false, Int.toNat_natCast, Array.getElem?_eq_none ge']
  refine wpAny_bind ?_
  first | refine wpAny_bind (wpAny_typeNameOfWhole_keyiter g.typeIs (wpAny_pure ?_)) | refine wpAny_bind (wpAny_typeNameOf_keyiter g.typeIs (wpAny_pure ?_))
  show wpAny _ _ (setField (.ref jt) 0 .none >>= _) _ _ st
  refine wpAny_bind (wpAny_setField gi di (by simp) ?_)
  show wpAny _ _ (newExc (.type "StopIteration") [] >>= fun x => raiseNew x) _ _ _
  refine wpAny_bind (by
    simp only [newExc, newTuple]
    refine wpAny_bind (wpAny_newObj_type ?_ (by size_fits))
    refine wpAny_bind (m := firstArgMember _ _) (wpAny_of_eq (a := Value.none) (by first | rfl | (simp only [firstArgMember]; rfl)) (wpAny_newObj_type ?_ (by size_fits)))
    simp only [raiseNew]
    refine wpAny_bind (wpAny_handled ?_)
    rw [show A.in1.handled = none from hh]
    exact wpAny_bind (wpAny_pure (wpAny_throw (hE _ _ (((Heap.SameBut.update ..).extBut.push _).push _) ⟨_, Heap.get?_push_size _ rfl, rfl⟩))))
/-- the keys' iterator drawn, over a dict that stands -/
theorem ekey_draws (hh : A.handled = none) (jt dd : Addr) (ne : dd ≠ jt) (ob : Obj) (es : Array DictEntry) (ep : Nat) (cd : ob.data = .dict es ep) :
    Draws prog w A jt [jt, dd] es.size (fun j v => ∃ en, es[j]? = some en ∧ v = en.key) (fun j h => h.IsKeyIter jt dd j es.size ep ∧ h.get? dd = some ob) where
  live := fun _ _ s => let ⟨o, ho, _⟩ := s.1; ⟨o, ho⟩
  frame := fun _ _ _ s hk => ⟨s.1.at fun o e => hk jt (by simp) o e, hk dd (by simp) _ s.2⟩
  item := fun j s Q E hj g hQ => ekey_item g.1 g.2 cd rfl (Array.getElem?_eq_getElem hj) fun h' g' sb => hQ _ h' s.toks ⟨_, Array.getElem?_eq_getElem hj, rfl⟩ ⟨g', (sb.2 dd ne).trans g.2⟩ sb
  done := fun s Q E g hE => ekey_end hh g.1 g.2 cd rfl (Nat.le_refl _) hE
end
end PySem
namespace PySem
open Sem (wp)
section
theorem begins_keys {dd : Addr} {ob : Obj} {es : Array DictEntry} {ep : Nat} (sys : (dd == sysModules) = false) (cx : ob.ExactDict) (cd : ob.data = .dict es ep) :
    Begins (.ref dd) { cls := .type "dict_keyiterator", data := .fields #[.ref dd, .int 0 0, .int es.size 0, .int ep 0] } fun h => h.get? dd = some ob where
  iter := fun _ _ _ _ _ _ gd h => L2.iter_keys sys gd cx cd h
  keeps := fun _ _ x hk => hk _ _ x
  free := rfl
theorem meets_enum1 {v : Value} {o : Obj} {H : Heap → Prop} (B : Begins v o H) :
    Meets (Builtin.«enumerate.__new__» ⟨[.type "enumerate", v], []⟩) (fun _ R z => H z.heap ∧
      R (.ok (.ret (.ref (z.heap.push o).objs.size))) { z with heap := (z.heap.push o).push { cls := .type "enumerate", data := .fields #[.none, .bool false, .ref z.heap.objs.size, rawInt 0, .none, .none] } }) :=
  .of_wp fun prog w A R z h => by
    obtain ⟨hp, g, d, tk, os⟩ := z; obtain ⟨h1, h⟩ := h
    have hsub := sub_enumerate
    have q1 : ∀ {A' : Around} {E : Value → Shared → Prop} {Q : Value → Shared → Prop}, Q (.ref hp.objs.size) ⟨hp.push o, g, d, tk, os⟩ → wpAny (model prog w) A' (pyIter v) Q E ⟨hp, g, d, tk, os⟩ := fun q => B.iter prog w _ _ ⟨hp, g, d, tk, os⟩ _ h1 q
    wp_walk using q1
    refine wpAny_stack_any fun ss => wpAny_pure ?_
    split
    · rename_i c _ _ _ _ _
      cases (c == Value.type "enumerate") <;> (wp_walk using q1; exact ⟨_, rfl, h⟩)
    · wp_walk using q1
      exact ⟨_, rfl, h⟩
variable {prog : Program} {w : World} {A : Around} {E : Value → Shared → Prop} {st : Shared}
theorem enum1_begins {v : Value} {o : Obj} {H : Heap → Prop} {Q : Value → Shared → Prop} (B : Begins v o H) (h1 : H st.heap)
    (h : ∀ h', IsEnum h' (st.heap.objs.size + 1) st.heap.objs.size 0 .none → h'.get? st.heap.objs.size = some o → (∀ b o, st.heap.get? b = some o → h'.get? b = some o) → Q (.ref (st.heap.objs.size + 1)) { st with heap := h' }) :
    wpAny (model prog w) A (call (.type "enumerate") [v]) Q E st := by
  refine callType_new F.called_enumerate (by decide) (F.typeCall_enumerate_1 _) (F.newCall_enumerate_1 _) (fun obj => F.args_object_init_2 obj _) F.entry_enumerate_new (meets_enum1 B) ⟨h1, ?_⟩
  have z1 : (st.heap.push o).objs.size = st.heap.objs.size + 1 := Heap.size_push ..
  show _ ∧ _
  rw [z1]
  have g : IsEnum ((st.heap.push o).push { cls := .type "enumerate", data := .fields #[.none, .bool false, .ref st.heap.objs.size, rawInt 0, .none, .none] }) (st.heap.objs.size + 1) st.heap.objs.size 0 .none := by
    have q := Heap.get?_push_size (st.heap.push o) (o := { cls := .type "enumerate", data := .fields #[.none, .bool false, .ref st.heap.objs.size, rawInt 0, .none, .none] }) rfl
    rw [z1] at q; exact q
  exact ⟨⟨_, g, rfl⟩, h _ g (Heap.get?_push_of_some _ (Heap.get?_push_size _ B.free)) fun b o x => Heap.get?_push_of_some _ (Heap.get?_push_of_some _ x)⟩
end
end PySem
namespace L2
open PySem PySem.Spec PyProof.Rows
/-- the keys of a locked dict, numbered, each in a new pair -/
def Ited (d : Addr) (o : Obj) (kvs : List (Key × V)) : It :=
  ⟨fun i H => H d = some (.frz o (.dK kvs)) ∧ i < kvs.length, fun i H x H' => ∃ T k v, kvs[i]? = some (k, v) ∧ x = .ref T ∧ H T = none ∧ H' = upd H T (.tup [.int (i : Nat), kV k]), fun i H => H d = some (.frz o (.dK kvs)) ∧ kvs.length ≤ i⟩
theorem turn_enumD {P : Program} {w : World} {K : PySem.W.Frag} {elts : List Expr} {kk : Nat} {tpos : Pos} {d : Addr} {o : Obj} {es : Array DictEntry} {ep : Nat} {kvs : List (Key × V)} (e it : Addr) (hod : o.data = .dict es ep) :
    Turn P w K (.Tuple elts kk tpos) (Ited d o kvs) [e, it] e (fun i h => (∃ old, IsEnum h e it ((i : Nat) : Int) old) ∧ h.IsKeyIter it d i es.size ep ∧ e ≠ it ∧ i ≤ es.size) where
  mem := by simp
  obj := fun i h sx b hb => by
    obtain ⟨⟨old, he⟩, ⟨o, ho, hc, hd⟩, _⟩ := sx
    rcases (by simpa using hb : b = e ∨ b = it) with z | z
    · rw [z]; exact ⟨_, he, fun v q => nomatch q⟩
    · rw [z]; exact ⟨o, ho, fun v q => by rw [hd] at q; cases q⟩
  keep := fun i h h' sx k => let ⟨⟨old, he⟩, hi, hne⟩ := sx; ⟨⟨old, k e (by simp) _ he⟩, hi.at fun o q => k it (by simp) o q, hne⟩
  item := by
    intro X hP hw hK hc i pins s σ H E I hf sx hg
    subst hP hw hK
    obtain ⟨⟨old, he⟩, hit, hne, hle⟩ := sx
    obtain ⟨hd, hi⟩ := hg
    obtain ⟨hs, hgd, hx, es', ep', vs, hdt, hsz, kv, hm⟩ := I.frzK hd
    obtain ⟨rfl, rfl⟩ := dict_ep hod hdt
    obtain ⟨⟨k, v⟩, hkv⟩ : ∃ p, kvs[i]? = some p := ⟨kvs[i], List.getElem?_eq_getElem hi⟩
    obtain ⟨u, hu, ru⟩ := kv_get kv hkv
    have hel : e < s.heap.objs.size := Heap.lt_size he
    have hil : it < s.heap.objs.size := by obtain ⟨_, q, _⟩ := hit; exact Heap.lt_size q
    have ned : ∀ b ∈ [e, it], b ≠ d := fun b hb z => by have q := (hf b hb).1; rw [z, hd] at q; cases q
    refine wpAny_pyNext_enum_itemD (ekey_draws (A := X.A.in1) (I.ok.hd hc) it d (ned it (by simp)).symm o es' ep' hdt) he ⟨hit, hgd⟩ (by rw [hsz]; exact hi) hne (by simp; exact ⟨hne, ned e (by simp)⟩) fun x h' tk hen ho hit' hT hz hk => ?_
    obtain ⟨en, hen, rfl⟩ := hen
    have hkey : keyIs k en.key = true := by
      obtain ⟨o2, es2, g2, c2, d2, ko, ps, nd⟩ := hm
      rw [hgd] at g2
      cases g2
      obtain ⟨rfl, _⟩ := dict_ep hdt d2
      exact (Pairs.get? ps (by rw [Array.getElem?_toList]; exact hen) hu).1
    refine ⟨_, rfl, wpAny_letOwnedTupleGo_enum (s := { s with heap := h', toks := tk + 1 }) ho fun h'' he' sb => ?_⟩
    have hT2 : h''.get? s.heap.objs.size = some { cls := .type "tuple", data := .seq #[.int i tk, en.key] } := (sb.2 _ (Nat.ne_of_gt hel)).trans hT
    have new : ObjOk X.prog X.w (upd H s.heap.objs.size (.tup [.int (i : Nat), kV k])) h'' s.heap.objs.size (.tup [.int (i : Nat), kV k]) :=
      ⟨by show 2 ≤ sizeLine; decide, [.int i tk, en.key], .cons ⟨_, rfl⟩ (.cons (relV_key hkey) .nil), ⟨_, hT2, rfl, _, rfl⟩⟩
    have I1 : Inv X pins σ (upd H s.heap.objs.size (.tup [.int (i : Nat), kV k])) { s with heap := h'', toks := tk + 1 } :=
      I.turnedNew (ch := [e, it]) (fun b ob hb q => (sb.2 b (fun z => hb (by simp [z]))).trans (hk b ob (fun z => hb (by simp [z])) (fun z => hb (by simp [z])) q)) hf (Nat.le_refl _) new
    have he3 : IsEnum h'' e it (((i + 1 : Nat) : Int)) en.key := by
      have e1 : ((i + 1 : Nat) : Int) = (i : Int) + 1 := by omega
      rw [e1]; exact he'
    have fz : ∀ b ∈ [e, it], upd H s.heap.objs.size (.tup [.int (i : Nat), kV k]) b = none := fun b hb => by
      have hb' : b < s.heap.objs.size := by
        rcases (by simpa using hb : b = e ∨ b = it) with z | z
        · rw [z]; exact hel
        · rw [z]; exact hil
      rw [upd_ne (Nat.ne_of_lt hb')]
      exact (hf b hb).1
    exact ⟨.ref s.heap.objs.size, _, I1, rfl, ⟨_, k, v, hkv, rfl, I.hok.fresh (Nat.le_refl _), rfl⟩, ⟨⟨en.key, he3⟩, hit'.1.at fun o q => (sb.2 it (Ne.symm hne)).trans q, hne, by rw [hsz]; exact hi⟩, fz⟩
  done := by
    intro X hP hw hK hc i pins s σ H E I hf sx hg
    subst hP hw hK
    obtain ⟨⟨old, he⟩, hit, hne, hle⟩ := sx
    obtain ⟨hd, hi⟩ := hg
    obtain ⟨hs, hgd, hx, es', ep', vs, hdt, hsz, kv, hm⟩ := I.frzK hd
    obtain ⟨rfl, rfl⟩ := dict_ep hod hdt
    obtain ⟨f0, f1, f2, f3, f4, f5⟩ := hf it (by simp)
    have ned : it ≠ d := fun z => by rw [z, hd] at f0; cases f0
    have ei : i = es'.size := Nat.le_antisymm hle (by rw [hsz]; exact hi)
    subst ei
    exact wpAny_pyNext_enum_endD (ekey_draws (A := X.A.in1) (I.ok.hd hc) it d ned.symm o es' ep' hdt) he ⟨hit, hgd⟩ fun h' eb => ⟨rfl, I.turned (t' := s.toks) (fun b o hb q => eb b o hb q) f0 f1 f3 f4 f5⟩
  self := fun A i s Q E sx h => let ⟨⟨_, he⟩, _⟩ := sx; wpAny_pyIter_enum he h
def iEnumD (td : TA) : TI := fun σ H R => td σ H fun vs H1 => ∃ d o kvs, vs = [.ref d] ∧ H1 d = some (.frz o (.dK kvs)) ∧ R (Ited d o kvs) H1
theorem pi_enumD {X : Cx} {e : Expr} {ta : TA} {p pos tpos : Pos} {elts : List Expr} {kk : Nat} (hg : Gl X "enumerate") (hm : X.mg "enumerate" = none) (ha : PA X [e] ta) (hs : starEach [e] X.env = [(false, eval e X.env)] := by rfl) :
    PI X (.Tuple elts kk tpos) (.Call (.Name "enumerate" p) [e] [] pos) (iEnumD ta) := by
  refine ⟨fun pins s σ H R I h => ?_⟩
  refine Call_ (ld_blt I hg hm boot_enumerate (PyProof.Rows.callWith_type1 (thn (ha.run pos pins s σ H _ I h) fun us s1 ⟨vs, H1, I1, r1, d, o, kvs, ex, hd, q⟩ => ?_) hs rfl))
  subst ex
  cases r1 with
  | cons r rr =>
    cases rr
    cases r
    obtain ⟨sys, hgd, hx, es, ep, ws, hdt, hsz, kv, hm⟩ := I1.frzK hd
    refine enum1_begins (begins_keys sys hx hdt) hgd fun h' he hit hk => wpAny_pyIter_enum he ?_
    have I2 : Inv X pins σ H1 { s1 with heap := h' } := I1.kept (t' := s1.toks) hk
    refine ⟨s1.heap.objs.size + 1, [s1.heap.objs.size + 1, s1.heap.objs.size], _, _, H1, rfl, I2, turn_enumD (s1.heap.objs.size + 1) s1.heap.objs.size hdt, ⟨⟨.none, he⟩, ⟨_, hit, rfl, rfl⟩, Nat.succ_ne_self _, Nat.zero_le _⟩, fun b hb => ?_, q⟩
    have le : s1.heap.objs.size ≤ b := by
      rcases (by simpa using hb : b = s1.heap.objs.size + 1 ∨ b = s1.heap.objs.size) with z | z
      · rw [z]; exact Nat.le_add_right _ _
      · rw [z]; exact Nat.le_refl _
    exact I1.fpOk le (I1.hok.fresh le)
/-- walked by one rule or by another, as the value is -/
theorem pi_or {X : Cx} {tg e : Expr} {w1 w2 : TI} (h1 : PI X tg e w1) (h2 : PI X tg e w2) : PI X tg e fun σ H R => w1 σ H R ∨ w2 σ H R :=
  ⟨fun pins s σ H R I h => h.elim (h1.run pins s σ H R I) (h2.run pins s σ H R I)⟩
end L2

/-! sorted(xs), xs a list or a tuple of tuples of small ints, all of one length. -/
namespace STT
open PySem PyProof.Rows TS
section
variable {prog : Program} {w : World} {A : Around} {E : Value → Shared → Prop} {st : Shared}
theorem coll_seq {l : Addr} {o : Obj} {vs : List Value} {n : Nat} {Q : List Value → Shared → Prop} (gl : st.heap.get? l = some o) (cl : o.cls = .type "list" ∨ o.cls = .type "tuple") (dl : o.data = .seq vs.toArray n) (z : vs.length ≤ sizeLine)
    (h : Q vs { st with heap := (st.heap.push (seqObj "list" #[] 0)).update st.heap.objs.size (Obj.mapSeq (· ++ vs.toArray)) }) : wpAny (model prog w) A (collect (.ref l)) Q E st := by
  rcases cl with cl | cl
  · exact collect_list ⟨o, gl, cl, n, dl⟩ h z
  · unfold collect
    refine wpAny_bind (wpAny_runValue (codeAny_builtin entry_proto_collect' ?_))
    show wpAny _ _ (do again (.builtin "list.__iadd__" ⟨[← newList [], .ref l], []⟩)) _ _ st
    refine wpAny_bind (wpAny_newList (wpAny_pure ⟨Code.quiet_builtin _ (by decide +kernel), codeAny_builtin entry_list_iadd' ?_⟩))
    show wpAny _ _ (Builtin.List.listExtendWith (.ref st.heap.objs.size) (.ref l) (.ref st.heap.objs.size)) _ _ { st with heap := st.heap.push (seqObj "list" #[] 0) }
    unfold Builtin.List.listExtendWith
    have gl' : (st.heap.push (seqObj "list" #[] 0)).get? l = some o := Heap.get?_push_of_some _ gl
    refine wpAny_bind (wpAny_typeOf (T := "tuple") ⟨o, gl', cl⟩ ?_)
    rw [if_pos (by rw [show (Value.type "tuple" == Value.type "tuple") = true from rfl]; simp)]
    refine wpAny_bind (listItems_at gl' dl (wpAny_bind (listItems_at (xs := #[]) (n := 0) (Heap.get?_push_size _ rfl) rfl ?_)))
    rw [if_neg (by simp)]
    refine wpAny_bind (listUpdate_at (xs := #[]) (n := 0) (Heap.get?_push_size _ rfl) rfl ?_ (Nat.zero_le _) (by show (#[] ++ vs.toArray).size ≤ sizeLine + 1; simp only [Array.size_append, List.size_toArray, List.length_nil]; omega))
    refine wpAny_pure ?_
    show wpAny (model prog w) A (do
        let oo ← load st.heap.objs.size
        match oo.data with
        | .seq xs _ => pure xs.toList
        | _ => unsupported "internal:collect") Q E { st with heap := (st.heap.push (seqObj "list" #[] 0)).update st.heap.objs.size (Obj.mapSeq (· ++ vs.toArray)) }
    refine wpAny_bind (wpAny_load (get?_update_seq (Heap.get?_push_size _ rfl) _) ?_)
    show wpAny _ _ (pure ((#[] : Array Value) ++ vs.toArray).toList) Q E _
    rw [show ((#[] : Array Value) ++ vs.toArray).toList = vs by simp]
    exact wpAny_pure h
theorem sorted_tt {l : Addr} {o : Obj} {vs : List Value} {n d : Nat} {B : Int} {Q : Value → Shared → Prop} (gl : st.heap.get? l = some o) (cl : o.cls = .type "list" ∨ o.cls = .type "tuple") (dl : o.data = .seq vs.toArray n) (lt : vs.length < 64) (hd : 1 ≤ d) (x : TupsOk st.heap d B vs)
    (h : ∀ out : Array Value, out.toList.Perm vs → out.toList.Pairwise (fun u v => code B (intsOf st.heap u) ≤ code B (intsOf st.heap v)) → Q (.ref (st.heap.objs.size + 1)) { st with heap := sortedAll st.heap vs out }) :
    wpAny (model prog w) A (call (.builtin "sorted") [.ref l]) Q E st := by
  refine Calls.call_function_entry kind_sorted plain_sorted entry_sorted (args_sorted1 _) ?_
  unfold Builtin.«sorted»
  refine wpAny_bind (m := checkCount "sorted" 1 1 _) (wpAny_pure (wpAny_bind (coll_seq gl cl dl (by rw [sizeLine_eq]; omega) (wpAny_bind (wpAny_newList ?_ (by rw [sizeLine_eq]; omega))))))
  have zz : ((st.heap.push (seqObj "list" #[] 0)).update st.heap.objs.size (Obj.mapSeq (· ++ vs.toArray))).objs.size = st.heap.objs.size + 1 := by rw [Heap.size_update, size_push']
  have gN : (((st.heap.push (seqObj "list" #[] 0)).update st.heap.objs.size (Obj.mapSeq (· ++ vs.toArray))).push (seqObj "list" vs.toArray 0)).get? (st.heap.objs.size + 1) = some (seqObj "list" vs.toArray 0) := by rw [← zz]; exact Heap.get?_push_size _ rfl
  have keep : ∀ b o, st.heap.get? b = some o → o.cls = .type "tuple" → (((st.heap.push (seqObj "list" #[] 0)).update st.heap.objs.size (Obj.mapSeq (· ++ vs.toArray))).push (seqObj "list" vs.toArray 0)).get? b = some o := fun b o q _ => by
    have lb : b < st.heap.objs.size := Heap.lt_size q
    rw [Heap.get?_push_ne _ _ _ (by rw [zz]; exact Nat.ne_of_lt (Nat.lt_succ_of_lt lb)), Heap.get?_update_ne _ _ _ _ (Nat.ne_of_lt lb), Heap.get?_push_ne _ _ _ (Nat.ne_of_lt lb)]
    exact q
  show wpAny _ _ _ _ _ { st with heap := ((st.heap.push (seqObj "list" #[] 0)).update st.heap.objs.size (Obj.mapSeq (· ++ vs.toArray))).push (seqObj "list" vs.toArray 0) }
  rw [zz]
  refine wpAny_bind (wpAny_holding (wpAny_call_entry slot_list_sort ⟨_, gN, rfl⟩ entry_list_sort (sort_tups gN lt hd (x.keeps keep) (fun v => code B (intsOf st.heap v)) (fun v hv ns t => ?_) fun out a1 a2 => ⟨_, rfl, ?_⟩) (args_list_sort _)))
  · obtain ⟨ns0, t0, _⟩ := x v hv
    rw [show ns = ns0 from t.ints.symm.trans (t0.keeps keep).ints]
    show code B (intsOf st.heap v) = code B ns0
    rw [t0.ints]
  · exact wpAny_pure ⟨_, rfl, h out a1 a2⟩
end
end STT
namespace L2
open PySem PySem.Spec PyProof.Rows
section
variable {X : Cx}
/-- sorted(xs), xs a list or a tuple of tuples of ints, d each, within [0, B) -/
def rSortTT (K : PySem.W.Frag) : List V → Hp → VK → Prop := fun vs H Q => ∃ (a : Addr) (xs : List V) (f : V → List Int) (d : Nat) (B : Int), vs = [V.ref a] ∧ (SqL K H a xs ∨ SqT K H a xs) ∧ xs.length < 64 ∧ 1 ≤ d ∧
  (∀ x ∈ xs, ∃ t, x = V.ref t ∧ SqT K H t ((f x).map V.int) ∧ (f x).length = d ∧ TS.Bd B (f x)) ∧
  ∀ ys p, ys.Perm xs → ys.Pairwise (fun x y => TS.code B (f x) ≤ TS.code B (f y)) → H p = none → Q (.ref p) (upd H p (.lst ys))
theorem cr_sortTT : CallR X (.builtin "sorted") (rSortTT X.K) := by
  intro pins s σ H vs us Q I r h
  obtain ⟨a, xs, f, d, B, rfl, hs, lt, hd, hx, q⟩ := h
  obtain ⟨u, rfl, ru⟩ := vals1 r
  obtain rfl : u = Value.ref a := ru
  obtain ⟨its, rv, o, n, gl, cl, dl⟩ : ∃ its : List Value, Vals xs its ∧ ∃ o n, s.heap.get? a = some o ∧ (o.cls = .type "list" ∨ o.cls = .type "tuple") ∧ o.data = .seq its.toArray n := by
    rcases hs with hs | hs
    · obtain ⟨its, rv, pl, _⟩ := I.list hs
      obtain ⟨o, go, co, n, dn⟩ := pl.isList
      exact ⟨its, rv, o, n, go, .inl co, dn⟩
    · obtain ⟨its, rv, ⟨o, go, co, n, dn⟩, _⟩ := I.tuple hs
      exact ⟨its, rv, o, n, go, .inr co, dn⟩
  obtain ⟨e1, e2⟩ := refs_back rv fun x m => by
    obtain ⟨t, e, _⟩ := hx x m
    exact ⟨t, e⟩
  have tups : ∀ v ∈ its, TS.TupInts s.heap v (f (backV v)) ∧ (f (backV v)).length = d ∧ TS.Bd B (f (backV v)) := fun v hv => by
    obtain ⟨t, rfl⟩ := e2 v hv
    have hm : V.ref t ∈ xs := by rw [e1]; exact List.mem_map.mpr ⟨_, hv, rfl⟩
    obtain ⟨t', e, sq, l, b⟩ := hx _ hm
    cases e
    obtain ⟨us, r2, tp, _⟩ := I.tuple sq
    exact ⟨⟨t, _, rfl, tp, by rw [List.toList_toArray]; exact intsAre_of r2⟩, l, b⟩
  refine STT.sorted_tt gl cl dl (by rw [← rv.length]; exact lt) hd (fun v hv => ⟨_, tups v hv⟩) fun out pm pw => ?_
  obtain ⟨e, ge⟩ := sortedAll_at s.heap its out
  have h3 : ∀ u ∈ out.toList, ∃ a, u = Value.ref a := fun u hu => e2 u (pm.mem_iff.mp hu)
  have lo : (out.toList.map backV).length ≤ sizeLine := by
    rw [List.length_map, pm.length_eq, ← rv.length, sizeLine_eq]; omega
  have hp : s.heap.objs.size ≤ s.heap.objs.size + 1 := Nat.le_succ _
  refine ⟨.ref (s.heap.objs.size + 1), upd H (s.heap.objs.size + 1) (.lst (out.toList.map backV)), I.laid (t' := s.toks) (fun b o q => sortedAll_old q) hp ⟨lo, out.toList, e, vals_back h3, by simpa using ge⟩, rfl, q _ _ ?_ ?_ (I.hok.fresh hp)⟩
  · rw [e1]; exact pm.map backV
  · rw [List.pairwise_map]
    refine pw.imp_of_mem fun {u v} hu hv l => ?_
    rw [(tups u (pm.mem_iff.mp hu)).1.ints, (tups v (pm.mem_iff.mp hv)).1.ints] at l
    exact l
end
end L2

/-! len(o), repr(o) of an own instance with __len__, __repr__; {x!r} of nested data. -/
namespace PySem
namespace EXV
open PySem.W PySem.Calls PyProof.Rows PySem.Spec
section
variable {prog : Program} {w : World} {A : Around} {E : Value → Shared → Prop} {st : Shared} {K : Frag} {x C f : Addr} {ox : Obj} {od : Option Obj}
theorem own_len {Q : Value → Shared → Prop} (X : K.In st.heap) (I : InstAt st.heap x ox C od) (hl : findIn K (.ref C) "__len__" = some (some (.ref f))) (hf : typeIn K (.ref f) = some (.type "function"))
    (h : wpAny (model prog w) A.in1 (call (.ref f) [.ref x]) (fun v s' => ∃ (n : Nat) (t : Tok), v = .int n t ∧ n < 2 ^ 62 ∧ ∀ t', Q (.int n t') { s' with toks := s'.toks + 1 }) E st) : wpAny (model prog w) A (call (.builtin "len") [.ref x]) Q E st := by
  refine Calls.call_function_entry kind_len plain_len entry_len (args_len1 _) ?_
  unfold Builtin.«len»
  refine wpAny_bind (m := oneArg "len" _) (wpAny_pure (wpAny_bind (m := callSpecial? (.ref x) (Str.ofString "__len__")) (special_fn X I hl hf (wpAny_mono h (fun r s' z => ?_) fun _ _ z => z))))
  obtain ⟨n, t, rfl, lt, q⟩ := z
  refine wpAny_bind (wpAny_holding (wpAny_pure (wpAny_bind (wpAny_letGo ?_))))
  show wpAny _ _ (if ((n : Nat) : Int) < 0 then _ else _) _ _ _
  rw [if_neg (by omega)]
  show wpAny _ _ (if ((n : Nat) : Int) ≥ 2 ^ 63 then _ else _) _ _ _
  rw [if_neg (by omega)]
  exact wpAny_bind (wpAny_mkInt (wpAny_pure ⟨_, rfl, q _⟩))
theorem own_repr {Q : Value → Shared → Prop} (hu : A.units + 1 < cLine) (X : K.In st.heap) (I : InstAt st.heap x ox C od) (hs : findIn K (.ref C) "__repr__" = some (some (.ref f))) (hf : isFn K (.ref f) = true)
    (h : wpAny (model prog w) A.in1 (call (.ref f) [.ref x]) (fun r s₁ => ∃ y t, r = .str y t ∧ Q r s₁) E st) : wpAny (model prog w) A (call (.builtin "repr") [.ref x]) Q E st := by
  refine Calls.call_function_entry PySem.F.kind_repr PySem.F.plain_repr PySem.F.entry_repr (PySem.F.args_repr1 _) ?_
  unfold Builtin.«repr»
  refine wpAny_bind (m := oneArg "repr" _) (wpAny_pure (wpAny_bind (m := cRoomFor _ _) (wpAny_cRoomFor (by show A.units + 1 < cLine; exact hu) ?_)))
  have sp : ∀ {Q' : Option Value → Shared → Prop}, Q' (some (.ref f)) st → wpAny (model prog w) A.in1 (specialOf (.ref x) "__repr__") Q' E st := fun q => by
    unfold specialOf
    exact wpAny_bind (I.type.here ((PySem.W.looks_findIn X hs).here q))
  refine wpAny_bind (sp ?_)
  refine wpAny_bind (m := callSpecialIfBound? (.ref x) (Str.ofString "__repr__")) (ifBound_K X I hs hf (wpAny_mono h (fun r s₁ z => ?_) fun _ _ z => z))
  obtain ⟨y, t, rfl, q⟩ := z
  refine wpAny_bind (wpAny_isInstance (T := "str") (b := true) rfl isSubtype_str_str ?_)
  exact wpAny_pure ⟨_, rfl, q⟩
end
end EXV
end PySem
namespace L2
open PySem PySem.Spec PyProof.Rows
section
variable {X : Cx} {CX : CXT} {k : Nat} {C f : Addr} {fd : FuncData} {ps : List Str} {sp : Sp} {E : XK}
def rLenX (C : Addr) (sp : Sp) (E : XK) : List V → Hp → VK → Prop := fun xs H Q => ∃ a dx fs, xs = [.ref a] ∧ H a = some (.ins C dx fs) ∧ sp [.ref a] H (fun v H' => ∃ n : Nat, v = .int n ∧ n < 2 ^ 62 ∧ Q (.int n) H') E
theorem call_lenX (F : FnOk X.prog X.w X.K X.mg X.base CX k f fd ps sp) (hr : Room (k + 1) X.A) (hb : Binds X.K fd ps []) (hx : Passes CX X E) (hs : PySem.W.findIn X.K (.ref C) "__len__" = some (some (.ref f))) (hf : PySem.W.isFn X.K (.ref f) = true) :
    CallR X (.builtin "len") (rLenX C sp E) := by
  intro pins s σ H xs us Q I r h
  obtain ⟨a, dx, fs, rfl, ha, hsp⟩ := h
  obtain ⟨u, rfl, ru⟩ := vals1 r
  cases ru
  obtain ⟨mA, J, _⟩ := ins_get I.hok ha
  obtain ⟨od, J, _⟩ := J.look
  refine PySem.EXV.own_len I.kIn J hs (beq_iff_eq.mp hf) ?_
  refine wpAny_mono (run_fnAt (vs := [.ref a]) rfl F hr.in1 hb hx I (.cons rfl .nil) hsp) (fun w s' z => ?_) fun _ _ z => z
  obtain ⟨v', H', I', rv, n, rfl, lt, q⟩ := z
  obtain ⟨t, rfl⟩ := rv
  exact ⟨n, t, rfl, lt, fun t' => ⟨.int n, H', I'.tok _, ⟨t', rfl⟩, q⟩⟩
/-- the callee, where no repr is under way, at another depth of the same frames -/
theorem run_fnGAt {A' : Around} {pins : List (Addr × Obj)} {σ : St} {H : Hp} {s : Shared} {Q : VK} {us : List Value} {vs : List V} (hfr : A'.frames = X.A.frames) (hA : A'.guards = some []) (F : FnG X.prog X.w X.K X.mg X.base CX k f fd ps sp) (hr : Room k A') (hb : Binds X.K fd ps []) (hx : Passes CX X E)
    (I : Inv X pins σ H s) (r : Vals vs us) (h : sp vs H Q E) : wpAny (model X.prog X.w) A' (call (.ref f) us) (EP X pins σ Q) X.xe s := by
  have e := I.env0
  have e0 : Env0 X.prog X.w X.K X.mg X.base A' X.stack s H := ⟨by rw [hfr]; exact e.frames, e.mod, e.bs, e.bsz, e.funs, e.frf, e.hok, e.bare⟩
  have b := hb s us I.kIn (by rw [List.append_nil, ← r.length]; exact F.len _ _ _ _ h)
  rw [List.append_nil] at b
  refine wpAny_call (codeAny_mono (F.run A' X.stack s H ⟨us, []⟩ us vs Q E hr hA e0 b r h) fun r s' hq => ?_)
  match r, hq with
  | .error e, hq => exact hx pins σ H s e s' I hq
  | .ok (.ret u), hq => exact I.after hq
  | .ok .next, hq => exact hq.elim
  | .ok .brk, hq => exact hq.elim
  | .ok .cont, hq => exact hq.elim
theorem call_reprX (hA : X.A.guards = some []) (F : FnG X.prog X.w X.K X.mg X.base CX k f fd ps sp) (hr : Room (k + 1) X.A) (hb : Binds X.K fd ps []) (hx : Passes CX X E) (hs : PySem.W.findIn X.K (.ref C) "__repr__" = some (some (.ref f))) (hf : PySem.W.isFn X.K (.ref f) = true) :
    CallR X (.builtin "repr") (rStrX C sp E) := by
  intro pins s σ H xs us Q I r h
  obtain ⟨a, dx, fs, rfl, ha, hsp⟩ := h
  obtain ⟨u, rfl, ru⟩ := vals1 r
  cases ru
  obtain ⟨mA, J, _⟩ := ins_get I.hok ha
  obtain ⟨od, J, _⟩ := J.look
  refine PySem.EXV.own_repr (by have := hr.un; omega) I.kIn J hs hf ?_
  refine wpAny_mono (run_fnGAt (vs := [.ref a]) rfl hA F hr.in1 hb hx I (.cons rfl .nil) hsp) (fun w s' z => ?_) fun _ _ z => z
  obtain ⟨v', H', I', rv, b, rfl, q⟩ := z
  obtain ⟨t, rfl⟩ := rv
  exact ⟨b, t, rfl, .str b, H', I', ⟨t, rfl⟩, q⟩
/-- {x!r} of nested data -/
def tFmtD (K : PySem.W.Frag) (te : TE) : TE := fun σ H Q => te σ H fun x H1 => ∃ (a : Addr) (d : PyData), x = .ref a ∧ Dx K H1 x d ∧ Fine d ∧ Q (.str d.shown) H1
theorem pe_fmtD {e : Expr} {te : TE} {pos : Pos} (hA : X.A.guards = some []) (hu : X.A.units + 64 < cLine) (sm : HasSm X.K) (he : PE X e te) : PE X (.FormattedValue e 114 none pos) (tFmtD X.K te) := by
  refine ⟨fun pins s σ H Q I h => ?_⟩
  refine wpAny_FormattedValue_repr (thn (he.run pins s σ H _ I h) fun v s1 hv => ?_)
  obtain ⟨x, H1, I1, r1, a, d, rfl, hd, ⟨h1, h2, h3⟩, q⟩ := hv
  obtain ⟨as, hr, hn⟩ := Dx.reads I1 sm d _ v hd r1
  cases r1
  refine pyReprObj_of_reads hr h1 (fun _ => hn) hA (by omega) (fun _ _ e => e) (fun h' u tk hk => ?_) h3
  have I2 : Inv X pins σ H1 { s1 with heap := h', toks := tk } := I1.kept (t' := tk) hk
  exact wpAny_formatField_str ⟨.str d.shown, H1, I2, ⟨_, rfl⟩, q⟩ ⟨.str d.shown, H1, I2.tok _, ⟨_, rfl⟩, q⟩ h3
end
end L2

/-! zip(a tuple, a list). -/
namespace L2
open PySem PySem.Spec PyProof.Rows
def Itzm (K : PySem.W.Frag) (a b : Addr) (xs ys : List V) : It :=
  ⟨fun i H => (SqT K H a xs ∧ SqL K H b ys) ∧ i < min xs.length ys.length, fun i H v H' => ∃ T x y, v = .ref T ∧ H T = none ∧ H' = upd H T (.tup [x, y]) ∧ xs[i]? = some x ∧ ys[i]? = some y,
    fun i H => (SqT K H a xs ∧ SqL K H b ys) ∧ min xs.length ys.length ≤ i⟩
theorem turn_zipM {P : Program} {w : World} {K : PySem.W.Frag} {elts : List Expr} {kk : Nat} {tpos : Pos} {a b z TI TO i1 i2 : Addr} {xs ys : List V} (D : ZipSep2 z TI TO i1 i2 [i1, a] [i2, b]) :
    Turn P w K (.Tuple elts kk tpos) (Itzm K a b xs ys) [z, TI, TO, i1, i2] z (fun i h => IsZip h z TI TO .none ∧ IsTupOf2 h TI (.ref i1) (.ref i2) ∧ (∃ x y, IsTupOf2 h TO x y) ∧ h.IsTupleIter i1 a i ∧ h.IsListIter i2 b i ∧ i ≤ xs.length ∧ i ≤ ys.length) where
  mem := by simp
  obj := fun i h st c hc => by
    obtain ⟨hz, hTI, ⟨x, y, hTO⟩, ⟨o1, e1, _, d1⟩, ⟨o2, e2, _, d2⟩, _⟩ := st
    rcases (by simpa using hc : c = z ∨ c = TI ∨ c = TO ∨ c = i1 ∨ c = i2) with q | q | q | q | q
    · rw [q]; exact ⟨_, hz, fun v q => nomatch q⟩
    · rw [q]; exact ⟨_, hTI, fun v q => nomatch q⟩
    · rw [q]; exact ⟨_, hTO, fun v q => nomatch q⟩
    · rw [q]; exact ⟨o1, e1, fun v q => by rw [d1] at q; cases q⟩
    · rw [q]; exact ⟨o2, e2, fun v q => by rw [d2] at q; cases q⟩
  keep := fun i h h' st k => by
    obtain ⟨hz, hTI, ⟨x, y, hTO⟩, h1, h2, l⟩ := st
    exact ⟨k z (by simp) _ hz, k TI (by simp) _ hTI, ⟨x, y, k TO (by simp) _ hTO⟩, h1.at fun o q => k i1 (by simp) o q, h2.at fun o q => k i2 (by simp) o q, l⟩
  item := by
    intro X hP hw hK hc i pins s σ H E I hf st hg
    subst hP hw hK
    obtain ⟨hz, hTI, ⟨x0, y0, hTO⟩, h1, h2, l1, l2⟩ := st
    obtain ⟨⟨hqx, hqy⟩, hi⟩ := hg
    obtain ⟨its, rv, tp, _⟩ := I.tuple hqx
    obtain ⟨its2, rv2, p2, _⟩ := I.list hqy
    have hx : xs[i]? = some (xs[i]'(by omega)) := List.getElem?_eq_getElem _
    have hy : ys[i]? = some (ys[i]'(by omega)) := List.getElem?_eq_getElem _
    obtain ⟨u, hu, ru⟩ := rv.get hx
    obtain ⟨u2, hu2, ru2⟩ := rv2.get hy
    have hzl : z < s.heap.objs.size := Heap.lt_size hz
    have n1 := rv.length
    have n2 := rv2.length
    have hd1 : X.A.in1.handled = none := I.ok.hd hc
    have nea : a ≠ i1 := fun q => by
      obtain ⟨o, ho, hc1, _⟩ := id tp
      obtain ⟨o', ho', hc2, _⟩ := id h1
      rw [q, ho'] at ho; cases ho; rw [hc2] at hc1; exact absurd (Value.type.inj hc1) (by decide)
    have neb : b ≠ i2 := fun q => by
      obtain ⟨o, ho, hc1, _⟩ := id p2.isList
      obtain ⟨o', ho', hc2, _⟩ := id h2
      rw [q, ho'] at ho; cases ho; rw [hc2] at hc1; exact absurd (Value.type.inj hc1) (by decide)
    refine wpAny_pyNext_zipD2_item D (Draws.tuple hd1 i1 a nea its.toArray) (Draws.list hd1 i2 b neb its2.toArray) hz hTI hTO ⟨h1, tp⟩ ⟨h2, p2.isList⟩ (by simp; omega) (by simp; omega) fun v1 v2 h' tk e1 e2 z' TO' s1 s2 hT hsz hk => ?_
    have w1 : v1 = u := by rw [show its.toArray[i]? = some u by simpa using hu] at e1; exact (Option.some.inj e1).symm
    have w2 : v2 = u2 := by rw [show its2.toArray[i]? = some u2 by simpa using hu2] at e2; exact (Option.some.inj e2).symm
    subst w1 w2
    refine ⟨_, rfl, wpAny_letOwnedTupleGo_zip (s := { s with heap := h', toks := tk }) z' fun h'' z'' sb => ?_⟩
    have hT2 : h''.get? s.heap.objs.size = some { cls := .type "tuple", data := .seq #[v1, v2] } := (sb.2 _ (Nat.ne_of_gt hzl)).trans hT
    have new : ObjOk X.prog X.w (upd H s.heap.objs.size (.tup [xs[i]'(by omega), ys[i]'(by omega)])) h'' s.heap.objs.size (.tup [xs[i]'(by omega), ys[i]'(by omega)]) :=
      ⟨by show 2 ≤ sizeLine; decide, [v1, v2], .cons ru (.cons ru2 .nil), ⟨_, hT2, rfl, _, rfl⟩⟩
    have kk5 : ∀ c o, c ∉ [z, TI, TO, i1, i2] → s.heap.get? c = some o → h''.get? c = some o := fun c o hb q => (sb.2 c (fun q' => hb (by simp [q']))).trans (hk c o (fun q' => hb (by simp [q'])) (fun q' => hb (by simp [q'])) (fun q' => hb (by simp [q'])) (fun q' => hb (by simp [q'])) q)
    have I1 : Inv X pins σ (upd H s.heap.objs.size (.tup [xs[i]'(by omega), ys[i]'(by omega)])) { s with heap := h'', toks := tk } := I.turnedNew (t' := tk) (ch := [z, TI, TO, i1, i2]) kk5 hf (Nat.le_refl _) new
    have fz : ∀ c ∈ [z, TI, TO, i1, i2], upd H s.heap.objs.size (.tup [xs[i]'(by omega), ys[i]'(by omega)]) c = none := fun c hcm => by
      have hlt : c < s.heap.objs.size := by
        rcases (by simpa using hcm : c = z ∨ c = TI ∨ c = TO ∨ c = i1 ∨ c = i2) with q | q | q | q | q
        · rw [q]; exact hzl
        · rw [q]; exact Heap.lt_size hTI
        · rw [q]; exact Heap.lt_size hTO
        · rw [q]; obtain ⟨_, e1, _⟩ := h1; exact Heap.lt_size e1
        · rw [q]; obtain ⟨_, e2, _⟩ := h2; exact Heap.lt_size e2
      rw [upd_ne (Nat.ne_of_lt hlt)]
      exact (hf c hcm).1
    have tI : h''.get? TI = some { cls := .type "tuple", data := .seq #[.ref i1, .ref i2] } := (sb.2 _ D.TIz).trans (hk _ _ D.TIz D.TITO D.TIi1 D.TIi2 hTI)
    have nn : i + 1 ≤ xs.length ∧ i + 1 ≤ ys.length := by omega
    exact ⟨.ref s.heap.objs.size, _, I1, rfl, ⟨_, _, _, rfl, I.hok.fresh (Nat.le_refl _), rfl, hx, hy⟩, ⟨z'', tI, ⟨_, _, (sb.2 _ D.TOz).trans TO'⟩, s1.1.at fun o q => (sb.2 _ D.zi1.symm).trans q, s2.1.at fun o q => (sb.2 _ D.zi2.symm).trans q, nn⟩, fz⟩
  done := by
    intro X hP hw hK hc i pins s σ H E I hf st hg
    subst hP hw hK
    obtain ⟨hz, hTI, ⟨x0, y0, hTO⟩, h1, h2, l1, l2⟩ := st
    obtain ⟨⟨hqx, hqy⟩, hi⟩ := hg
    obtain ⟨its, rv, tp, _⟩ := I.tuple hqx
    obtain ⟨its2, rv2, p2, _⟩ := I.list hqy
    have n1 := rv.length
    have n2 := rv2.length
    have hd1 : X.A.in1.handled = none := I.ok.hd hc
    have nea : a ≠ i1 := fun q => by
      obtain ⟨o, ho, hc1, _⟩ := id tp
      obtain ⟨o', ho', hc2, _⟩ := id h1
      rw [q, ho'] at ho; cases ho; rw [hc2] at hc1; exact absurd (Value.type.inj hc1) (by decide)
    have neb : b ≠ i2 := fun q => by
      obtain ⟨o, ho, hc1, _⟩ := id p2.isList
      obtain ⟨o', ho', hc2, _⟩ := id h2
      rw [q, ho'] at ho; cases ho; rw [hc2] at hc1; exact absurd (Value.type.inj hc1) (by decide)
    exact wpAny_pyNext_zipD2_end D (Draws.tuple hd1 i1 a nea its.toArray) (Draws.list hd1 i2 b neb its2.toArray) hz hTI hTO ⟨h1, tp⟩ ⟨h2, p2.isList⟩ (by simp; omega) (by simp; omega) (by simp; omega) fun h' tk hk => ⟨rfl, I.turnedL (t' := tk) (ch := [z, TI, TO, i1, i2]) (fun c o hb q =>
      hk c o (fun q' => hb (by simp [q'])) (fun q' => hb (by simp [q'])) (fun q' => hb (by simp [q'])) (fun q' => hb (by simp [q'])) q) hf⟩
  self := fun A i s Q E st h => wpAny_pyIter_zip st.1 h
def iZipM (K : PySem.W.Frag) (ta : TA) : TI := fun σ H R => ta σ H fun vs H1 => ∃ a b xs ys, vs = [.ref a, .ref b] ∧ SqT K H1 a xs ∧ SqL K H1 b ys ∧ R (Itzm K a b xs ys) H1
theorem pi_zipM {X : Cx} {e e2 : Expr} {ta : TA} {p pos tpos : Pos} {elts : List Expr} {kk : Nat} (hg : Gl X "zip") (hm : X.mg "zip" = none) (ha : PA X [e, e2] ta)
    (hs : starEach [e, e2] X.env = (false, eval e X.env) :: starEach [e2] X.env := by rfl) (hpl : (backTo pos (starEach [e2] X.env)).any (·.1) = false := by rfl) :
    PI X (.Tuple elts kk tpos) (.Call (.Name "zip" p) [e, e2] [] pos) (iZipM X.K ta) := by
  refine ⟨fun pins s σ H R I h => ?_⟩
  refine Call_ (ld_blt I hg hm PyProof.Rows.boot_zip (PyProof.Rows.callWith_type1 (thn (ha.run pos pins s σ H _ I h) fun us s1 ⟨vs, H1, I1, r1, a, b, xs, ys, ex, hqx, hqy, q⟩ => ?_) hs hpl))
  subst ex
  cases r1 with
  | cons r rr =>
    cases rr with
    | cons r' rr =>
      cases rr
      cases r
      cases r'
      obtain ⟨its, rv, tp, _⟩ := I1.tuple hqx
      obtain ⟨its2, rv2, p2, _⟩ := I1.list hqy
      have la : a < s1.heap.objs.size := tp.lt
      have lb : b < s1.heap.objs.size := p2.lt
      refine zip_begins2 (begins_tuple a its.toArray) (begins_list b its2.toArray) tp p2.isList fun h' hz hTI hTO h1 h2 hsz hk => wpAny_pyIter_zip hz ?_
      have I2 : Inv X pins σ H1 { s1 with heap := h' } := I1.kept (t' := s1.toks) hk
      refine ⟨s1.heap.objs.size + 4, [s1.heap.objs.size + 4, s1.heap.objs.size + 2, s1.heap.objs.size + 3, s1.heap.objs.size, s1.heap.objs.size + 1], _, _, H1, rfl, I2, turn_zipM ?_, ⟨hz, hTI, ⟨_, _, hTO⟩, ⟨_, h1, rfl, rfl⟩, ⟨_, h2, rfl, rfl⟩, Nat.zero_le _, Nat.zero_le _⟩, fun c hcm => ?_, q⟩
      · have A : ∀ k : Nat, s1.heap.objs.size + k ≠ a := fun k => Nat.ne_of_gt (Nat.lt_of_lt_of_le la (Nat.le_add_right _ _))
        have B : ∀ k : Nat, s1.heap.objs.size + k ≠ b := fun k => Nat.ne_of_gt (Nat.lt_of_lt_of_le lb (Nat.le_add_right _ _))
        have C : ∀ j k : Nat, j ≠ k → s1.heap.objs.size + j ≠ s1.heap.objs.size + k := fun j k hjk z => hjk (Nat.add_left_cancel z)
        have N2 : ∀ {x y c : Nat}, c ≠ x → c ≠ y → c ∉ [x, y] := fun h1 h2 hm => by
          rcases List.mem_cons.mp hm with q | q
          · exact h1 q
          · exact h2 (List.mem_singleton.mp q)
        exact ⟨C 2 4 (by decide), C 3 4 (by decide), C 2 3 (by decide), C 2 0 (by decide), List.mem_cons_self, N2 (C 4 0 (by decide)) (A 4), N2 (C 3 0 (by decide)) (A 3), C 2 1 (by decide), List.mem_cons_self, N2 (C 4 1 (by decide)) (B 4), N2 (C 3 1 (by decide)) (B 3), N2 (C 0 1 (by decide)) (B 0), N2 (C 1 0 (by decide)) (A 1)⟩
      · have hle : s1.heap.objs.size ≤ c := by
          rcases (by simpa using hcm : c = s1.heap.objs.size + 4 ∨ c = s1.heap.objs.size + 2 ∨ c = s1.heap.objs.size + 3 ∨ c = s1.heap.objs.size ∨ c = s1.heap.objs.size + 1) with z | z | z | z | z <;> rw [z] <;> first | exact Nat.le_refl _ | exact Nat.le_add_right _ _
        exact I1.fpOk hle (I1.hok.fresh hle)
end L2

/-! walks over a list or a tuple, whichever it is; dict comprehensions over any walk -/
namespace L2
open PySem PySem.Spec PyProof.Rows
/-- what stands at a goes on standing -/
def Kp (K : PySem.W.Frag) (a : Addr) (H H' : Hp) : Prop := (∀ xs, SqL K H a xs → SqL K H' a xs) ∧ ∀ xs, SqT K H a xs → SqT K H' a xs
theorem Kp.at {K : PySem.W.Frag} {a : Addr} {H H' : Hp} (h : ∀ o, H a = some o → H' a = some o) : Kp K a H H' := by
  refine ⟨fun xs q => ?_, fun xs q => ?_⟩
  · rcases q with (q | ⟨o, q⟩) | q
    · exact .inl (.inl (h _ q))
    · exact .inl (.inr ⟨o, h _ q⟩)
    · exact .inr q
  · rcases q with (q | ⟨o, q⟩) | q
    · exact .inl (.inl (h _ q))
    · exact .inl (.inr ⟨o, h _ q⟩)
    · exact .inr q
theorem Kp.trans {K : PySem.W.Frag} {a : Addr} {H H1 H2 : Hp} (x : Kp K a H H1) (y : Kp K a H1 H2) : Kp K a H H2 := ⟨fun xs q => y.1 xs (x.1 xs q), fun xs q => y.2 xs (x.2 xs q)⟩
theorem Kp.sq {K : PySem.W.Frag} {a : Addr} {H H' : Hp} {xs : List V} (k : Kp K a H H') (h : SqL K H a xs ∨ SqT K H a xs) : SqL K H' a xs ∨ SqT K H' a xs := h.imp (k.1 xs) (k.2 xs)
theorem or_walk {K : PySem.W.Frag} {tl : TE} {σ : St} {H : Hp} {R : It → Hp → Prop} {a : Addr} {xs : List V} (ht : ∀ R' : VK, R' (.ref a) H → tl σ H R') (hS : SqL K H a xs ∨ SqT K H a xs)
    (h : ∀ (J : It) (G : Hp → Prop), Walk J xs.length G (YAt xs) → (∀ H', Kp K a H H' → G H') → R J H) : iList K tl σ H R ∨ iTup K tl σ H R := by
  rcases hS with hS | hS
  · exact .inl (ht _ ⟨a, rfl, ⟨xs, hS⟩, h _ _ walk_list fun H' k => k.1 xs hS⟩)
  · exact .inr (ht _ ⟨a, rfl, ⟨xs, hS⟩, h _ _ walk_tup fun H' k => k.2 xs hS⟩)
/-- a dict comprehension over a walk -/
theorem dc_it {J : It} {n : Nat} {G : Hp → Prop} {Y : Nat → Hp → V → Hp → Prop} (w : Walk J n G Y) {g : TG} {tt : TT} {tk tv : TE} {vs : List Nat} {σ : St} {H1 : Hp} {D : Addr} {Qd : Hp → Prop} (Pv : Nat → Hp → Prop) (h0 : Pv 0 (upd H1 D (.dK []))) (hG : ∀ i H, i ≤ n → Pv i H → G H)
    (hs : ∀ i x H H', i < n → Pv i H → Y i H x H' → g x (wipe σ vs) H' fun σ2 H2 => wipe σ2 vs = wipe σ vs ∧ tt σ2 H2 fun b H3 =>
      if b = true then tk σ2 H3 fun y H4 => tv σ2 H4 fun z H5 => ∃ kvs k, y = kV k ∧ H5 D = some (.dK kvs) ∧ kvs.length < sizeLine ∧ Pv (i + 1) (upd H5 D (.dK (putK kvs k z))) else Pv (i + 1) H3) (hd : ∀ H, Pv n H → Qd H) :
    ∃ W : Nat → Nat → Hp → Prop, (∃ m, W 0 m (upd H1 D (.dK []))) ∧ ∀ i m H, W i m H →
      (J.stop i H ∧ Qd H) ∨ (J.go i H ∧ ∃ Nx : Hp → Prop, (∀ H', Nx H' → ∃ m', m' < m ∧ W (i + 1) m' H') ∧ ∀ x H', J.yld i H x H' → g x (wipe σ vs) H' fun σ2 H2 => wipe σ2 vs = wipe σ vs ∧ tt σ2 H2 fun b H3 =>
        if b = true then tk σ2 H3 fun y H4 => tv σ2 H4 fun z H5 => ∃ kvs k, y = kV k ∧ H5 D = some (.dK kvs) ∧ kvs.length < sizeLine ∧ Nx (upd H5 D (.dK (putK kvs k z))) else Nx H3) := by
  refine ⟨fun i m H => m = n - i ∧ i ≤ n ∧ Pv i H, ⟨n, by simp, Nat.zero_le _, h0⟩, ?_⟩
  rintro i m H ⟨em, hi, p⟩
  subst em
  by_cases lt : i < n
  · exact .inr ⟨w.goes i H lt (hG i H hi p), Pv (i + 1), fun H' p' => ⟨n - (i + 1), by omega, rfl, lt, p'⟩, fun x H' y => hs i x H H' lt p (w.yields i H x H' lt (hG i H hi p) y)⟩
  · have e : i = n := by omega
    subst e
    exact .inl ⟨w.stops H (hG i H hi p), hd H p⟩
/-- the numbered keys of a locked dict -/
theorem walk_enumD {d : Addr} {o : Obj} {kvs : List (Key × V)} : Walk (Ited d o kvs) kvs.length (fun H => H d = some (.frz o (.dK kvs))) (YPair (fun i => some (.int (i : Nat))) (fun i => kvs[i]?.map fun kv => kV kv.1)) :=
  ⟨fun _ _ hi q => ⟨q, hi⟩, fun _ q => ⟨q, Nat.le_refl _⟩, fun i _ x _ hi q y => by
    obtain ⟨T, k, v, hk, ex, hT, hH⟩ := y
    exact ⟨T, _, _, ex, hT, hH, rfl, by show Option.map _ kvs[i]? = _; rw [hk]; rfl⟩⟩
end L2

/-! o.m(..), m a method that lets own errors out: they go on to the caller's end, at its slots. -/
namespace L2
open PySem PySem.Spec PyProof.Rows
def tMethX (C : Addr) (m : Str) (sp : Sp) (E : St → XK) (ta : TE) (t : TA) : TE := fun σ H Q => ta σ H fun x H1 => ∃ a dx fs, x = .ref a ∧ H1 a = some (.ins C dx fs) ∧ fs.lookup m = none ∧ t σ H1 fun vs H2 => sp (x :: vs) H2 Q (E σ)
section
variable {X : Cx} {CX : CXT} {k : Nat} {f C : Addr} {fd : FuncData} {ps : List Str} {sp : Sp} {E : St → XK} {m : Str} {pos apos : Pos} {e o : Expr} {es : List Expr} {ta : TE} {t : TA}
theorem pe_methX {pl : Sem Bool} (ho : PE X o ta) (cl : Cls X.K C) (hm : Meth X.K C m f) (F : FnOk X.prog X.w X.K X.mg X.base CX k f fd ps sp) (hr : Room k X.A) (hb : Binds X.K fd ps []) (hx : ∀ σ, PassesAt CX X σ (E σ)) (ha : PA X (e :: es) t)
    (s1 : starEach (e :: es) X.env = (false, eval e X.env) :: starEach es X.env := by rfl) (s2 : (backTo pos (starEach es X.env)).any (·.1) = false := by rfl)
    (line : eval (.Call (.Attribute o m apos) (e :: es) [] pos) X.env = (eval o X.env >>= fun ov => standAt apos.atName >>= fun _ => holding [ov] (getMethod ov m pl) >>= fun fm =>
      callWith pos fm.1 fm.2 (backTo pos (starEach (e :: es) X.env)) (backToKw pos (keywordEach [] X.env))) := by rfl) :
    PE X (.Call (.Attribute o m apos) (e :: es) [] pos) (tMethX C m sp E ta t) := by
  constructor
  intro pins s σ H Q I h
  refine PySem.W.methodCall_KW (pl := pl) (thn (ho.run pins s σ H _ I h) fun u st hh => ?_) line
  obtain ⟨x, H1, I1, rx, a, dx, fs, rfl, ha1, nl, q⟩ := hh
  obtain rfl : u = Value.ref a := rx
  refine getmeth_ok I1 ha1 cl hm nl (PySem.W.callWith_K (first := [.ref a]) (h₀ := X.base) I.ok.mod.kin hm.kp (thn (ha.run pos pins st σ H1 _ I1 q) fun us st2 h2 => ?_) s1 s2)
  obtain ⟨vs, H2, I2, r, q2⟩ := h2
  exact ⟨I2.kIn, run_fnS (us := .ref a :: us) (vs := .ref a :: vs) F hr hb (hx σ) I2 (.cons rfl r) q2⟩
end
end L2

/-! x in a list of texts, x of any kind. -/
namespace PySem.SeqAt
open AutoSeq1 (wpAny_loadPart')
open MeetsSeq
theorem sub_dict_str : isSubtype (.type "dict") (.type "str") = pure false := by
  rw [isSubtype_type]
  kernel_rfl
abbrev dO (es : Array DictEntry) (ep : Nat) (dd : Option Addr) (sl : Array (Option Value)) : Obj := { cls := .type "dict", dict := dd, data := .dict es ep, slots := sl }
theorem sub_str_dict : isSubtype (.type "str") (.type "dict") = pure false := by
  rw [isSubtype_type]
  kernel_rfl
theorem str_no_dict (b : Str) (u : Tok) (l : Addr) (es : Array DictEntry) (ep : Nat) (dd : Option Addr) (sl : Array (Option Value)) :
    Meets (Builtin.«str.__eq__» ⟨[.str b u, .ref l], []⟩) (fun _ R s => s.heap.get? l = some (dO es ep dd sl) ∧ R (.ok (.ret .notImplemented)) s) :=
  .of_wp fun prog w A R s h => by
    obtain ⟨hp, g, d, tk, os⟩ := s
    obtain ⟨ho, h⟩ := h
    have f2 := sub_dict_str
    wp_walk using wpAny_loadPart' ho, wpAny_load ho
    exact ⟨_, rfl, h⟩
theorem dict_no_str (b : Str) (u : Tok) (l : Addr) (es : Array DictEntry) (ep : Nat) (dd : Option Addr) (sl : Array (Option Value)) :
    Meets (Builtin.«dict.__eq__» ⟨[.ref l, .str b u], []⟩) (fun _ R s => s.heap.get? l = some (dO es ep dd sl) ∧ R (.ok (.ret .notImplemented)) s) :=
  .of_wp fun prog w A R s h => by
    obtain ⟨hp, g, d, tk, os⟩ := s
    obtain ⟨ho, h⟩ := h
    have f1 := sub_str_dict
    wp_walk using wpAny_loadPart' ho
    exact ⟨_, rfl, h⟩
section
variable {A : Around} {s : Shared}
theorem eq_str_dict {l : Addr} {es : Array DictEntry} {ep : Nat} {dd : Option Addr} {sl : Array (Option Value)} (b : Str) (u : Tok) (ho : s.heap.get? l = some (dO es ep dd sl)) (hu : A.units < cLine) : EqAt A s (.str b u) (.ref l) false := fun prog w E Q h => by
  unfold eqBool
  refine wpAny_holding (wpAny_ite_split (fun hab => absurd (eq_of_beq hab) nofun) (fun _ => wpAny_bind ?_))
  refine rc_eq_decline_or (k := false) (typeIs_str s b u) ⟨_, ho, rfl⟩ (by decide) sub_dict_str F.slot_str_eq F.slot_dict_eq_refl (fun _ hq => ?_) (fun _ hq => ?_) (fun _ hq => wpAny_of_eq (rfl : isSame (.str b u) (.ref l) = pure false) hq) (.inr hu) (wpAny_truthy_bool h)
  · exact call_meets F.slot_str_eq (typeIs_str s b u) F.entry_str_eq (F.args_str_eq_2 _ _) (str_no_dict b u l es ep dd sl) ⟨ho, hq⟩
  · exact call_meets F.slot_dict_eq_refl ⟨_, ho, rfl⟩ F.entry_dict_eq (F.args_dict_eq_2 _ _) (dict_no_str b u l es ep dd sl) ⟨ho, hq⟩
end
end PySem.SeqAt
namespace L2
open PySem PySem.Spec PyProof.Rows
/-- a text, a flat value, a list, a tuple, a dict -/
def AnyK (K : PySem.W.Frag) (H : Hp) : V → Prop
  | .ref a => (∃ xs, SqL K H a xs) ∨ (∃ xs, SqT K H a xs) ∨ ∃ kvs, H a = some (.dK kvs)
  | v => flatV v = true
theorem inV_ref (a : Addr) (l : List Str) : inV (.ref a) (l.map V.str) = false := by
  unfold inV
  rw [List.any_map, List.any_eq_false]
  intro x _
  show ¬ (false = true)
  exact Bool.false_ne_true
section
variable {X : Cx} {pins : List (Addr × Obj)} {σ : St} {H : Hp} {s : Shared}
theorem ref_eqAt {A : Around} (hu : A.units < cLine) {a : Addr} (I : Inv X pins σ H s) (k : AnyK X.K H (.ref a)) : ∀ {l : List Str} {us : List Value}, Vals (l.map V.str) us → ∀ u ∈ us, SeqAt.EqAt A s u (.ref a) (eqU (.ref a) u) := by
  intro l us r u hm
  obtain ⟨x, t, rfl⟩ : ∃ x t, u = Value.str x t := by
    clear k
    induction l generalizing us with
    | nil => cases r; cases hm
    | cons y l ih =>
      cases r with
      | cons r1 r2 =>
        rcases List.mem_cons.mp hm with rfl | hm
        · obtain ⟨t, rfl⟩ := r1; exact ⟨y, t, rfl⟩
        · exact ih r2 hm
  rcases k with ⟨xs, h⟩ | ⟨xs, h⟩ | ⟨kvs, h⟩
  · obtain ⟨its, _, pl, _⟩ := I.list h
    exact SeqAt.EqAt.str_list x t pl.isList hu
  · obtain ⟨its, _, pl, _⟩ := I.tuple h
    exact SeqAt.EqAt.str_tuple x t pl hu
  · obtain ⟨_, _, vs, _, o, es, ep, h1, h2, h3⟩ := (show ObjOk X.prog X.w H s.heap a (.dK kvs) from I.hok a _ h)
    obtain ⟨oc, od, dt, osl⟩ := o
    obtain ⟨c1, c2, c3⟩ := h2
    simp only at c1 c2 c3
    subst c1 c2 c3
    exact SeqAt.eq_str_dict (es := es) (ep := ep) (dd := none) (sl := #[]) x t (by rw [h1, show dt = Data.dict es ep from h3.1]) hu
end
/-- x in xs, xs a list or a tuple of texts -/
def rInA (K : PySem.W.Frag) (neg : Bool) : R2 := fun x y H Q => ∃ (p : Addr) (l : List Str), y = .ref p ∧ (SqL K H p (l.map V.str) ∨ SqT K H p (l.map V.str)) ∧ AnyK K H x ∧ Q (.bl (if neg then !inV x (l.map V.str) else inV x (l.map V.str))) H
theorem flat_strs (l : List Str) : (l.map V.str).all flatV = true := by
  rw [List.all_map, List.all_eq_true]
  intro x _; rfl
section
variable {X : Cx}
theorem any_ref {a : Addr} : ∀ {l : List Str} {us : List Value}, Vals (l.map V.str) us → us.any (eqU (.ref a)) = inV (.ref a) (l.map V.str) := fun {l us} r => any_eqU r (flat_strs l)
theorem op_inA (hu : X.A.units + 1 < cLine) : OpR X (compareOp .In) (rInA X.K false) := by
  intro pins s σ H x y v u Q I rx ry h
  obtain ⟨p, l, rfl, hq, k, q⟩ := h
  by_cases f : flatV x = true
  · exact op_in_seq pins s σ H x _ v u Q I rx ry ⟨p, _, rfl, hq, f, flat_strs l, q⟩
  · obtain ⟨a, rfl⟩ : ∃ a, x = .ref a := by
      cases x with
      | ref a => exact ⟨a, rfl⟩
      | _ => exact absurd k f
    cases rx
    cases ry
    rcases hq with hq | hq
    · obtain ⟨its, r, pl, hz⟩ := I.list hq
      refine SeqAt.in_listAt (eqU (.ref a)) pl.isList (fun w hw => ref_eqAt (A := X.A.in1) hu I k r w (by simpa using hw)) ⟨.bl _, H, I, rfl, ?_⟩
      rw [show its.toArray.any (eqU (.ref a)) = its.any (eqU (.ref a)) by simp, any_ref r]
      exact q
    · obtain ⟨its, r, pl, hz⟩ := I.tuple hq
      refine SeqAt.in_tupleAt (eqU (.ref a)) pl (fun w hw => ref_eqAt (A := X.A.in1) hu I k r w (by simpa using hw)) ⟨.bl _, H, I, rfl, ?_⟩
      rw [show its.toArray.any (eqU (.ref a)) = its.any (eqU (.ref a)) by simp, any_ref r]
      exact q
theorem op_notInA (hu : X.A.units + 1 < cLine) : OpR X (compareOp .NotIn) (rInA X.K true) := by
  intro pins s σ H x y v u Q I rx ry h
  obtain ⟨p, l, rfl, hq, k, q⟩ := h
  by_cases f : flatV x = true
  · exact op_notIn_seq pins s σ H x _ v u Q I rx ry ⟨p, _, rfl, hq, f, flat_strs l, q⟩
  · obtain ⟨a, rfl⟩ : ∃ a, x = .ref a := by
      cases x with
      | ref a => exact ⟨a, rfl⟩
      | _ => exact absurd k f
    cases rx
    cases ry
    rcases hq with hq | hq
    · obtain ⟨its, r, pl, hz⟩ := I.list hq
      refine SeqAt.notIn_listAt (eqU (.ref a)) pl.isList (fun w hw => ref_eqAt (A := X.A.in1) hu I k r w (by simpa using hw)) ⟨.bl _, H, I, rfl, ?_⟩
      rw [show its.toArray.any (eqU (.ref a)) = its.any (eqU (.ref a)) by simp, any_ref r]
      exact q
    · obtain ⟨its, r, pl, hz⟩ := I.tuple hq
      refine SeqAt.notIn_tupleAt (eqU (.ref a)) pl (fun w hw => ref_eqAt (A := X.A.in1) hu I k r w (by simpa using hw)) ⟨.bl _, H, I, rfl, ?_⟩
      rw [show its.toArray.any (eqU (.ref a)) = its.any (eqU (.ref a)) by simp, any_ref r]
      exact q
end
end L2

/-! list(d.values()) -/
namespace L2
open PySem PySem.Spec PyProof.Rows
def tListVals (te : TE) : TE := fun σ H Q => te σ H fun x H1 => ∃ d kvs, x = .ref d ∧ H1 d = some (.dK kvs) ∧ ∀ q, H1 q = none → Q (.ref q) (upd H1 q (.lst (kvs.map (·.2))))
theorem pe_listVals {X : Cx} {e : Expr} {te : TE} {p apos cpos pos : Pos} (hc : X.calm = true) (he : PE X e te) (hg : Gl X "list") (hm : X.mg "list" = none) (hv : bootBuiltins "list" = some (.type "list"))
    (base : attributeBase e "values" X.env (eval e X.env) = eval e X.env := by rfl) (line : (apos.endLine == cpos.line) = true := by rfl)
    (st : starEach [.Call (.Attribute e "values" apos) [] [] cpos] X.env = (false, eval (.Call (.Attribute e "values" apos) [] [] cpos) X.env) :: starEach [] X.env := by rfl) :
    PE X (.Call (.Name "list" p) [.Call (.Attribute e "values" apos) [] [] cpos] [] pos) (tListVals te) := by
  constructor
  intro pins s σ H Q I h
  refine wpAny_Call_Name_kw (ld_blt I hg hm hv (PyProof.Rows.callWith_type1 ?_ st rfl))
  rw [st]
  show wpAny _ _ (spliced ((false, eval (.Call (.Attribute e "values" apos) [] [] cpos) X.env) :: backTo pos (starEach [] X.env))) _ _ s
  refine Calls.spliced_cons (wpAny_Call_method (T := "dict") (id := "dict.values") base rfl line F.plainAttrs_dict F.slot_dict_values F.type_dict_values (thn (he.run pins s σ H _ I h) fun u s1 hh => ?_))
  obtain ⟨x, H1, I1, rx, d, kvs, rfl, hd, q⟩ := hh
  obtain rfl : u = Value.ref d := rx
  obtain ⟨hz, sys, vs, kv, hdo⟩ := I1.hok d _ hd
  obtain ⟨ep, hat⟩ := hdo.dictAt
  have lk : kvs.length = vs.length := Paired.length kv
  have I2 : Inv X pins σ H1 { s1 with heap := s1.heap.push { cls := .type "dict_values", data := .fields #[.ref d] } } := I1.kept (t' := s1.toks) fun b ob z => Heap.get?_push_of_some _ z
  refine ⟨hdo.typeIs, hdo.mapOf.noDict, ?_⟩
  show wpAny _ _ (callWith cpos (.builtin "dict.values") [.ref d] [] []) _ X.xe s1
  refine method_meetsIn F.slot_dict_values F.entry_dict_values rfl (PySem.evalArgs_none ⟨rfl, hdo.typeIs, F.args_dict_values_1 _, _, meets_dict_values (mixKind X.prog X.w) d sys, ⟨vs, hdo⟩, Calls.spliced_nil ?_⟩)
  refine PySem.W.kdl_call (PySem.W.kdl_values (knd := mixKind X.prog X.w) (kvs := vs) (ep := ep)) (I1.ok.hd hc) ⟨⟨_, Heap.get?_push_size _ rfl, rfl, rfl⟩, hat.push _⟩ (by rw [← lk]; exact hz) fun h' tk acc c keep hS hacc => ?_
  refine ⟨.ref _, _, I2.laid (t' := tk) (o := .lst (kvs.map (·.2))) keep (Nat.le_refl _) ⟨by rw [List.length_map]; exact hz, acc.toList, c, ?_, by rw [Array.toArray_toList]; exact hS⟩, rfl, q _ (I2.hok.fresh (Nat.le_refl _))⟩
  refine vals_of_at (by rw [List.length_map, lk]; have := hacc.1; simp [this]) fun j v w h1 h2 => ?_
  obtain ⟨k, hk⟩ := hacc.2 j w (by rw [← Array.getElem?_toList]; exact h2)
  rw [List.getElem?_map] at h1
  cases e2 : kvs[j]? with
  | none => rw [e2] at h1; cases h1
  | some pr =>
    rw [e2] at h1
    obtain ⟨y, g1, g2, g3⟩ := LiI.paired_get kv e2
    rw [hk] at g1
    cases g1
    cases (Option.some.inj h1)
    exact g3
end L2

/-! d.update(e) of two dicts -/
namespace L2
open PySem PySem.Spec PyProof.Rows
section
variable {X : Cx}
def rUpdK : V → List V → Hp → VK → Prop := fun x xs H Q => ∃ (a b : Addr) (kvs more : List (Key × V)), x = .ref a ∧ xs = [.ref b] ∧ H a = some (.dK kvs) ∧ H b = some (.dK more) ∧ a ≠ b ∧ kvs.length + more.length ≤ sizeLine ∧ Q .non (upd H a (.dK (mergeK kvs more)))
theorem mt_update : MtR X "dict.update" rUpdK := by
  intro pins s σ H x xs v us Q I rx rv h
  obtain ⟨a, b, kvs, more, rfl, rfl, ha, hb, ne, ln, q⟩ := h
  cases rx
  obtain ⟨u, rfl, ru⟩ := rv.one
  cases ru
  obtain ⟨z, hd, vs, rel, dd⟩ := dk_of I.hok ha
  obtain ⟨z2, hd2, vs2, rel2, dd2⟩ := dk_of I.hok hb
  refine call_meetsIn PySem.F.slot_dict_update dd.typeIs PySem.F.entry_dict_update (PySem.F.args_dict_update_2 _ _) (meets_dict_update (mixKind X.prog X.w) a b ne hd2)
    ⟨vs, vs2, dd, dd2, by rw [← rel.length, ← rel2.length]; exact ln, fun h' dd' _ hs => ?_⟩
  have he : ∃ q, h'.get? a = some q := let ⟨q, _, _, hq, _⟩ := dd'; ⟨q, hq⟩
  exact ⟨.non, _, d_write I (by rw [ha]; exact True.intro) hs he (dk_new (Nat.le_trans (length_mergeK more kvs) ln) hd (rel2.merge rel) dd'), rfl, q⟩
end
end L2

/-! len(set(a list of ints)) -/
namespace L2
open PySem PySem.Spec PyProof.Rows
theorem met_one {ns : List Int} (h : (PyProof.Rows.firstMet (fun i => ns.getD i 0) ns.length).length = 1) : ∀ i ∈ ns, ∀ j ∈ ns, i = j := by
  obtain ⟨x, ex⟩ := List.length_eq_one_iff.mp h
  have key : ∀ k ∈ ns, k = x := fun k hk => by
    obtain ⟨m, hm⟩ := List.mem_iff_getElem?.mp hk
    obtain ⟨lm, em⟩ := List.getElem?_eq_some_iff.mp hm
    have a := PyProof.Rows.firstMet_any (fun i => ns.getD i 0) ns.length k
    rw [ex] at a
    have b : ((List.range ns.length).map fun i => ns.getD i 0).any (· == k) = true := by
      rw [List.any_eq_true]
      refine ⟨k, List.mem_map.mpr ⟨m, List.mem_range.mpr lm, ?_⟩, by simp⟩
      show ns.getD m 0 = k
      rw [List.getD_eq_getElem?_getD, hm]; rfl
    rw [b] at a
    have : (x == k) = true := by simpa using a
    exact (eq_of_beq this).symm
  exact fun i hi j hj => (key i hi).trans (key j hj).symm
def tLenSet (K : PySem.W.Frag) (ta : TA) : TE := fun σ H Q => ta σ H fun vs H1 => ∃ (a : Addr) (ns : List Int), vs = [.ref a] ∧ SqL K H1 a (ns.map V.int) ∧ ns.length < 1000 ∧ ∀ n : Nat, (n = 1 → ∀ i ∈ ns, ∀ j ∈ ns, i = j) → Q (.int (n : Nat)) H1
theorem pe_lenSet {X : Cx} {e : Expr} {ta : TA} {p p2 pos pos2 : Pos} (hcalm : X.calm = true) (hgl : Gl X "len") (hml : X.mg "len" = none) (hvl : bootBuiltins "len" = some (.builtin "len")) (hgs : Gl X "set") (hms : X.mg "set" = none) (hvs : bootBuiltins "set" = some (.type "set")) (ha : PA X [e] ta)
    (hs : starEach [e] X.env = (false, eval e X.env) :: starEach [] X.env := by rfl)
    (st : starEach [.Call (.Name "set" p2) [e] [] pos2] X.env = (false, eval (.Call (.Name "set" p2) [e] [] pos2) X.env) :: starEach [] X.env := by rfl) :
    PE X (.Call (.Name "len" p) [.Call (.Name "set" p2) [e] [] pos2] [] pos) (tLenSet X.K ta) := by
  constructor
  intro pins s σ H Q I h
  refine wpAny_Call_Name_kw (ld_blt I hgl hml hvl (PyProof.Rows.callWith_builtin1 ?_ st rfl))
  rw [st]
  show wpAny _ _ (spliced ((false, eval (.Call (.Name "set" p2) [e] [] pos2) X.env) :: backTo pos (starEach [] X.env))) _ _ s
  refine Calls.spliced_cons (wpAny_Call_Name_kw (ld_blt I hgs hms hvs (PyProof.Rows.callWith_type1 (thn (ha.run pos2 pins s σ H _ I h) fun us s1 ⟨vs, H1, I1, r1, q1⟩ => ?_) hs rfl)))
  obtain ⟨a, ns, ex, hq, hl, q⟩ := q1
  subst ex
  obtain ⟨u, eu, rx⟩ := vals1 r1
  subst eu
  cases rx
  obtain ⟨its, rv, pl, hz⟩ := I1.list hq
  have i1 : PyProof.Rows.IntsAre its.toArray.toList ns := intsAre_of rv
  have n1 := rv.length
  rw [List.length_map] at n1
  have esz : its.toArray.size = ns.length := by simp [n1]
  refine PySem.call_set_list (I1.ok.hd hcalm) pl.isList i1 (by rw [esz]; exact Nat.lt_trans (Nat.succ_lt_succ hl) (by decide)) fun h' tk hset hk => Calls.spliced_nil ?_
  rw [esz] at hset
  obtain ⟨o, es, ep, t, ho, hex, hd, _, _, hsb, hf, hn⟩ := hset
  have hfl := PyProof.Rows.firstMet_length_le (fun i => ns.getD i 0) ns.length
  refine call_len_set ho hex hd hf (by rw [hn]; omega) ?_
  rw [hn]
  exact ⟨.int _, H1, I1.kept (t' := tk + 1 + 1) fun b u z => hk b u (Heap.lt_size z) z, ⟨_, rfl⟩, q _ fun e => met_one e⟩
end L2

/-! shapes: what data a value stands for, apart from the places that are being changed -/
namespace L2
open PySem PySem.Spec PyProof.Rows
/-- what is reached stands at places of W -/
structure Sh (α : Type) where
  r : (Addr → Prop) → Hp → V → α → Prop
  mv : ∀ {W W' : Addr → Prop} {H H' : Hp} {v : V} {x : α}, r W H v x → (∀ a o, W a → H a = some o → H' a = some o ∧ W' a) → r W' H' v x
/-- apart from the places of M -/
abbrev Sh.at {α : Type} (s : Sh α) (M : List Addr) (H : Hp) (v : V) (x : α) : Prop := s.r (fun a => a ∉ M) H v x
/-- nothing is lost; what is not of m stays -/
def Stp (m : List Addr) (H H' : Hp) : Prop := ∀ a o, H a = some o → (∃ o', H' a = some o') ∧ (a ∉ m → H' a = some o)
def Alv (M : List Addr) (H : Hp) : Prop := ∀ a ∈ M, ∃ o, H a = some o
/-- each of m is of M or not there -/
def Sb (m M : List Addr) (H : Hp) : Prop := ∀ a ∈ m, a ∈ M ∨ H a = none
section
variable {m m' M M' : List Addr} {H H1 H2 : Hp} {a b p : Addr} {o : HO}
theorem Sb.refl : Sb M M H := fun _ h => .inl h
theorem Sb.nil : Sb [] M H := fun _ h => by cases h
theorem Sb.new (h : H p = none) (s : Sb m M H) : Sb (p :: m) M H := fun a ha => (List.mem_cons.mp ha).elim (fun e => .inr (e ▸ h)) (s a)
theorem Sb.mem (h : p ∈ M) (s : Sb m M H) : Sb (p :: m) M H := fun a ha => (List.mem_cons.mp ha).elim (fun e => .inl (e ▸ h)) (s a)
theorem Sb.one (h : p ∈ M) : Sb [p] M H := Sb.mem h Sb.nil
theorem Sb.more (s : Sb m M H) : Sb m (p :: M) H := fun a ha => (s a ha).imp (List.mem_cons_of_mem _) id
theorem Sb.cons (s : Sb m M H) : Sb (p :: m) (p :: M) H := fun a ha => (List.mem_cons.mp ha).elim (fun e => .inl (by rw [e]; exact List.mem_cons_self)) fun h => (s a h).imp (fun z => List.mem_cons_of_mem _ z) id
theorem Stp.refl : Stp m H H := fun a o h => ⟨⟨o, h⟩, fun _ => h⟩
theorem Stp.trans (x : Stp m H H1) (y : Stp m H1 H2) : Stp m H H2 := fun a o h => by
  obtain ⟨⟨o1, h1⟩, k1⟩ := x a o h
  exact ⟨(y a o1 h1).1, fun n => (y a o (k1 n)).2 n⟩
theorem Stp.wk (x : Stp m H H1) (s : Sb m m' H) : Stp m' H H1 := fun a o h => ⟨(x a o h).1, fun n => (x a o h).2 fun hm => (s a hm).elim n fun e => by rw [h] at e; cases e⟩
theorem Stp.same (x : Stp [] H H1) : Same H H1 := fun a o h => (x a o h).2 (by simp)
theorem Stp.of_same (x : Same H H1) : Stp m H H1 := fun a o h => ⟨⟨o, x a o h⟩, fun _ => x a o h⟩
theorem Stp.new (h : H p = none) : Stp m H (upd H p o) := Stp.of_same fun a u e => by rw [upd_ne (ne_of_none e h)]; exact e
theorem Stp.at (x : Stp m H H1) (h : H a = some o) (n : a ∉ m) : H1 a = some o := (x a o h).2 n
theorem Stp.put (h : p ∈ m) : Stp m H (upd H p o) := fun a u e => by
  by_cases ea : a = p
  · subst ea
    exact ⟨⟨o, upd_same⟩, fun n => absurd h n⟩
  · rw [upd_ne ea]; exact ⟨⟨u, e⟩, fun _ => e⟩
/-- a place that was not there may be written -/
theorem Stp.putN (x : Stp m H H1) (h : H p = none) : Stp m H (upd H1 p o) := fun a u e => by
  have ea : a ≠ p := ne_of_none e h
  rw [upd_ne ea]; exact x a u e
theorem Stp.none (x : Stp m H H1) (h : H1 a = none) : H a = none := by
  cases e : H a with
  | none => rfl
  | some o => obtain ⟨⟨o', h'⟩, _⟩ := x a o e; rw [h] at h'; cases h'
theorem Alv.nil : Alv [] H := fun _ h => by cases h
theorem Alv.cons (h : H p = some o) (s : Alv M H) : Alv (p :: M) H := fun a ha => (List.mem_cons.mp ha).elim (fun e => ⟨o, e ▸ h⟩) (s a)
theorem Alv.go (s : Alv M H) (x : Stp m H H1) : Alv M H1 := fun a ha => by
  obtain ⟨o, h⟩ := s a ha
  exact (x a o h).1
/-- a new place is not of M -/
theorem Alv.off (s : Alv M H) (h : H p = none) : p ∉ M := fun hm => by
  obtain ⟨o, e⟩ := s p hm
  rw [h] at e; cases e
theorem Alv.ne (s : Alv M H) (h : H p = none) (ha : a ∈ M) : a ≠ p := fun e => s.off h (e ▸ ha)
end
section
variable {α β γ : Type} {s : Sh α} {t : Sh β} {u : Sh γ} {m m' M M' : List Addr} {H H1 H2 : Hp} {a b p : Addr} {o : HO} {v w : V} {x : α} {y : β}
/-- carried over -/
theorem Sh.go (h : s.at M H v x) (st : Stp m H H1) (hm : Sb m M H) (hM : Sb M' M H) : s.at M' H1 v x := s.mv h fun a o n e =>
  ⟨(st a o e).2 fun hh => (hm a hh).elim n fun z => (by rw [e] at z; cases z), fun hh => (hM a hh).elim n fun z => (by rw [e] at z; cases z)⟩
theorem Sh.gos {vs : List V} {xs : List α} (h : Paired (s.at M H) vs xs) (st : Stp m H H1) (hm : Sb m M H) (hM : Sb M' M H) : Paired (s.at M' H1) vs xs := Paired.mapP h fun _ _ z => Sh.go z st hm hM
def sInt : Sh Int := ⟨fun _ _ v x => v = .int x, fun h _ => h⟩
def sStr : Sh Str := ⟨fun _ _ v x => v = .str x, fun h _ => h⟩
def sBl : Sh Bool := ⟨fun _ _ v x => v = .bl x, fun h _ => h⟩
/-- any value without an object -/
def sV : Sh V := ⟨fun _ _ v x => v = x ∧ ∀ a, x ≠ .ref a, fun h _ => h⟩
def sL (s : Sh α) : Sh (List α) := ⟨fun W H v xs => ∃ a vs, v = .ref a ∧ W a ∧ H a = some (.lst vs) ∧ Paired (s.r W H) vs xs, fun ⟨a, vs, e, w, h, p⟩ k => ⟨a, vs, e, (k _ _ w h).2, (k _ _ w h).1, Paired.mapP p fun _ _ z => s.mv z k⟩⟩
def sT (s : Sh α) : Sh (List α) := ⟨fun W H v xs => ∃ a vs, v = .ref a ∧ W a ∧ H a = some (.tup vs) ∧ Paired (s.r W H) vs xs, fun ⟨a, vs, e, w, h, p⟩ k => ⟨a, vs, e, (k _ _ w h).2, (k _ _ w h).1, Paired.mapP p fun _ _ z => s.mv z k⟩⟩
/-- a list or a tuple -/
def sQ (s : Sh α) : Sh (List α) := ⟨fun W H v xs => ∃ a vs, v = .ref a ∧ W a ∧ (H a = some (.lst vs) ∨ H a = some (.tup vs)) ∧ Paired (s.r W H) vs xs, fun ⟨a, vs, e, w, h, p⟩ k => ⟨a, vs, e, h.elim (fun h => (k _ _ w h).2) (fun h => (k _ _ w h).2), h.imp (fun h => (k _ _ w h).1) (fun h => (k _ _ w h).1), Paired.mapP p fun _ _ z => s.mv z k⟩⟩
/-- a tuple of two, a list of two, a tuple of three -/
def sP (s : Sh α) (t : Sh β) : Sh (α × β) := ⟨fun W H v x => ∃ a u w, v = .ref a ∧ W a ∧ H a = some (.tup [u, w]) ∧ s.r W H u x.1 ∧ t.r W H w x.2, fun ⟨a, u, z, e, w, h, p, q⟩ k => ⟨a, u, z, e, (k _ _ w h).2, (k _ _ w h).1, s.mv p k, t.mv q k⟩⟩
def sLP (s : Sh α) (t : Sh β) : Sh (α × β) := ⟨fun W H v x => ∃ a u w, v = .ref a ∧ W a ∧ H a = some (.lst [u, w]) ∧ s.r W H u x.1 ∧ t.r W H w x.2, fun ⟨a, u, z, e, w, h, p, q⟩ k => ⟨a, u, z, e, (k _ _ w h).2, (k _ _ w h).1, s.mv p k, t.mv q k⟩⟩
def s3 (s : Sh α) (t : Sh β) (u : Sh γ) : Sh (α × β × γ) := ⟨fun W H v x => ∃ a i j l, v = .ref a ∧ W a ∧ H a = some (.tup [i, j, l]) ∧ s.r W H i x.1 ∧ t.r W H j x.2.1 ∧ u.r W H l x.2.2, fun ⟨a, i, j, l, e, w, h, p, q, z⟩ k => ⟨a, i, j, l, e, (k _ _ w h).2, (k _ _ w h).1, s.mv p k, t.mv q k, u.mv z k⟩⟩
/-- a dict: its pairs in order -/
def sD (s : Sh α) : Sh (List (Key × α)) := ⟨fun W H v xs => ∃ a vs, v = .ref a ∧ W a ∧ H a = some (.dK vs) ∧ Paired (fun (p : Key × V) (q : Key × α) => p.1 = q.1 ∧ s.r W H p.2 q.2) vs xs, fun ⟨a, vs, e, w, h, p⟩ k => ⟨a, vs, e, (k _ _ w h).2, (k _ _ w h).1, Paired.mapP p fun _ _ z => ⟨z.1, s.mv z.2 k⟩⟩⟩
def sO (s : Sh α) : Sh (Option α) := ⟨fun W H v x => (x = none ∧ v = .non) ∨ ∃ y, x = some y ∧ s.r W H v y, fun h k => h.imp id fun ⟨y, e, z⟩ => ⟨y, e, s.mv z k⟩⟩
theorem Sh.sq (h : (sL s).at M H v xs) : (sQ s).at M H v xs := by
  obtain ⟨a, vs, e, w, h, p⟩ := h
  exact ⟨a, vs, e, w, .inl h, p⟩
theorem Sh.tq (h : (sT s).at M H v xs) : (sQ s).at M H v xs := by
  obtain ⟨a, vs, e, w, h, p⟩ := h
  exact ⟨a, vs, e, w, .inr h, p⟩
theorem pds_map (f : α → V) : ∀ {l : List α}, (∀ y ∈ l, s.at M H (f y) y) → Paired (s.at M H) (l.map f) l
  | [], _ => .nil
  | y :: r, h => .cons (h y List.mem_cons_self) (pds_map f fun z hz => h z (List.mem_cons_of_mem _ hz))
theorem pd_ints {ns : List Int} : Paired (sInt.at M H) (ns.map V.int) ns := pds_map _ fun _ _ => rfl
theorem pd_strs {ns : List Str} : Paired (sStr.at M H) (ns.map V.str) ns := pds_map _ fun _ _ => rfl
theorem pd_isInts : ∀ {vs : List V} {ns : List Int}, Paired (sInt.at M H) vs ns → vs = ns.map V.int
  | _, _, .nil => rfl
  | _, _, .cons e t => by rw [pd_isInts t]; cases e; rfl
theorem pd_isStrs : ∀ {vs : List V} {ns : List Str}, Paired (sStr.at M H) vs ns → vs = ns.map V.str
  | _, _, .nil => rfl
  | _, _, .cons e t => by rw [pd_isStrs t]; cases e; rfl
theorem Sh.ints {ns : List Int} (h : (sL sInt).at M H v ns) : ∃ a, v = .ref a ∧ a ∉ M ∧ H a = some (.lst (ns.map V.int)) := by
  obtain ⟨a, vs, e, w, h, p⟩ := h
  exact ⟨a, e, w, by rw [← pd_isInts p]; exact h⟩
theorem Sh.strs {ns : List Str} (h : (sL sStr).at M H v ns) : ∃ a, v = .ref a ∧ a ∉ M ∧ H a = some (.lst (ns.map V.str)) := by
  obtain ⟨a, vs, e, w, h, p⟩ := h
  exact ⟨a, e, w, by rw [← pd_isStrs p]; exact h⟩
theorem Sh.tints {ns : List Int} (h : (sT sInt).at M H v ns) : ∃ a, v = .ref a ∧ a ∉ M ∧ H a = some (.tup (ns.map V.int)) := by
  obtain ⟨a, vs, e, w, h, p⟩ := h
  exact ⟨a, e, w, by rw [← pd_isInts p]; exact h⟩
theorem iteN {c A B : Prop} [Decidable c] (h : ¬ c) (x : B) : if c then A else B := by
  rw [if_neg h]; exact x
/-! ### parts of lists -/
theorem psnoc {F : α → β → Prop} : ∀ {l₁ : List α} {l₂ : List β} {x : α} {y : β}, Paired F l₁ l₂ → F x y → Paired F (l₁ ++ [x]) (l₂ ++ [y])
  | _, _, _, _, .nil, h => .cons h .nil
  | _, _, _, _, .cons r t, h => .cons r (psnoc t h)
theorem papp {F : α → β → Prop} : ∀ {a b : List α} {c d : List β}, Paired F a c → Paired F b d → Paired F (a ++ b) (c ++ d)
  | _, _, _, _, .nil, h => h
  | _, _, _, _, .cons r t, h => .cons r (papp t h)
theorem ptake {F : α → β → Prop} : ∀ {n : Nat} {l₁ : List α} {l₂ : List β}, Paired F l₁ l₂ → Paired F (l₁.take n) (l₂.take n)
  | 0, _, _, _ => by simpa using .nil
  | _ + 1, _, _, .nil => .nil
  | n + 1, _, _, .cons r t => .cons r (ptake (n := n) t)
theorem pdrop {F : α → β → Prop} : ∀ {n : Nat} {l₁ : List α} {l₂ : List β}, Paired F l₁ l₂ → Paired F (l₁.drop n) (l₂.drop n)
  | 0, _, _, h => h
  | _ + 1, _, _, .nil => .nil
  | n + 1, _, _, .cons _ t => pdrop (n := n) t
theorem prev {F : α → β → Prop} : ∀ {l₁ : List α} {l₂ : List β}, Paired F l₁ l₂ → Paired F l₁.reverse l₂.reverse
  | _, _, .nil => .nil
  | _, _, .cons r t => by rw [List.reverse_cons, List.reverse_cons]; exact psnoc (prev t) r
theorem pset {F : α → β → Prop} : ∀ {i : Nat} {l₁ : List α} {l₂ : List β} {x : α} {y : β}, Paired F l₁ l₂ → F x y → Paired F (l₁.set i x) (l₂.set i y)
  | _, _, _, _, _, .nil, _ => .nil
  | 0, _, _, _, _, .cons _ t, h => .cons h t
  | i + 1, _, _, _, _, .cons r t, h => .cons r (pset (i := i) t h)
theorem pget {F : α → β → Prop} : ∀ {l₁ : List α} {l₂ : List β} {i : Nat} {y : β}, Paired F l₁ l₂ → l₂[i]? = some y → ∃ x, l₁[i]? = some x ∧ F x y
  | _, _, _, _, .nil, e => by simp at e
  | _, _, 0, _, .cons r _, e => by simp at e; subst e; exact ⟨_, rfl, r⟩
  | _, _, i + 1, y, .cons _ t, e => by
    obtain ⟨x, h1, h2⟩ := pget (i := i) (y := y) t (by simpa using e)
    exact ⟨x, by simpa using h1, h2⟩
theorem pget' {F : α → β → Prop} : ∀ {l₁ : List α} {l₂ : List β} {i : Nat} {x : α}, Paired F l₁ l₂ → l₁[i]? = some x → ∃ y, l₂[i]? = some y ∧ F x y
  | _, _, _, _, .nil, e => by simp at e
  | _, _, 0, _, .cons r _, e => by simp at e; subst e; exact ⟨_, rfl, r⟩
  | _, _, i + 1, y, .cons _ t, e => by
    obtain ⟨x, h1, h2⟩ := pget' (i := i) (x := y) t (by simpa using e)
    exact ⟨x, by simpa using h1, h2⟩
theorem plen {F : α → β → Prop} : ∀ {l₁ : List α} {l₂ : List β}, Paired F l₁ l₂ → l₁.length = l₂.length
  | _, _, .nil => rfl
  | _, _, .cons _ t => congrArg (· + 1) (plen t)
/-! ### the list that a comprehension makes -/
/-- at D, while what is of m is being changed: ys so far -/
structure Acc (t : Sh β) (D : Addr) (M m : List Addr) (H1 : Hp) (H : Hp) (ys : List β) : Prop where
  al : Alv M H1
  nD : H1 D = none
  sub : ∀ a ∈ m, a ∈ M
  st : Stp m H1 H
  ac : ∃ vs, H D = some (.lst vs) ∧ Paired (t.at (D :: M) H) vs ys
variable {ys : List β} {D : Addr}
theorem Acc.start (al : Alv M H1) (nD : H1 D = none) (sub : ∀ a ∈ m, a ∈ M) : Acc t D M m H1 (upd H1 D (.lst [])) [] := ⟨al, nD, sub, Stp.refl.putN nD, [], upd_same, .nil⟩
theorem Acc.nM (h : Acc t D M m H1 H ys) : D ∉ M := h.al.off h.nD
theorem Acc.nm (h : Acc t D M m H1 H ys) : D ∉ m := fun e => h.nM (h.sub D e)
theorem Acc.alv (h : Acc t D M m H1 H ys) : Alv (D :: M) H := by
  obtain ⟨vs, e, _⟩ := h.ac
  exact Alv.cons e (h.al.go h.st)
theorem Acc.go (h : Acc t D M m H1 H ys) (st : Stp m H H2) : Acc t D M m H1 H2 ys := by
  obtain ⟨vs, e, p⟩ := h.ac
  exact ⟨h.al, h.nD, h.sub, h.st.trans st, vs, st.at e h.nm, Sh.gos p st (fun a ha => .inl (List.mem_cons_of_mem _ (h.sub a ha))) Sb.refl⟩
theorem Acc.wk (h : Acc t D M m H1 H ys) (s : ∀ a ∈ m, a ∈ m') (s' : ∀ a ∈ m', a ∈ M) : Acc t D M m' H1 H ys := ⟨h.al, h.nD, s', h.st.wk fun a ha => .inl (s a ha), h.ac⟩
theorem Acc.put {R : List β → Prop} (h : Acc t D M m H1 H ys) (st : Stp m H H2) (hz : t.at (D :: M) H2 v y) (hl : ys.length < 100000) (hr : R (ys ++ [y])) :
    ∃ acc, H2 D = some (.lst acc) ∧ acc.length < sizeLine ∧ ∃ ys', Acc t D M m H1 (upd H2 D (.lst (acc ++ [v]))) ys' ∧ R ys' := by
  obtain ⟨al, nD, sub, s0, vs, e, p⟩ := h.go st
  refine ⟨vs, e, by rw [plen p]; have := sizeLine_eq; omega, ys ++ [y], ⟨al, nD, sub, s0.putN nD, _, upd_same, ?_⟩, hr⟩
  exact psnoc (Sh.gos p (Stp.put (m := [D]) (by simp)) (fun a ha => .inl (by simp at ha; simp [ha])) Sb.refl) (Sh.go hz (Stp.put (m := [D]) (by simp)) (fun a ha => .inl (by simp at ha; simp [ha])) Sb.refl)
/-- .. and something else goes on holding -/
theorem Acc.putB {R : List β → Prop} (B : Hp → Prop) (h : Acc t D M m H1 H ys) (st : Stp m H H2) (hz : t.at (D :: M) H2 v y) (hl : ys.length < 100000) (hr : R (ys ++ [y])) (hB : ∀ H', (∀ a o, a ≠ D → H2 a = some o → H' a = some o) → B H') :
    ∃ acc, H2 D = some (.lst acc) ∧ acc.length < sizeLine ∧ ∃ ys', Acc t D M m H1 (upd H2 D (.lst (acc ++ [v]))) ys' ∧ R ys' ∧ B (upd H2 D (.lst (acc ++ [v]))) := by
  obtain ⟨acc, h1, h2, ys', h3, h4⟩ := h.put (R := R) st hz hl hr
  exact ⟨acc, h1, h2, ys', h3, h4, hB _ fun a o n e => by rw [upd_ne n]; exact e⟩
/-- an own list F, new since H, one item changed -/
theorem set_L {F : Addr} {vs : List V} {xs : List α} (al : Alv M H) (nF : H F = none) (st : Stp m H H2) (hm : Sb m M H) (h : H2 F = some (.lst vs)) (pd : Paired (s.at (F :: M) H2) vs xs) (hz : s.at (F :: M) H2 v x) (i : Nat) :
    (sL s).at M (upd H2 F (.lst (vs.set i v))) (.ref F) (xs.set i x) ∧ Stp m H (upd H2 F (.lst (vs.set i v))) ∧ Paired (s.at (F :: M) (upd H2 F (.lst (vs.set i v)))) (vs.set i v) (xs.set i x) := by
  have sp : Stp [F] H2 (upd H2 F (.lst (vs.set i v))) := Stp.put (by simp)
  have sb : Sb [F] (F :: M) H2 := Sb.mem List.mem_cons_self Sb.nil
  exact ⟨⟨F, _, rfl, al.off nF, upd_same, pset (Sh.gos pd sp sb (fun a ha => .inl (List.mem_cons_of_mem _ ha))) (Sh.go hz sp sb (fun a ha => .inl (List.mem_cons_of_mem _ ha)))⟩, st.putN nF, pset (Sh.gos pd sp sb Sb.refl) (Sh.go hz sp sb Sb.refl)⟩
theorem Acc.done (h : Acc t D M m H1 H ys) : (sL t).at M H (.ref D) ys := by
  obtain ⟨vs, e, p⟩ := h.ac
  exact ⟨D, vs, rfl, h.nM, e, Paired.mapP p fun _ _ z => t.mv z fun a o n e => ⟨e, fun h => n (List.mem_cons_of_mem _ h)⟩⟩
/-- what is new is of no M -/
theorem mk_lst {vs : List V} {xs : List α} (al : Alv M H) (np : H p = none) (h : Paired (s.at M H) vs xs) : (sL s).at M (upd H p (.lst vs)) (.ref p) xs := ⟨p, vs, rfl, al.off np, upd_same, Sh.gos h (Stp.new np) Sb.nil Sb.refl⟩
theorem mk_tup {vs : List V} {xs : List α} (al : Alv M H) (np : H p = none) (h : Paired (s.at M H) vs xs) : (sT s).at M (upd H p (.tup vs)) (.ref p) xs := ⟨p, vs, rfl, al.off np, upd_same, Sh.gos h (Stp.new np) Sb.nil Sb.refl⟩
theorem mk_P (al : Alv M H) (np : H p = none) (h : s.at M H v x) (h' : t.at M H w y) : (sP s t).at M (upd H p (.tup [v, w])) (.ref p) (x, y) := ⟨p, v, w, rfl, al.off np, upd_same, Sh.go h (Stp.new np) Sb.nil Sb.refl, Sh.go h' (Stp.new np) Sb.nil Sb.refl⟩
theorem mk_LP (al : Alv M H) (np : H p = none) (h : s.at M H v x) (h' : t.at M H w y) : (sLP s t).at M (upd H p (.lst [v, w])) (.ref p) (x, y) := ⟨p, v, w, rfl, al.off np, upd_same, Sh.go h (Stp.new np) Sb.nil Sb.refl, Sh.go h' (Stp.new np) Sb.nil Sb.refl⟩
theorem mk_3 {v' : V} {z : γ} (al : Alv M H) (np : H p = none) (h : s.at M H v x) (h' : t.at M H w y) (h'' : u.at M H v' z) : (s3 s t u).at M (upd H p (.tup [v, w, v'])) (.ref p) (x, y, z) := ⟨p, v, w, v', rfl, al.off np, upd_same, Sh.go h (Stp.new np) Sb.nil Sb.refl, Sh.go h' (Stp.new np) Sb.nil Sb.refl, Sh.go h'' (Stp.new np) Sb.nil Sb.refl⟩
end
/-! ### as the library reads data -/
/-- its data: read, shown, compared -/
structure ShD {α : Type} (s : Sh α) (d : α → PyData) : Prop where
  dp : ∀ {K : PySem.W.Frag} {W : Addr → Prop} {H : Hp} {v : V} {x : α}, s.r W H v x → Dp K H v (d x)
  dx : ∀ {K : PySem.W.Frag} {W : Addr → Prop} {H : Hp} {v : V} {x : α}, s.r W H v x → Dx K H v (d x)
theorem dpA {α : Type} {K : PySem.W.Frag} {H : Hp} {F : V → α → Prop} {d : α → PyData} (h : ∀ v x, F v x → Dp K H v (d x)) : ∀ {vs : List V} {xs : List α}, Paired F vs xs → DpAll K H vs (xs.map d)
  | _, _, .nil => .nil
  | _, _, .cons r t => .cons (h _ _ r) (dpA h t)
theorem dxA {α : Type} {K : PySem.W.Frag} {H : Hp} {F : V → α → Prop} {d : α → PyData} (h : ∀ v x, F v x → Dx K H v (d x)) : ∀ {vs : List V} {xs : List α}, Paired F vs xs → DxAll K H vs (xs.map d)
  | _, _, .nil => .nil
  | _, _, .cons r t => .cons (h _ _ r) (dxA h t)
section
variable {α β γ : Type} {s : Sh α} {t : Sh β} {u : Sh γ} {d : α → PyData} {e : β → PyData} {f : γ → PyData}
theorem isD_int : ShD sInt PyData.int := ⟨fun h => by cases h; exact .int _, fun h => by cases h; exact .int _⟩
theorem isD_str : ShD sStr PyData.str := ⟨fun h => by cases h; exact .str _, fun h => by cases h; exact .str _⟩
theorem isD_bl : ShD sBl PyData.bool := ⟨fun h => by cases h; exact .bl _, fun h => by cases h; exact .bl _⟩
theorem isD_L (i : ShD s d) : ShD (sL s) fun xs => .list (xs.map d) := ⟨fun ⟨a, vs, e, _, h, p⟩ => by subst e; exact .lst (SqL.of h) (dpA (fun _ _ z => i.dp z) p), fun ⟨a, vs, e, _, h, p⟩ => by subst e; exact .lst (SqL.of h) (dxA (fun _ _ z => i.dx z) p)⟩
theorem isD_T (i : ShD s d) : ShD (sT s) fun xs => .tuple (xs.map d) := ⟨fun ⟨a, vs, e, _, h, p⟩ => by subst e; exact .tup (.inl (.inl h)) (dpA (fun _ _ z => i.dp z) p), fun ⟨a, vs, e, _, h, p⟩ => by subst e; exact .tup (.inl (.inl h)) (dxA (fun _ _ z => i.dx z) p)⟩
theorem isD_P (i : ShD s d) (j : ShD t e) : ShD (sP s t) fun x => .tuple [d x.1, e x.2] := ⟨fun ⟨a, u, w, e, _, h, p, q⟩ => by subst e; exact .tup (.inl (.inl h)) (.cons (i.dp p) (.cons (j.dp q) .nil)), fun ⟨a, u, w, e, _, h, p, q⟩ => by subst e; exact .tup (.inl (.inl h)) (.cons (i.dx p) (.cons (j.dx q) .nil))⟩
theorem isD_LP (i : ShD s d) (j : ShD t e) : ShD (sLP s t) fun x => .list [d x.1, e x.2] := ⟨fun ⟨a, u, w, e, _, h, p, q⟩ => by subst e; exact .lst (SqL.of h) (.cons (i.dp p) (.cons (j.dp q) .nil)), fun ⟨a, u, w, e, _, h, p, q⟩ => by subst e; exact .lst (SqL.of h) (.cons (i.dx p) (.cons (j.dx q) .nil))⟩
theorem isD_3 (i : ShD s d) (j : ShD t e) (l : ShD u f) : ShD (s3 s t u) fun x => .tuple [d x.1, e x.2.1, f x.2.2] := ⟨fun ⟨a, u, w, z, e, _, h, p, q, r⟩ => by subst e; exact .tup (.inl (.inl h)) (.cons (i.dp p) (.cons (j.dp q) (.cons (l.dp r) .nil))), fun ⟨a, u, w, z, e, _, h, p, q, r⟩ => by subst e; exact .tup (.inl (.inl h)) (.cons (i.dx p) (.cons (j.dx q) (.cons (l.dx r) .nil)))⟩
end
/-! ### slices -/
theorem cut_to {xs : List V} (k : Nat) : cutV xs none (some (k : Int)) = xs.take k := by
  unfold cutV
  rw [HT.sIx_none, HT.sIx_nat, List.drop_zero, Nat.sub_zero]
  by_cases h : k ≤ xs.length
  · rw [Nat.min_eq_left h]
  · rw [Nat.min_eq_right (by omega), List.take_of_length_le (Nat.le_refl _), List.take_of_length_le (by omega)]
theorem cut_from {xs : List V} (k : Nat) : cutV xs (some (k : Int)) none = xs.drop k := by
  unfold cutV
  rw [HT.sIx_none, HT.sIx_nat]
  by_cases h : k ≤ xs.length
  · rw [Nat.min_eq_left h, List.take_of_length_le (by rw [List.length_drop]; omega)]
  · rw [Nat.min_eq_right (by omega), Nat.sub_self, List.take_zero, List.drop_of_length_le (by omega)]
/-- xs[:-k] -/
theorem cut_less {xs : List V} (k : Nat) (hk : 0 < k) : cutV xs none (some (-(k : Int))) = xs.take (xs.length - k) := by
  unfold cutV
  rw [HT.sIx_none, List.drop_zero, Nat.sub_zero]
  show xs.take (if -(k : Int) < 0 then (-(k : Int) + (xs.length : Int)).toNat else min (-(k : Int)).toNat xs.length) = _
  rw [if_pos (by omega)]
  congr 1
  omega
/-- xs[-k:] -/
theorem cut_last {xs : List V} (k : Nat) (hk : 0 < k) : cutV xs (some (-(k : Int))) none = xs.drop (xs.length - k) := by
  unfold cutV
  rw [HT.sIx_none]
  show ((xs.drop (if -(k : Int) < 0 then (-(k : Int) + (xs.length : Int)).toNat else min (-(k : Int)).toNat xs.length)).take (xs.length - (if -(k : Int) < 0 then (-(k : Int) + (xs.length : Int)).toNat else min (-(k : Int)).toNat xs.length))) = _
  rw [if_pos (by omega)]
  have e : (-(k : Int) + (xs.length : Int)).toNat = xs.length - k := by omega
  rw [e, List.take_of_length_le (by rw [List.length_drop]; omega)]
end L2

namespace K09
open PySem PySem.Spec PyProof.Rows L2 TL
/-! ### heaps: all but the bag's list stays -/
def Fr (b : Addr) (H H' : Hp) : Prop := ∀ a o, a ≠ b → H a = some o → H' a = some o
theorem Fr.refl (b : Addr) (H : Hp) : Fr b H H := fun _ _ _ h => h
theorem Fr.trans {b : Addr} {H H1 H2 : Hp} (x : Fr b H H1) (y : Fr b H1 H2) : Fr b H H2 := fun a o n h => y a o n (x a o n h)
theorem Fr.of_same {b : Addr} {H H1 : Hp} (x : Same H H1) : Fr b H H1 := fun a o _ h => x a o h
theorem Fr.new {b p : Addr} {H : Hp} {o : HO} (h : H p = none) : Fr b H (upd H p o) := fun a u _ e => by
  rw [upd_ne (ne_of_none e h)]; exact e
theorem Fr.upd_b {b : Addr} {H H1 : Hp} {o : HO} (x : Fr b H H1) : Fr b H (upd H1 b o) := fun a u n e => by
  rw [upd_ne n]; exact x a u n e
theorem Fr.free {b p : Addr} {H H' : Hp} (x : Fr b H H') (hb : p ≠ b) (h : H' p = none) : H p = none := by
  cases q : H p with
  | none => rfl
  | some o => rw [x p o hb q] at h; cases h
theorem Fr.upd_p {b p : Addr} {H H1 : Hp} {o : HO} (x : Fr b H H1) (h : H p = none) : Fr b H (upd H1 p o) := fun a u n e => by
  rw [upd_ne (ne_of_none e h)]; exact x a u n e
theorem Same.new {p : Addr} {H : Hp} {o : HO} (h : H p = none) : Same H (upd H p o) := fun a u e => by
  rw [upd_ne (ne_of_none e h)]; exact e
theorem Same.upd_p {p : Addr} {H H1 : Hp} {o : HO} (x : Same H H1) (h : H p = none) : Same H (upd H1 p o) := fun a u e => by
  rw [upd_ne (ne_of_none e h)]; exact x a u e
theorem Fr.seq {K : PySem.W.Frag} {b : Addr} {H H' : Hp} {a : Addr} {xs : List V} (e : Fr b H H') (n : a ≠ b) (h : SqL K H a xs) : SqL K H' a xs := by
  rcases h with (h | ⟨o, h⟩) | h
  · exact .inl (.inl (e _ _ n h))
  · exact .inl (.inr ⟨o, e _ _ n h⟩)
  · exact .inr h
/-- a bag of digits: what is left of the cell, the seed, the count of draws -/
def Bag (H : Hp) (b : Addr) (n : Nat) : Prop := ∃ x y z : Int, H b = some (.lst [.int x, .int y, .int z]) ∧ 0 ≤ x ∧ 0 ≤ y ∧ y < 2147483629 ∧ 0 ≤ z ∧ z ≤ n
theorem Bag.mono {H : Hp} {b : Addr} {n m : Nat} (h : Bag H b n) (l : n ≤ m) : Bag H b m := by
  obtain ⟨x, y, z, e, h1, h2, h3, h4, h5⟩ := h
  exact ⟨x, y, z, e, h1, h2, h3, h4, by omega⟩
theorem Bag.same {H H' : Hp} {b : Addr} {n : Nat} (h : Bag H b n) (s : Same H H') : Bag H' b n := by
  obtain ⟨x, y, z, e, r⟩ := h
  exact ⟨x, y, z, s _ _ e, r⟩
theorem Bag.ne {H : Hp} {b p : Addr} {n : Nat} (h : Bag H b n) (q : H p = none) : b ≠ p := by
  obtain ⟨x, y, z, e, r⟩ := h
  exact ne_of_none e q
theorem Bag.upd {H : Hp} {b p : Addr} {n : Nat} {o : HO} (h : Bag H b n) (q : b ≠ p) : Bag (upd H p o) b n := by
  obtain ⟨x, y, z, e, r⟩ := h
  exact ⟨x, y, z, by rw [upd_ne q]; exact e, r⟩
theorem Bag.some {H : Hp} {b : Addr} {n : Nat} (h : Bag H b n) : ∃ o, H b = some o := by
  obtain ⟨x, y, z, e, r⟩ := h
  exact ⟨_, e⟩
/-! ### the promises that all such laws share -/
def sp_cell (K : PySem.W.Frag) : Sp := fun vs H Q _ => ∃ (l : Addr) (ns : List Int) (j : Int), vs = [.ref l, .int j] ∧ SqL K H l (ns.map V.int) ∧ 0 ≤ j ∧ ∀ v : Int, Q (.int v) H
def sp_bag (K : PySem.W.Frag) : Sp := fun vs H Q _ => ∃ c : Int, vs = [.int c] ∧ ∀ p H', Same H H' → H p = none → Bag H' p 0 → Q (.ref p) H'
def sp_take (K : PySem.W.Frag) : Sp := fun vs H Q _ => ∃ (b : Addr) (n : Nat) (c : Int), vs = [.ref b, .int c] ∧ Bag H b n ∧ n ≤ 1000000 ∧ 0 < c ∧ c < 2 ^ 200 ∧
  ∀ (d : Int) H', Fr b H H' → Bag H' b (n + 1) → 0 ≤ d → d < c → Q (.int d) H'
def sp_law (K : PySem.W.Frag) : Sp := fun vs H Q _ => ∃ (a : Addr) (ns : List Int), vs = [.ref a] ∧ SqL K H a (ns.map V.int) ∧ ns.length ≤ 63 ∧ ∀ H', Q (.bl true) H'
/-! ### small facts -/
theorem atI_in {α : Type} {xs : List α} {i : Int} (h0 : 0 ≤ i) (h1 : i < (xs.length : Int)) : ∃ v, xs[i.toNat]? = some v ∧ atI xs i = some v := by
  have hj : i.toNat < xs.length := by omega
  refine ⟨xs[i.toNat], List.getElem?_eq_getElem hj, ?_⟩
  have e : ((i.toNat : Nat) : Int) = i := Int.toNat_of_nonneg h0
  have := atI_nat (xs := xs) (j := i.toNat) (List.getElem?_eq_getElem hj)
  rw [e] at this
  exact this
theorem atI_ints {ns : List Int} {i : Int} (h0 : 0 ≤ i) (h1 : i < (ns.length : Int)) : ∃ v : Int, atI (ns.map V.int) i = some (.int v) := by
  obtain ⟨v, e, h⟩ := atI_in (xs := ns.map V.int) h0 (by rw [List.length_map]; exact h1)
  rw [List.getElem?_map] at e
  cases q : ns[i.toNat]? with
  | none => rw [q] at e; cases e
  | some u => rw [q] at e; cases e; exact ⟨u, h⟩
theorem lt_of_dec {a b : Int} (h : decide (a < b) = true) : a < b := of_decide_eq_true h
theorem nlt_of_dec {a b : Int} (h : ¬ decide (a < b) = true) : ¬ a < b := fun x => h (decide_eq_true x)
theorem emod_in (a : Int) {m : Int} (h : 0 < m) : 0 ≤ a % m ∧ a % m < m := ⟨Int.emod_nonneg a (by omega), Int.emod_lt_of_pos a h⟩
/-! ### texts -/
theorem joinL_len (S : List Nat) : ∀ ps : List (List Nat), (joinL S ps).length ≤ (ps.map List.length).sum + ps.length * S.length
  | [] => by simp [joinL]
  | [p] => by simp [joinL]
  | p :: q :: r => by
    have h := joinL_len S (q :: r)
    show (p ++ (S ++ joinL S (q :: r))).length ≤ _
    simp only [List.length_append, List.map_cons, List.sum_cons, List.length_cons, Nat.add_mul, Nat.one_mul] at h ⊢
    omega
theorem join_len (a : Str) (ys : List Str) : (Txt.join a ys).length ≤ (ys.map (·.length)).sum + ys.length * a.length := by
  rw [join_eq, len_tl, tl_join, len_tl a]
  have h := joinL_len (tl a) (ys.map tl)
  rw [List.map_map, List.length_map] at h
  have e : ys.map (List.length ∘ tl) = ys.map (·.length) := List.map_congr_left fun x _ => (len_tl x).symm
  rw [e] at h
  exact h
theorem sum_len {ys : List Str} {L : Nat} (h : ∀ s ∈ ys, s.length ≤ L) : (ys.map (·.length)).sum ≤ ys.length * L := by
  induction ys with
  | nil => simp
  | cons a r ih =>
    have h1 := h a List.mem_cons_self
    have h2 := ih fun s hs => h s (List.mem_cons_of_mem _ hs)
    simp only [List.map_cons, List.sum_cons, List.length_cons, Nat.add_mul, Nat.one_mul]
    omega
theorem join_size {a : Str} {ys : List Str} {L n A : Nat} (h : ∀ s ∈ ys, s.length ≤ L) (hn : ys.length ≤ n) (ha : a.length ≤ A) : (ys.map (·.length)).sum + ys.length * a.length ≤ n * L + n * A :=
  Nat.add_le_add (Nat.le_trans (sum_len h) (Nat.mul_le_mul_right _ hn)) (Nat.mul_le_mul hn ha)
theorem app_len (a b : Str) : (a ++ b).length = a.length + b.length := by
  rw [len_tl, tl_append, List.length_append, ← len_tl, ← len_tl]
def rRepS : R2 := fun x y H Q => ∃ z i, x = .str z ∧ y = .int i ∧ z.length ≤ 100 ∧ 0 ≤ i ∧ i ≤ 1000 ∧ ∀ s : Str, s.length ≤ z.length * i.toNat → Q (.str s) H
theorem op_repS {X : Cx} : OpR X (binaryOp .Mult) rRepS := by
  intro pins s σ H x y v u Q I rx ry h
  obtain ⟨z, i, rfl, rfl, hz, h0, h1, q⟩ := h
  obtain ⟨t, rfl⟩ := rx
  obtain ⟨t', rfl⟩ := ry
  have hm : z.length * i.toNat ≤ 100 * 1000 := Nat.mul_le_mul hz (by omega)
  refine SB.mul ⟨?_, fun _ _ => ?_, fun _ _ => ?_⟩ (fun t'' k => ⟨.str (Txt.mul z i), H, I.tok _, ⟨_, rfl⟩, q _ ?_⟩)
  · rw [Bool.or_eq_false_iff]
    exact ⟨decide_eq_false (by omega), decide_eq_false (by omega)⟩
  · have h2 : (1000 : Int) ≤ (2 ^ 63 - 1) / i ∨ i = 0 := by
      by_cases e : i = 0
      · exact .inr e
      · left
        rw [Int.le_ediv_iff_mul_le (by omega)]
        omega
    rcases h2 with h2 | h2
    · omega
    · subst h2
      omega
  · have hz2 : sizeLine = 16777216 := sizeLine_eq
    unfold Builtin.Str.tooLong
    exact decide_eq_false (by omega)
  · have hl := PyProof.Rows.len_mul z i
    have e : (if decide (i < 0) = true then 0 else i) = i := by rw [if_neg (by simp; omega)]
    rw [e] at hl
    have e2 : (i.toNat : Int) = i := Int.toNat_of_nonneg h0
    rw [show (z.length : Int) * i = ((z.length * i.toNat : Nat) : Int) by rw [Int.natCast_mul, e2]] at hl
    omega
/-- a list of draws that are texts, made at D -/
def PvS (b D : Addr) (H1 : Hp) (n0 c L : Nat) (i : Nat) (H' : Hp) : Prop := H1 D = none ∧ D ≠ b ∧ ∃ ys : List Str, ys.length = i ∧ (∀ s ∈ ys, s.length ≤ L) ∧ H' D = some (.lst (ys.map V.str)) ∧ Fr b H1 H' ∧ Bag H' b (n0 + c * i)
theorem pvS_0 {b D : Addr} {H1 : Hp} {n0 c L : Nat} (hB : Bag H1 b n0) (hD : H1 D = none) : PvS b D H1 n0 c L 0 (upd H1 D (.lst [])) :=
  ⟨hD, (hB.ne hD).symm, [], rfl, fun _ h => (nomatch h), upd_same, Fr.new hD, (hB.upd (hB.ne hD)).mono (by omega)⟩
theorem pvS_put {b D : Addr} {H1 H' H4 : Hp} {n0 c L i : Nat} {s : Str} (p : PvS b D H1 n0 c L i H') (f4 : Fr b H' H4) (b4 : Bag H4 b (n0 + c * (i + 1))) (hs4 : s.length ≤ L) (hi : i < 100000) :
    ∃ acc, H4 D = some (.lst acc) ∧ acc.length < sizeLine ∧ PvS b D H1 n0 c L (i + 1) (upd H4 D (.lst (acc ++ [V.str s]))) := by
  obtain ⟨hD, n1, ys, hl, hs, hD', hF, hB'⟩ := p
  refine ⟨ys.map V.str, f4 D _ n1 hD', ?_, hD, n1, ys ++ [s], by rw [List.length_append, hl]; rfl, ?_, ?_, (hF.trans f4).upd_p hD, b4.upd n1.symm⟩
  · rw [List.length_map, hl]
    have : sizeLine = 16777216 := sizeLine_eq
    omega
  · intro x hx
    rcases List.mem_append.mp hx with h | h
    · exact hs x h
    · rw [List.mem_singleton.mp h]; exact hs4
  · rw [upd_same, List.map_append]; rfl
/-- a def that draws a text -/
def sp_str (c L : Nat) : Sp := fun vs H Q _ => ∃ (b : Addr) (n : Nat), vs = [.ref b] ∧ Bag H b n ∧ n + c ≤ 1000000 ∧ ∀ (s : Str) H', Fr b H H' → Bag H' b (n + c) → s.length ≤ L → Q (.str s) H'
theorem slen {n : Nat} (h : n ≤ 100000) : n ≤ sizeLine := Nat.le_trans h (by decide)
theorem str_at {xs : List V} {i : Int} {L : Nat} (h0 : 0 ≤ i) (h1 : i < (xs.length : Int)) (h : ∀ v ∈ xs, ∃ s : Str, v = .str s ∧ s.length ≤ L) : ∃ s : Str, atI xs i = some (.str s) ∧ s.length ≤ L := by
  obtain ⟨v, e, a⟩ := atI_in h0 h1
  obtain ⟨s, rfl, hs⟩ := h v (List.mem_of_getElem? e)
  exact ⟨s, a, hs⟩
theorem lenk {α : Type} {xs : List α} (n : Nat) (h : xs.length = n) (hn : n ≤ 100000) : xs.length ≤ sizeLine := slen (by omega)

end K09
namespace K09
open PySem PySem.Spec PyProof.Rows L2 TL
theorem ok_l_cell {P : Program} {w : World} {K : PySem.W.Frag} {mg : Str → Option Value} {base : Heap} (T : Txt P K mg) : FnOk P w K mg base CX0 1 T.f_l_cell T.fd_l_cell ["_law_script", "_law_index"] (sp_cell K) := by
  refine T.F_l_cell.ok sc_l_cell (fun vs H Q E h => ?_) (fun cdv A outer s H vs Q E hr h => ?_)
  · obtain ⟨_, _, _, rfl, _⟩ := h; rfl
  · obtain ⟨l, ns, j, rfl, hS, hj, q⟩ := h
    refine ⟨_, PSs.nox (pss_cons (ps_if (pt_cmpR op_lt (pv 1) (pe_callB (show CallR _ _ (rLenSeq K) from call_len_seq) (by rfl) T.n_len (by decide +kernel) (pa_cons (pv 0) pa_nil)) (nomark _)) (pss_one (ps_ret (pe_ix (show IxR _ (rIxL K) from ix_list) (pv 0) (pv 1) (fun _ _ => rfl)))) pss_nil)
      (pss_one (ps_ret (pe_op op_add (pe_op op_mul pe_int (pv 1)) pe_int)))), ?_⟩
    refine ⟨_, rfl, _, rfl, l, _, rfl, .inl hS, _, _, rfl, rfl, _, rfl, ite2 (fun e => ?_) (fun e => ?_)⟩
    · have e1 := lt_of_dec e
      rw [List.length_map] at e1
      obtain ⟨v, hv⟩ := atI_ints hj e1
      exact ⟨_, rfl, _, rfl, l, _, _, _, rfl, rfl, hS, hv, q v⟩
    · exact ⟨_, rfl, _, _, rfl, rfl, .inl ⟨by decide, by decide⟩, _, _, rfl, rfl, q _⟩
theorem ok_l_bag {P : Program} {w : World} {K : PySem.W.Frag} {mg : Str → Option Value} {base : Heap} (T : Txt P K mg) : FnOk P w K mg base CX0 1 T.f_l_bag T.fd_l_bag ["_law_cell_here"] (sp_bag K) := by
  refine T.F_l_bag.ok sc_l_bag (fun vs H Q E h => ?_) (fun cdv A outer s H vs Q E hr h => ?_)
  · obtain ⟨_, rfl, _⟩ := h; rfl
  · obtain ⟨c, rfl, q⟩ := h
    refine ⟨_, PSs.nox (pss_one (ps_ret (pe_lst (pa_cons (pe_callB (call_max2 rfl) (by rfl) T.n_max (by decide +kernel) (pa_cons pe_int (pa_cons (pe_op op_sub (pv 0) (pe_op op_pow pe_int pe_int)) pa_nil))) (pa_cons (pe_op op_mod (pv 0) pe_int) (pa_cons pe_int pa_nil)))))), ?_⟩
    refine ⟨_, rfl, _, _, rfl, rfl, ⟨by decide, by decide, by decide⟩, _, _, rfl, rfl, _, _, rfl, _, rfl, _, _, rfl, rfl, (show (0 : Int) < _ by decide), ?_⟩
    refine ⟨(by show 3 ≤ sizeLine; decide), fun p np => q p _ (Same.new np) np ⟨_, _, _, upd_same, ?_, (emod_in c (by decide)).1, (emod_in c (by decide)).2, Int.le_refl 0, Int.le_refl 0⟩⟩
    split <;> omega
theorem ok_l_take {P : Program} {w : World} {K : PySem.W.Frag} {mg : Str → Option Value} {base : Heap} (T : Txt P K mg) : FnOk P w K mg base CX0 1 T.f_l_take T.fd_l_take ["_law_bag_here", "_law_count"] (sp_take K) := by
  refine T.F_l_take.ok sc_l_take (fun vs H Q E h => ?_) (fun cdv A outer s H vs Q E hr h => ?_)
  · obtain ⟨_, _, _, rfl, _⟩ := h; rfl
  · obtain ⟨b, n, c, rfl, ⟨x, y, z, hb, hx, hy, hy2, hz, hz2⟩, hn, hc, hc2, q⟩ := h
    have wc : CDivW x c := wide_div hc (b := 200) (by omega) (by decide) (by decide)
    refine ⟨_, PSs.nox (pss_cons (ps_if (pt_cmpR op_gt (pe_ix (show IxR _ (rIxL K) from ix_list) (pv 0) pe_int (fun _ _ => rfl)) pe_int (nomark _)) (pss_cons (ps_set (i := 2) sc_l_take.nd rfl (Or.inl rfl) (pe_op op_mod (pe_ix (show IxR _ (rIxL K) from ix_list) (pv 0) pe_int (fun _ _ => rfl)) (pv 1)))
      (pss_cons (ps_asg (pe_op op_fdivW (pe_ix (show IxR _ (rIxL K) from ix_list) (pv 0) pe_int (fun _ _ => rfl)) (pv 1)) (pg_sub (pv 0) pe_int set_list))
      (pss_one (ps_ret (pv 2))))) pss_nil)
      (pss_cons (ps_asg (pe_op op_add (pe_ix (show IxR _ (rIxL K) from ix_list) (pv 0) pe_int (fun _ _ => rfl)) pe_int) (pg_sub (pv 0) pe_int set_list))
      (pss_cons (ps_set (i := 3) sc_l_take.nd rfl (Or.inl rfl) (pe_op op_mod (pe_op op_pow (pe_op op_add (pe_op op_add (pe_ix (show IxR _ (rIxL K) from ix_list) (pv 0) pe_int (fun _ _ => rfl)) (pe_op op_mul pe_int (pe_ix (show IxR _ (rIxL K) from ix_list) (pv 0) pe_int (fun _ _ => rfl)))) pe_int) pe_int) pe_int))
      (pss_cons (ps_set (i := 3) sc_l_take.nd rfl (Or.inl rfl) (pe_op op_mod (pe_op op_pow (pe_op op_add (pv 3) (pe_op op_mul pe_int (pe_ix (show IxR _ (rIxL K) from ix_list) (pv 0) pe_int (fun _ _ => rfl)))) pe_int) pe_int))
      (pss_one (ps_ret (pe_op op_mod (pe_op op_fdivW (pv 3) pe_int) (pv 1)))))))), ?_⟩
    refine ⟨_, rfl, b, _, _, _, rfl, rfl, SqL.of hb, rfl, _, _, rfl, rfl, _, rfl, ite2 (fun e => ?_) (fun e => ?_)⟩
    · -- a digit of the cell
      refine ⟨_, rfl, b, _, _, _, rfl, rfl, SqL.of hb, rfl, _, rfl, _, _, rfl, rfl, hc, ?_⟩
      refine ⟨_, rfl, b, _, _, _, rfl, rfl, SqL.of hb, rfl, _, rfl, _, _, rfl, rfl, wc, ?_⟩
      refine ⟨_, rfl, b, _, _, 0, rfl, rfl, hb, rfl, ?_⟩
      refine ⟨_, rfl, q _ _ (Fr.upd_b (Fr.refl b H)) ⟨_, _, _, upd_same, Int.ediv_nonneg hx (by omega), hy, hy2, hz, by omega⟩ (emod_in x hc).1 (emod_in x hc).2⟩
    · -- a mixed one
      refine ⟨_, rfl, b, _, _, _, rfl, rfl, SqL.of hb, rfl, _, _, rfl, rfl, ?_⟩
      refine ⟨_, rfl, b, _, _, 2, rfl, rfl, hb, rfl, ?_⟩
      have hb2 : upd H b (.lst ([V.int x, V.int y, V.int z].set 2 (V.int (z + 1)))) b = some (.lst [.int x, .int y, .int (z + 1)]) := upd_same
      refine ⟨_, rfl, b, _, _, _, rfl, rfl, SqL.of hb2, rfl, _, rfl, b, _, _, _, rfl, rfl, SqL.of hb2, rfl, _, _, rfl, rfl, .inl ⟨by decide, by decide⟩, _, _, rfl, rfl, _, _, rfl, rfl, _, _, rfl, rfl, ⟨by decide, by decide, by omega⟩, _, _, rfl, rfl, (show (0 : Int) < _ by decide), ?_⟩
      have m1 := emod_in ((y + 8419 * (z + 1) + 127) ^ (5 : Int).toNat) (m := 2147483647) (by decide)
      generalize (y + 8419 * (z + 1) + 127) ^ (5 : Int).toNat % 2147483647 = t at m1
      refine ⟨_, rfl, _, rfl, b, _, _, _, rfl, rfl, SqL.of hb2, rfl, _, _, rfl, rfl, .inl ⟨by decide, by decide⟩, _, _, rfl, rfl, _, _, rfl, rfl, ⟨by decide, by decide, by omega⟩, _, _, rfl, rfl, (show (0 : Int) < _ by decide), ?_⟩
      have m2 := emod_in ((t + 104729 * (z + 1)) ^ (3 : Int).toNat) (m := 2147483587) (by decide)
      generalize (t + 104729 * (z + 1)) ^ (3 : Int).toNat % 2147483587 = u at m2
      refine ⟨_, rfl, _, _, rfl, rfl, wide_div (by decide) (b := 10) (by decide) (by decide) (by decide), _, rfl, _, _, rfl, rfl, hc, ?_⟩
      exact q _ _ (Fr.upd_b (Fr.refl b H)) ⟨_, _, _, upd_same, hx, hy, hy2, by omega, by omega⟩ (emod_in _ hc).1 (emod_in _ hc).2

end K09
namespace K09
open PySem PySem.Spec PyProof.Rows L2 TL
/-! ### data that stand: variables, events -/
theorem pd_get {α β : Type} {F : α → β → Prop} : ∀ {l₁ : List α} {l₂ : List β} {i : Nat} {x : α}, Paired F l₁ l₂ → l₁[i]? = some x → ∃ y, l₂[i]? = some y ∧ F x y
  | _, _, _, _, .nil, e => by simp at e
  | _, _, 0, _, .cons r _, e => by simp at e; subst e; exact ⟨_, rfl, r⟩
  | _, _, i + 1, x, .cons _ t, e => by
    obtain ⟨y, h1, h2⟩ := pd_get (i := i) (x := x) t (by simpa using e)
    exact ⟨y, by simpa using h1, h2⟩
theorem pd_get' {α β : Type} {F : α → β → Prop} : ∀ {l₁ : List α} {l₂ : List β} {i : Nat} {y : β}, Paired F l₁ l₂ → l₂[i]? = some y → ∃ x, l₁[i]? = some x ∧ F x y
  | _, _, _, _, .nil, e => by simp at e
  | _, _, 0, _, .cons r _, e => by simp at e; subst e; exact ⟨_, rfl, r⟩
  | _, _, i + 1, y, .cons _ t, e => by
    obtain ⟨x, h1, h2⟩ := pd_get' (i := i) (y := y) t (by simpa using e)
    exact ⟨x, by simpa using h1, h2⟩
theorem pd_app {α β : Type} {F : α → β → Prop} : ∀ {a b : List α} {c d : List β}, Paired F a c → Paired F b d → Paired F (a ++ b) (c ++ d)
  | _, _, _, _, .nil, h => h
  | _, _, _, _, .cons r t, h => .cons r (pd_app t h)
theorem pd_map {α β : Type} {F : α → β → Prop} (f : β → α) : ∀ {l : List β}, (∀ y ∈ l, F (f y) y) → Paired F (l.map f) l
  | [], _ => .nil
  | y :: r, h => .cons (h y List.mem_cons_self) (pd_map f fun z hz => h z (List.mem_cons_of_mem _ hz))
/-- what does not stand in W stays -/
def Mv (W : Addr → Prop) (H H' : Hp) : Prop := ∀ a o, ¬ W a → H a = some o → H' a = some o
theorem Mv.of_same {W : Addr → Prop} {H H' : Hp} (h : Same H H') : Mv W H H' := fun a o _ e => h a o e
theorem Mv.of_fr {b : Addr} {H H' : Hp} (h : Fr b H H') : Mv (fun a => a = b) H H' := fun a o n e => h a o n e
/-- a list or a tuple at a place of F -/
def LT (H : Hp) (F : Addr → Prop) (a : Addr) (xs : List V) : Prop := F a ∧ (H a = some (.lst xs) ∨ H a = some (.tup xs))
theorem LT.sq {K : PySem.W.Frag} {H : Hp} {F : Addr → Prop} {a : Addr} {xs : List V} (h : LT H F a xs) : SqL K H a xs ∨ SqT K H a xs := by
  obtain ⟨_, h | h⟩ := h
  · exact .inl (SqL.of h)
  · exact .inr (.inl (.inl h))
theorem LT.mv {H H' : Hp} {F W : Addr → Prop} {a : Addr} {xs : List V} (h : LT H F a xs) (m : Mv W H H') (d : ∀ a, F a → ¬ W a) : LT H' F a xs := by
  obtain ⟨f, h | h⟩ := h
  · exact ⟨f, .inl (m _ _ (d _ f) h)⟩
  · exact ⟨f, .inr (m _ _ (d _ f) h)⟩
def isPair (H : Hp) (G : Addr → Prop) (x : V) (q : Str × Int) : Prop := ∃ t, x = .ref t ∧ G t ∧ H t = some (.tup [.str q.1, .int q.2])
def isTupI (H : Hp) (G : Addr → Prop) (x : V) (ns : List Int) : Prop := ∃ t, x = .ref t ∧ G t ∧ H t = some (.tup (ns.map V.int))
abbrev Row := Str × List Str × List (List Int)
def isRow (H : Hp) (F G : Addr → Prop) (x : V) (r : Row) : Prop := ∃ p a b ys, x = .ref p ∧ F p ∧ H p = some (.tup [.str r.1, .ref a, .ref b]) ∧ LT H F a (r.2.1.map V.str) ∧ LT H F b ys ∧ Paired (isTupI H G) ys r.2.2
def isVars (H : Hp) (F G : Addr → Prop) (v : V) (L : List (Str × Int)) : Prop := ∃ a xs, v = .ref a ∧ LT H F a xs ∧ Paired (isPair H G) xs L
def isEvs (H : Hp) (F G : Addr → Prop) (v : V) (R : List Row) : Prop := ∃ a xs, v = .ref a ∧ LT H F a xs ∧ Paired (isRow H F G) xs R
section
variable {H H' : Hp} {F F' G G' W : Addr → Prop}
theorem isPair.mv {x : V} {q : Str × Int} (h : isPair H G x q) (m : Mv W H H') (d : ∀ a, G a → ¬ W a) : isPair H' G x q := by
  obtain ⟨t, e, g, h⟩ := h
  exact ⟨t, e, g, m _ _ (d _ g) h⟩
theorem isTupI.mv {x : V} {ns : List Int} (h : isTupI H G x ns) (m : Mv W H H') (d : ∀ a, G a → ¬ W a) : isTupI H' G x ns := by
  obtain ⟨t, e, g, h⟩ := h
  exact ⟨t, e, g, m _ _ (d _ g) h⟩
theorem isRow.mv {x : V} {r : Row} (h : isRow H F G x r) (m : Mv W H H') (d : ∀ a, F a → ¬ W a) (d' : ∀ a, G a → ¬ W a) : isRow H' F G x r := by
  obtain ⟨p, a, b, ys, e, f, h, la, lb, hp⟩ := h
  exact ⟨p, a, b, ys, e, f, m _ _ (d _ f) h, la.mv m d, lb.mv m d, Paired.mono (fun _ _ z => z.mv m d') hp⟩
theorem isVars.mv {v : V} {L : List (Str × Int)} (h : isVars H F G v L) (m : Mv W H H') (d : ∀ a, F a → ¬ W a) (d' : ∀ a, G a → ¬ W a) : isVars H' F G v L := by
  obtain ⟨a, xs, e, la, hp⟩ := h
  exact ⟨a, xs, e, la.mv m d, Paired.mono (fun _ _ z => z.mv m d') hp⟩
theorem isEvs.mv {v : V} {R : List Row} (h : isEvs H F G v R) (m : Mv W H H') (d : ∀ a, F a → ¬ W a) (d' : ∀ a, G a → ¬ W a) : isEvs H' F G v R := by
  obtain ⟨a, xs, e, la, hp⟩ := h
  exact ⟨a, xs, e, la.mv m d, Paired.mono (fun _ _ z => z.mv m d d') hp⟩
theorem LT.wk {a : Addr} {xs : List V} (h : LT H F a xs) (f : ∀ a, F a → F' a) : LT H F' a xs := ⟨f _ h.1, h.2⟩
theorem isPair.wk {x : V} {q : Str × Int} (h : isPair H G x q) (f : ∀ a, G a → G' a) : isPair H G' x q := by
  obtain ⟨t, e, g, h⟩ := h
  exact ⟨t, e, f _ g, h⟩
theorem isTupI.wk {x : V} {ns : List Int} (h : isTupI H G x ns) (f : ∀ a, G a → G' a) : isTupI H G' x ns := by
  obtain ⟨t, e, g, h⟩ := h
  exact ⟨t, e, f _ g, h⟩
theorem isRow.wk {x : V} {r : Row} (h : isRow H F G x r) (f : ∀ a, F a → F' a) (g : ∀ a, G a → G' a) : isRow H F' G' x r := by
  obtain ⟨p, a, b, ys, e, ff, h, la, lb, hp⟩ := h
  exact ⟨p, a, b, ys, e, f _ ff, h, la.wk f, lb.wk f, Paired.mono (fun _ _ z => z.wk g) hp⟩
theorem isVars.wk {v : V} {L : List (Str × Int)} (h : isVars H F G v L) (f : ∀ a, F a → F' a) (g : ∀ a, G a → G' a) : isVars H F' G' v L := by
  obtain ⟨a, xs, e, la, hp⟩ := h
  exact ⟨a, xs, e, la.wk f, Paired.mono (fun _ _ z => z.wk g) hp⟩
theorem isEvs.wk {v : V} {R : List Row} (h : isEvs H F G v R) (f : ∀ a, F a → F' a) (g : ∀ a, G a → G' a) : isEvs H F' G' v R := by
  obtain ⟨a, xs, e, la, hp⟩ := h
  exact ⟨a, xs, e, la.wk f, Paired.mono (fun _ _ z => z.wk f g) hp⟩
theorem isPair.same {x : V} {q : Str × Int} (h : isPair H G x q) (m : Same H H') : isPair H' G x q := h.mv (Mv.of_same m (W := fun _ => False)) fun _ _ z => z
theorem isTupI.same {x : V} {ns : List Int} (h : isTupI H G x ns) (m : Same H H') : isTupI H' G x ns := h.mv (Mv.of_same m (W := fun _ => False)) fun _ _ z => z
theorem isRow.same {x : V} {r : Row} (h : isRow H F G x r) (m : Same H H') : isRow H' F G x r := h.mv (Mv.of_same m (W := fun _ => False)) (fun _ _ z => z) fun _ _ z => z
theorem isVars.same {v : V} {L : List (Str × Int)} (h : isVars H F G v L) (m : Same H H') : isVars H' F G v L := h.mv (Mv.of_same m (W := fun _ => False)) (fun _ _ z => z) fun _ _ z => z
theorem isEvs.same {v : V} {R : List Row} (h : isEvs H F G v R) (m : Same H H') : isEvs H' F G v R := h.mv (Mv.of_same m (W := fun _ => False)) (fun _ _ z => z) fun _ _ z => z
theorem LT.same {a : Addr} {xs : List V} (h : LT H F a xs) (m : Same H H') : LT H' F a xs := h.mv (Mv.of_same m (W := fun _ => False)) fun _ _ z => z
end
/-- a row whose scope and bad tuples are lists -/
def isRowS (H : Hp) (F G : Addr → Prop) (x : V) (r : Row) : Prop := ∃ p a b ys, x = .ref p ∧ F p ∧ H p = some (.tup [.str r.1, .ref a, .ref b]) ∧ (F a ∧ H a = some (.lst (r.2.1.map V.str))) ∧ (F b ∧ H b = some (.lst ys)) ∧ Paired (isTupI H G) ys r.2.2
section
variable {H H' : Hp} {F F' G G' W : Addr → Prop}
theorem isRowS.row {x : V} {r : Row} (h : isRowS H F G x r) : isRow H F G x r := by
  obtain ⟨p, a, b, ys, e, f, h, la, lb, hp⟩ := h
  exact ⟨p, a, b, ys, e, f, h, ⟨la.1, .inl la.2⟩, ⟨lb.1, .inl lb.2⟩, hp⟩
theorem isRowS.mv {x : V} {r : Row} (h : isRowS H F G x r) (m : Mv W H H') (d : ∀ a, F a → ¬ W a) (d' : ∀ a, G a → ¬ W a) : isRowS H' F G x r := by
  obtain ⟨p, a, b, ys, e, f, h, la, lb, hp⟩ := h
  exact ⟨p, a, b, ys, e, f, m _ _ (d _ f) h, ⟨la.1, m _ _ (d _ la.1) la.2⟩, ⟨lb.1, m _ _ (d _ lb.1) lb.2⟩, Paired.mono (fun _ _ z => z.mv m d') hp⟩
theorem isRowS.wk {x : V} {r : Row} (h : isRowS H F G x r) (f : ∀ a, F a → F' a) (g : ∀ a, G a → G' a) : isRowS H F' G' x r := by
  obtain ⟨p, a, b, ys, e, ff, h, la, lb, hp⟩ := h
  exact ⟨p, a, b, ys, e, f _ ff, h, ⟨f _ la.1, la.2⟩, ⟨f _ lb.1, lb.2⟩, Paired.mono (fun _ _ z => z.wk g) hp⟩
theorem isRowS.same {x : V} {r : Row} (h : isRowS H F G x r) (m : Same H H') : isRowS H' F G x r := h.mv (Mv.of_same m (W := fun _ => False)) (fun _ _ z => z) fun _ _ z => z
end
/-! ### what is asked of them -/
def NameOk (s : Str) : Prop := 1 ≤ (tl s).length ∧ (tl s).length ≤ 8 ∧ ∀ c ∈ tl s, 97 ≤ c ∧ c ≤ 122
def sizeOf (L : List (Str × Int)) (x : Str) : Int := ((L.find? fun q => decide (q.1 = x)).map (·.2)).getD 0
structure VarsOk (L : List (Str × Int)) : Prop where
  pos : 1 ≤ L.length
  few : L.length ≤ 8
  nm : ∀ q ∈ L, NameOk q.1
  sz : ∀ q ∈ L, 1 ≤ q.2 ∧ q.2 ≤ 6
  nd : (L.map (·.1)).Nodup
structure RowOk (L : List (Str × Int)) (r : Row) : Prop where
  nm : NameOk r.1
  pos : 1 ≤ r.2.1.length
  few : r.2.1.length ≤ 4
  sub : ∀ x ∈ r.2.1, x ∈ L.map (·.1)
  nd : r.2.1.Nodup
  bfew : r.2.2.length ≤ 12
  bnd : r.2.2.Nodup
  bl : ∀ ns ∈ r.2.2, ns.length = r.2.1.length
  bv : ∀ ns ∈ r.2.2, ∀ (i : Nat) (x : Str) (v : Int), r.2.1[i]? = some x → ns[i]? = some v → 0 ≤ v ∧ v < sizeOf L x
structure EvsOk (L : List (Str × Int)) (R : List Row) : Prop where
  few : R.length ≤ 8
  ok : ∀ r ∈ R, RowOk L r
  nd : (R.map (·.1)).Nodup

end K09
namespace K09
open PySem PySem.Spec PyProof.Rows L2 TL
/-! ### names that share a stem -/
theorem joinL_nil : ∀ ps : List (List Nat), joinL [] ps = ps.flatten
  | [] => rfl
  | [p] => by simp [joinL]
  | p :: q :: r => by
    show p ++ ([] ++ joinL [] (q :: r)) = _
    rw [joinL_nil (q :: r)]
    simp
theorem tl_join0 (ys : List Str) : tl (Txt.join (Str.ofString "") ys) = (ys.map tl).flatten := by
  rw [join_eq, tl_join, show tl (Str.ofString "") = [] by decide +kernel, joinL_nil]
theorem tl_cut0 (z : Str) (a : Nat) : tl (cutS z none (some (a : Int))) = (tl z).take a := by
  show ((z.cps.toList.drop 0).take (HT.sIx z.length z.length (some (a : Int)) - 0)) = _
  rw [HT.sIx_nat, List.drop_zero, Nat.sub_zero, show z.length = (tl z).length from len_tl z]
  show (tl z).take _ = _
  rw [← List.take_take, List.take_length]
theorem tl_cut2 (z : Str) (a b : Nat) (h : a ≤ (tl z).length) : tl (cutS z (some (a : Int)) (some (b : Int))) = ((tl z).drop a).take (b - a) := by
  show ((z.cps.toList.drop (HT.sIx z.length 0 (some (a : Int)))).take (HT.sIx z.length z.length (some (b : Int)) - HT.sIx z.length 0 (some (a : Int)))) = _
  rw [HT.sIx_nat, HT.sIx_nat, show z.length = (tl z).length from len_tl z, Nat.min_eq_left h]
  show ((tl z).drop a).take _ = _
  by_cases hb : b ≤ (tl z).length
  · rw [Nat.min_eq_left hb]
  · rw [Nat.min_eq_right (by omega), List.take_of_length_le (by rw [List.length_drop]; omega), List.take_of_length_le (by rw [List.length_drop]; omega)]
def AZ : Str := Str.ofString "abcdefghijklmnopqrstuvwxyz"
theorem az_list : AZ.cps.toList = List.range' 97 26 := by decide +kernel
theorem az_at {d : Int} (h0 : 0 ≤ d) (h1 : d < 26) : atI AZ.cps.toList d = some (97 + d.toNat) := by
  have e : ((d.toNat : Nat) : Int) = d := Int.toNat_of_nonneg h0
  have h := atI_nat (xs := AZ.cps.toList) (j := d.toNat) (v := 97 + d.toNat) (by rw [az_list, List.getElem?_range' (by omega)]; simp)
  rw [e] at h
  exact h
theorem az_len : AZ.length ≤ sizeLine := slen (by decide +kernel)
/-- a list of draws that are texts of a kind, made at D -/
def PvP (b D : Addr) (H1 : Hp) (n0 c : Nat) (P : Str → Prop) (i : Nat) (H' : Hp) : Prop := H1 D = none ∧ D ≠ b ∧ ∃ ys : List Str, ys.length = i ∧ (∀ s ∈ ys, P s) ∧ H' D = some (.lst (ys.map V.str)) ∧ Fr b H1 H' ∧ Bag H' b (n0 + c * i)
theorem pvP_0 {b D : Addr} {H1 : Hp} {n0 c : Nat} {P : Str → Prop} (hB : Bag H1 b n0) (hD : H1 D = none) : PvP b D H1 n0 c P 0 (upd H1 D (.lst [])) :=
  ⟨hD, (hB.ne hD).symm, [], rfl, fun _ h => (nomatch h), upd_same, Fr.new hD, (hB.upd (hB.ne hD)).mono (by omega)⟩
theorem pvP_put {b D : Addr} {H1 H' H4 : Hp} {n0 c i : Nat} {P : Str → Prop} {s : Str} (p : PvP b D H1 n0 c P i H') (f4 : Fr b H' H4) (b4 : Bag H4 b (n0 + c * (i + 1))) (hs4 : P s) (hi : i < 100000) :
    ∃ acc, H4 D = some (.lst acc) ∧ acc.length < sizeLine ∧ PvP b D H1 n0 c P (i + 1) (upd H4 D (.lst (acc ++ [V.str s]))) := by
  obtain ⟨hD, n1, ys, hl, hs, hD', hF, hB'⟩ := p
  refine ⟨ys.map V.str, f4 D _ n1 hD', ?_, hD, n1, ys ++ [s], by rw [List.length_append, hl]; rfl, ?_, ?_, (hF.trans f4).upd_p hD, b4.upd n1.symm⟩
  · rw [List.length_map, hl]
    have : sizeLine = 16777216 := sizeLine_eq
    omega
  · intro x hx
    rcases List.mem_append.mp hx with h | h
    · exact hs x h
    · rw [List.mem_singleton.mp h]; exact hs4
  · rw [upd_same, List.map_append]; rfl
def One (s : Str) : Prop := ∃ c : Nat, s = ⟨#[c]⟩ ∧ 97 ≤ c ∧ c ≤ 122
theorem one_flat : ∀ {ys : List Str}, (∀ s ∈ ys, One s) → (ys.map tl).flatten.length = ys.length ∧ ∀ c ∈ (ys.map tl).flatten, 97 ≤ c ∧ c ≤ 122
  | [], _ => ⟨rfl, by simp⟩
  | y :: r, h => by
    obtain ⟨h1, h2⟩ := one_flat (ys := r) fun s hs => h s (List.mem_cons_of_mem _ hs)
    obtain ⟨c, rfl, c1, c2⟩ := h y List.mem_cons_self
    have e : tl (⟨#[c]⟩ : Str) = [c] := rfl
    rw [List.map_cons, List.flatten_cons, e]
    refine ⟨by rw [List.length_append, h1]; simp; omega, fun x hx => ?_⟩
    rcases List.mem_append.mp hx with q | q
    · rw [List.mem_singleton.mp q]; exact ⟨c1, c2⟩
    · exact h2 x q
/-- the j-th name of a stem -/
def Shp (S : List Nat) (a : Nat) (f s : Int) (j : Nat) (y : Str) : Prop := ∃ m, a + m ≤ 7 ∧ tl y = S.take a ++ ((97 + ((f + s * (j : Int)) % 26).toNat) :: (S.drop a).take m)
theorem Shp.len {S : List Nat} {a : Nat} {f s : Int} {j : Nat} {y : Str} (h : Shp S a f s j y) (hS : S.length = 7) (ha : a < 8) : ∃ m, a + m ≤ 7 ∧ (tl y).length = a + 1 + m := by
  obtain ⟨m, hm, e⟩ := h
  refine ⟨m, hm, ?_⟩
  rw [e, List.length_append, List.length_take, List.length_cons, List.length_take, List.length_drop, hS]
  omega
theorem Shp.name {S : List Nat} {a : Nat} {f s : Int} {j : Nat} {y : Str} (h : Shp S a f s j y) (hS : S.length = 7) (hc : ∀ c ∈ S, 97 ≤ c ∧ c ≤ 122) (ha : a < 8) : NameOk y := by
  obtain ⟨m, hm, hl⟩ := h.len hS ha
  obtain ⟨m', hm', e⟩ := h
  refine ⟨by omega, by omega, fun c hcm => ?_⟩
  rw [e] at hcm
  rcases List.mem_append.mp hcm with q | q
  · exact hc c (List.mem_of_mem_take q)
  · rcases List.mem_cons.mp q with q | q
    · have := emod_in (f + s * (j : Int)) (m := 26) (by decide)
      omega
    · exact hc c (List.mem_of_mem_drop (List.mem_of_mem_take q))
theorem Shp.at {S : List Nat} {a : Nat} {f s : Int} {j : Nat} {y : Str} (h : Shp S a f s j y) (hS : S.length = 7) (ha : a < 8) : (tl y)[a]? = some (97 + ((f + s * (j : Int)) % 26).toNat) := by
  obtain ⟨m, hm, e⟩ := h
  rw [e, List.getElem?_append_right (by rw [List.length_take]; omega), List.length_take, hS, Nat.min_eq_left (by omega), Nat.sub_self]
  rfl
def stepsL : List Int := [1, 3, 5, 7, 9, 11, 15, 17]
theorem step_ne {s : Int} (hs : s ∈ stepsL) {d : Nat} (h1 : 1 ≤ d) (h2 : d < 8) : s * (d : Int) % 26 ≠ 0 := by
  have h : (stepsL.all fun s => (List.range' 1 7).all fun d => decide (s * (d : Int) % 26 ≠ 0)) = true := by decide +kernel
  have h3 := List.all_eq_true.mp (List.all_eq_true.mp h s hs) d (by simp [List.mem_range']; exact ⟨d - 1, by omega, by omega⟩)
  exact of_decide_eq_true h3
theorem step_inj {f s : Int} (hs : s ∈ stepsL) {j k : Nat} (hjk : j < k) (hk : k < 8) : ((f + s * (j : Int)) % 26).toNat ≠ ((f + s * (k : Int)) % 26).toNat := by
  intro e
  have a1 := emod_in (f + s * (j : Int)) (m := 26) (by decide)
  have a2 := emod_in (f + s * (k : Int)) (m := 26) (by decide)
  have e2 : (f + s * (j : Int)) % 26 = (f + s * (k : Int)) % 26 := by omega
  have e3 : s * ((k - j : Nat) : Int) = s * (k : Int) - s * (j : Int) := by
    rw [← Int.mul_sub]
    congr 1
    omega
  refine step_ne hs (d := k - j) (by omega) (by omega) ?_
  rw [e3]
  omega
theorem nodup_of_key {α β : Type} {l : List α} (key : α → β) (h : ∀ (i j : Nat) (x y : α), i < j → l[i]? = some x → l[j]? = some y → key x ≠ key y) : l.Nodup := by
  rw [List.nodup_iff_pairwise_ne, List.pairwise_iff_getElem]
  intro i j hi hj hij e
  exact h i j _ _ hij (List.getElem?_eq_getElem hi) (List.getElem?_eq_getElem hj) (by rw [e])
def sp_names : Sp := fun vs H Q _ => ∃ (b : Addr) (n : Nat) (c : Int), vs = [.ref b, .int c] ∧ Bag H b n ∧ n + 30 ≤ 1000000 ∧ 0 ≤ c ∧ c ≤ 8 ∧
  ∀ (p : Addr) (ys : List Str) H', Fr b H H' → H p = none → p ≠ b → H' p = some (.lst (ys.map V.str)) → (ys.length : Int) = c → (∀ y ∈ ys, NameOk y) → ys.Nodup → Bag H' b (n + 30) → Q (.ref p) H'
theorem ok_l_names {P : Program} {w : World} {K : PySem.W.Frag} {mg : Str → Option Value} {base : Heap} (T : Txt P K mg) : FnOk P w K mg base CX0 2 T.f_l_names T.fd_l_names ["_law_bag_here", "_law_count"] (sp_names) := by
  refine T.F_l_names.ok sc_l_names (fun vs H Q E h => ?_) (fun cdv A outer s H vs Q E hr h => ?_)
  · obtain ⟨_, _, _, rfl, _⟩ := h; rfl
  · obtain ⟨b, n, c, rfl, hB, hn, c0, c8, q⟩ := h
    refine ⟨_, PSs.nox (pss_cons (ps_set (i := 2) sc_l_names.nd rfl (Or.inr rfl) pe_str)
      (pss_cons (ps_set (i := 4) sc_l_names.nd rfl (Or.inl rfl) (pe_join pe_str (pe_lc (own := [("_law_index", 3)]) (g := gName 3) rfl sc_l_names.nd (pi_range1 (by rfl) T.n_range (pa_cons pe_int pa_nil)) (blkOk_by (own := [("_law_index", 3)]) (N := N_l_names) (sc := defScope s_l_names) (by decide +kernel)) (fun _ _ _ _ _ => (pg_name (i := 3) sc_l_names.nd rfl (Or.inl rfl))) (fun _ _ _ _ _ => pts_nil) (fun _ _ _ _ _ => (pe_ix ix_str (pv 2) (pe_call (ok_l_take T) (hr.mono (by decide)) (by rfl) T.g_l_take T.F_l_take.kp (b_l_take T) .nil pass0 (pa_cons (pv 0) (pa_cons pe_int pa_nil))) (fun _ _ => rfl))))))
      (pss_cons (ps_par3 (i := 5) (j := 6) (l := 7) (by rfl) sc_l_names.nd rfl rfl rfl (by decide) (by decide) (by decide) rfl rfl rfl (pa_cons (pe_call (ok_l_take T) (hr.mono (by decide)) (by rfl) T.g_l_take T.F_l_take.kp (b_l_take T) .nil pass0 (pa_cons (pv 0) (pa_cons pe_int pa_nil))) (pa_cons (pe_call (ok_l_take T) (hr.mono (by decide)) (by rfl) T.g_l_take T.F_l_take.kp (b_l_take T) .nil pass0 (pa_cons (pv 0) (pa_cons pe_int pa_nil))) (pa_cons (pe_ix (show IxR _ (rIxL K) from ix_list) (pe_lst (pa_cons pe_int (pa_cons pe_int (pa_cons pe_int (pa_cons pe_int (pa_cons pe_int (pa_cons pe_int (pa_cons pe_int (pa_cons pe_int pa_nil))))))))) (pe_call (ok_l_take T) (hr.mono (by decide)) (by rfl) T.g_l_take T.F_l_take.kp (b_l_take T) .nil pass0 (pa_cons (pv 0) (pa_cons pe_int pa_nil))) (fun _ _ => rfl)) pa_nil))) (by rfl))
      (pss_cons (ps_set (i := 8) sc_l_names.nd rfl (Or.inl rfl) (pe_lst pa_nil))
      (pss_cons (ps_for PassesOwn.never rfl (pi_range1 (by rfl) T.n_range (pa_cons (pv 1) pa_nil)) (pg_name (i := 3) sc_l_names.nd rfl (Or.inl rfl)) (pss_cons (ps_set (i := 9) sc_l_names.nd rfl (Or.inl rfl) (pe_op op_add_str (pe_slice sl_str (pv 4) po_none (po_some (pv 5))) (pe_ix ix_str (pv 2) (pe_op op_mod (pe_op op_add (pv 6) (pe_op op_mul (pv 7) (pv 3))) pe_int) (fun _ _ => rfl))))
      (pss_one (ps_expr (pe_bm PySem.F.plainAttrs_list PySem.F.slot_list_append PySem.F.type_list_append mt_append (pv 8) (pa_cons (pe_op op_add_str (pv 9) (pe_slice sl_str (pv 4) (po_some (pv 5)) (po_some (pe_op op_add (pv 5) (pe_call (ok_l_take T) (hr.mono (by decide)) (by rfl) T.g_l_take T.F_l_take.kp (b_l_take T) .nil pass0 (pa_cons (pv 0) (pa_cons (pe_op op_sub pe_int (pv 5)) pa_nil))))))) pa_nil))))))
      (pss_cons (ps_if (PW.pt (pw_and (pt_cmpR op_gt (pv 1) pe_int (nomark _)) (pw_and (pt_cmpR op_lt (pe_callB call_len_str (by rfl) T.n_len (by decide +kernel) (pa_cons (pe_ix (show IxR _ (rIxL K) from ix_list) (pv 8) pe_int (fun _ _ => rfl)) pa_nil)) pe_int (nomark _)) (pw_and1 (pt_cmpR op_eq (pe_call (ok_l_take T) (hr.mono (by decide)) (by rfl) T.g_l_take T.F_l_take.kp (b_l_take T) .nil pass0 (pa_cons (pv 0) (pa_cons pe_int pa_nil))) pe_int (nomark _)))))) (pss_one (ps_asg (pe_op op_add_str (pe_ix (show IxR _ (rIxL K) from ix_list) (pv 8) pe_int (fun _ _ => rfl)) (pe_ix ix_str (pv 2) (pe_call (ok_l_take T) (hr.mono (by decide)) (by rfl) T.g_l_take T.F_l_take.kp (b_l_take T) .nil pass0 (pa_cons (pv 0) (pa_cons pe_int pa_nil))) (fun _ _ => rfl))) (pg_sub (pv 8) pe_int set_list))) pss_nil)
      (pss_one (ps_ret (pv 8))))))))), ?_⟩
    refine ⟨⟨_, rfl⟩, 7, rfl, by decide, by decide, fun D nD => lc_range (PvP b D H n 1 One) (pvP_0 hB nD) (fun i H' hi p => ⟨rfl, ?_⟩) (fun H2 p => ?_)⟩
    · obtain ⟨-, -, ys, -, -, -, -, hb'⟩ := _root_.id p
      refine ⟨_, rfl, _, rfl, b, _, 26, rfl, hb', by omega, by decide, by decide, fun d2 H3 f3 b3 d20 d21 => ?_⟩
      exact ⟨_, _, _, rfl, rfl, az_len, az_at d20 d21, pvP_put p f3 (b3.mono (by omega)) ⟨_, rfl, by omega, by omega⟩ (by omega)⟩
    · obtain ⟨hD0, nDb, ys, hl, hs, hD, f2, b2⟩ := p
      obtain ⟨o1, o2⟩ := one_flat hs
      have hjs := join_size (a := Str.ofString "") (L := 1) (fun s hs' => by obtain ⟨c, rfl, _⟩ := hs s hs'; exact Nat.le_refl _) (n := 7) (A := 0) (by rw [hl]; decide) (by decide +kernel)
      refine ⟨_, D, ys, rfl, rfl, .inl (SqL.of hD), by omega, ?_⟩
      have hst := tl_join0 ys
      generalize Txt.join (Str.ofString "") ys = stem at hst
      generalize hSS : (ys.map tl).flatten = S at hst o1 o2
      have hS7 : S.length = 7 := by rw [o1, hl]; rfl
      have hsl : stem.length = 7 := by rw [len_tl, hst, hS7]
      clear hjs hs hSS hD
      -- at, first, step
      refine ⟨_, rfl, b, _, 8, rfl, b2, by omega, by decide, by decide, fun d1 H3 f3 b3 d10 d11 => ?_⟩
      refine ⟨_, rfl, b, _, 26, rfl, b3, by omega, by decide, by decide, fun d2 H4 f4 b4 d20 d21 => ?_⟩
      refine ⟨lenk 8 rfl (by decide), fun p1 np1 => ?_⟩
      have nb1 := b4.ne np1
      refine ⟨_, rfl, b, _, 8, rfl, b4.upd nb1, by omega, by decide, by decide, fun d3 H5 f5 b5 d30 d31 => ?_⟩
      have hp1 := f5 p1 _ (Ne.symm nb1) upd_same
      obtain ⟨sv, hsv, _⟩ := atI_in (xs := stepsL) d30 (by show d3 < 8; exact d31)
      have hav' : atI (stepsL.map V.int) d3 = some (.int sv) := by
        have e : ((d3.toNat : Nat) : Int) = d3 := Int.toNat_of_nonneg d30
        have := atI_nat (xs := stepsL.map V.int) (j := d3.toNat) (v := .int sv) (by rw [List.getElem?_map, hsv]; rfl)
        rw [e] at this
        exact this
      have hsm : sv ∈ stepsL := List.mem_of_getElem? hsv
      refine ⟨p1, _, _, _, rfl, rfl, SqL.of hp1, hav', ?_⟩
      have F6 : Fr b H H5 := ((f2.trans f3).trans f4).trans ((Fr.new np1).trans f5)
      have B6 := b5
      refine ⟨_, _, _, rfl, ?_⟩
      generalize H5 = H6 at F6 B6
      obtain ⟨a, rfl⟩ := Int.eq_ofNat_of_zero_le d10
      have ha : a < 8 := by omega
      refine ⟨Nat.zero_le _, fun D2 nD2 => ?_⟩
      have nb3 := B6.ne nD2
      refine ⟨_, rfl, c, rfl, by omega, by omega, for_it walk_range (fun i σ H' => ∃ (ys : List Str) (xi x9 : Option V), σ = [some (.ref b), some (.int c), some (.str AZ), xi, some (.str stem), some (.int (a : Int)), some (.int d2), some (.int sv), some (.ref D2), x9] ∧
        Fr b H6 H' ∧ Bag H' b (n + 1 * 7 + 1 + 1 + 1 + i) ∧ H' D2 = some (.lst (ys.map V.str)) ∧ ys.length = i ∧ ∀ j y, ys[j]? = some y → Shp S a d2 sv j y) ?_ (fun _ _ _ _ _ => trivial) ?_ ?_⟩
      · exact ⟨[], _, _, rfl, Fr.new nD2, B6.upd nb3, upd_same, rfl, fun j y h => by simp at h⟩
      · intro i x σ H' H'' hi' pp yy
        obtain ⟨ys, xi, x9, rfl, f7, b7, hD7, hl7, hs7⟩ := pp
        obtain ⟨rfl, rfl⟩ := yy
        have hi8 : (i : Int) < c := by omega
        have e1 := tl_cut0 stem a
        have l1 := cutS_length stem none (some (a : Int))
        have sb : 1 ≤ sv ∧ sv ≤ 17 := by
          have : ∀ s ∈ stepsL, 1 ≤ s ∧ s ≤ 17 := by decide
          exact this sv hsm
        refine ⟨_, rfl, _, rfl, _, rfl, _, rfl, slen (by omega), _, rfl, _, rfl, _, rfl, _, rfl, _, _, rfl, rfl, .inl ⟨by omega, by omega⟩, _, _, rfl, rfl, _, _, rfl, rfl, (show (0 : Int) < 26 by decide), ?_⟩
        have m1 := emod_in (d2 + sv * (0 + (i : Nat))) (m := 26) (by decide)
        refine ⟨_, _, _, rfl, rfl, az_len, az_at m1.1 m1.2, _, _, rfl, rfl, slen (by have : (⟨#[97 + ((d2 + sv * (0 + (i : Nat))) % 26).toNat]⟩ : Str).length = 1 := rfl; omega), ?_⟩
        refine ⟨_, rfl, .inl ⟨rfl, _, SqL.of hD7⟩, _, rfl, _, rfl, _, rfl, ?_⟩
        refine ⟨_, rfl, _, rfl, _, rfl, _, rfl, _, _, rfl, rfl, b, _, _, rfl, b7, by omega, by omega, by omega, fun d7 H8 f8 b8 d70 d71 => ?_⟩
        obtain ⟨m, rfl⟩ := Int.eq_ofNat_of_zero_le d70
        have hD8 := f8 D2 _ (Ne.symm nb3) hD7
        refine ⟨_, _, rfl, rfl, _, rfl, _, rfl, slen (by omega), ?_⟩
        have l2 := cutS_length stem (some (a : Int)) (some ((a : Int) + (m : Int)))
        have e2 := tl_cut2 stem a (a + m) (by rw [hst, hS7]; omega)
        rw [Int.natCast_add, Nat.add_sub_cancel_left] at e2
        have l3 : (⟨#[97 + ((d2 + sv * (0 + (i : Nat))) % 26).toNat]⟩ : Str).length = 1 := rfl
        refine ⟨_, _, rfl, rfl, slen (by rw [app_len]; omega), D2, _, _, rfl, rfl, hD8, by rw [List.length_map, hl7, sizeLine_eq]; omega, ?_⟩
        refine ⟨ys ++ [(cutS stem none (some (a : Int)) ++ ⟨#[97 + ((d2 + sv * (0 + (i : Nat))) % 26).toNat]⟩) ++ cutS stem (some (a : Int)) (some ((a : Int) + (m : Int)))], _, _, rfl, (f7.trans f8).upd_p nD2, (b8.upd nb3).mono (by omega), by rw [upd_same, List.map_append]; rfl, by rw [List.length_append, hl7]; rfl, fun j y hj => ?_⟩
        by_cases hji : j < ys.length
        · rw [List.getElem?_append_left hji] at hj
          exact hs7 j y hj
        · have hjl : j < (ys ++ [(cutS stem none (some (a : Int)) ++ ⟨#[97 + ((d2 + sv * (0 + (i : Nat))) % 26).toNat]⟩) ++ cutS stem (some (a : Int)) (some ((a : Int) + (m : Int)))]).length := (List.getElem?_eq_some_iff.mp hj).1
          have ej : j = i := by rw [List.length_append, hl7] at hjl; simp at hjl; omega
          rw [List.getElem?_append_right (by omega), ej, hl7, Nat.sub_self] at hj
          have ey := Option.some.inj hj
          subst ey
          refine ⟨m, by omega, ?_⟩
          rw [tl_append, tl_append, e1, e2, hst, ej]
          show S.take a ++ [97 + ((d2 + sv * (0 + (i : Nat))) % 26).toNat] ++ (S.drop a).take m = _
          rw [Int.zero_add, List.append_assoc]
          rfl
      · intro σ H' pp
        obtain ⟨ys, xi, x9, rfl, f7, b7, hD7, hl7, hs7⟩ := pp
        have okn : ∀ y ∈ ys, NameOk y := fun y hy => by
          obtain ⟨j, hj⟩ := List.getElem?_of_mem hy
          exact (hs7 j y hj).name hS7 o2 ha
        have lt8 : ∀ {j : Nat} {y : Str}, ys[j]? = some y → j < 8 := fun h => by
          have := (List.getElem?_eq_some_iff.mp h).1
          omega
        have nd : ys.Nodup := nodup_of_key (fun y => (tl y)[a]?) fun i j x y hij hx hy e => by
          rw [(hs7 i x hx).at hS7 ha, (hs7 j y hy).at hS7 ha] at e
          exact step_inj (f := d2) hsm hij (lt8 hy) (by have := Option.some.inj e; omega)
        have nDH : H D2 = none := F6.free (Ne.symm nb3) nD2
        refine ⟨_, rfl, _, _, rfl, rfl, _, rfl, ite2 (fun c1 => ?_) (fun c1 => ⟨_, rfl, q D2 ys H' (F6.trans f7) nDH (Ne.symm nb3) hD7 (by omega) okn nd (b7.mono (by omega))⟩)⟩
        have hc1 := lt_of_dec c1
        have l0 : 0 < ys.length := by omega
        have y0 : ys[0]? = some ys[0] := List.getElem?_eq_getElem l0
        have a0 : atI (ys.map V.str) ((0 : Nat) : Int) = some (.str ys[0]) := atI_nat (by rw [List.getElem?_map, y0]; rfl)
        obtain ⟨m0, hm0, hlen0⟩ := (hs7 0 _ y0).len hS7 ha
        have sl0 : (ys[0]).length ≤ 8 := by rw [len_tl]; omega
        refine ⟨_, rfl, D2, _, _, _, rfl, rfl, SqL.of hD7, a0, _, rfl, slen (by omega), _, _, rfl, rfl, _, rfl, ite2 (fun c2 => ?_) (fun c2 => ⟨_, rfl, q D2 ys H' (F6.trans f7) nDH (Ne.symm nb3) hD7 (by omega) okn nd (b7.mono (by omega))⟩)⟩
        have hc2 := lt_of_dec c2
        refine ⟨_, rfl, b, _, 3, rfl, b7, by omega, by decide, by decide, fun d8 H8 f8 b8 d80 d81 => ?_⟩
        have hD8 := f8 D2 _ (Ne.symm nb3) hD7
        refine ⟨rfl, _, rfl, ite2 (fun c3 => ?_) (fun c3 => ⟨_, rfl, q D2 ys H8 ((F6.trans f7).trans f8) nDH (Ne.symm nb3) hD8 (by omega) okn nd (b8.mono (by omega))⟩)⟩
        refine ⟨_, rfl, D2, _, _, _, rfl, rfl, SqL.of hD8, a0, _, rfl, _, rfl, b, _, 26, rfl, b8, by omega, by decide, by decide, fun d9 H9 f9 b9 d90 d91 => ?_⟩
        have hD9 := f9 D2 _ (Ne.symm nb3) hD8
        have l3 : (⟨#[97 + d9.toNat]⟩ : Str).length = 1 := rfl
        refine ⟨_, _, _, rfl, rfl, az_len, az_at d90 d91, _, _, rfl, rfl, slen (by omega), _, rfl, D2, _, 1, 1, rfl, rfl, hD9, by unfold ixN; rw [if_pos (by decide), if_pos (by rw [List.length_map]; omega)]; rfl, ?_⟩
        have sh : ∀ (j : Nat) (y : Str), (ys.set 1 (ys[0] ++ ⟨#[97 + d9.toNat]⟩))[j]? = some y → (j = 1 ∧ y = ys[0] ++ ⟨#[97 + d9.toNat]⟩) ∨ (j ≠ 1 ∧ ys[j]? = some y) := fun j y hj => by
          by_cases h1 : j = 1
          · subst h1
            rw [List.getElem?_set_self (by omega)] at hj
            exact .inl ⟨rfl, (Option.some.inj hj).symm⟩
          · rw [List.getElem?_set_ne (Ne.symm h1)] at hj
            exact .inr ⟨h1, hj⟩
        have tl1 : tl (ys[0] ++ ⟨#[97 + d9.toNat]⟩) = tl ys[0] ++ [97 + d9.toNat] := tl_append _ _
        have at0 := (hs7 0 _ y0).at hS7 ha
        have at1 : (tl (ys[0] ++ ⟨#[97 + d9.toNat]⟩))[a]? = some (97 + ((d2 + sv * ((0 : Nat) : Int)) % 26).toNat) := by
          rw [tl1, List.getElem?_append_left (List.getElem?_eq_some_iff.mp at0).1, at0]
        refine ⟨_, rfl, q D2 (ys.set 1 (ys[0] ++ ⟨#[97 + d9.toNat]⟩)) _ (((F6.trans f7).trans (f8.trans f9)).upd_p nDH) nDH (Ne.symm nb3) (by rw [upd_same, List.map_set]) (by rw [List.length_set]; omega) (fun y hy => ?_) ?_ ((b9.upd nb3).mono (by omega))⟩
        · obtain ⟨j, hj⟩ := List.getElem?_of_mem hy
          rcases sh j y hj with ⟨_, rfl⟩ | ⟨_, hj⟩
          · obtain ⟨p1, p2, p3⟩ := okn _ (List.getElem_mem l0)
            have e8 : (tl ys[0]).length < 8 := by rw [show (tl ys[0]).length = ys[0].length from (len_tl _).symm]; exact Int.ofNat_lt.mp hc2
            refine ⟨by rw [tl1, List.length_append]; omega, by rw [tl1, List.length_append]; show (tl ys[0]).length + 1 ≤ 8; omega, fun c hc => ?_⟩
            rw [tl1] at hc
            rcases List.mem_append.mp hc with h | h
            · exact p3 c h
            · rw [List.mem_singleton.mp h]; omega
          · exact okn y (List.mem_of_getElem? hj)
        · refine nodup_of_key (fun y => y) fun i j x y hij hx hy e => ?_
          subst e
          rcases sh i x hx with ⟨i1, ex⟩ | ⟨i1, hi⟩ <;> rcases sh j x hy with ⟨j1, ey⟩ | ⟨j1, hj⟩
          · omega
          · have q1 := (hs7 j x hj).at hS7 ha
            rw [ex, at1] at q1
            exact step_inj (f := d2) hsm (j := 0) (k := j) (by omega) (lt8 hj) (by have := Option.some.inj q1; omega)
          · have i0 : i = 0 := by omega
            subst i0
            rw [y0] at hi
            have := Option.some.inj hi
            rw [← this] at ey
            have l9 := congrArg (fun z => (tl z).length) ey
            simp only [tl1, List.length_append, List.length_cons, List.length_nil] at l9
            omega
          · have n1 := (List.nodup_iff_pairwise_ne.mp nd)
            rw [List.pairwise_iff_getElem] at n1
            obtain ⟨li, gi⟩ := List.getElem?_eq_some_iff.mp hi
            obtain ⟨lj, gj⟩ := List.getElem?_eq_some_iff.mp hj
            exact n1 i j li lj hij (by rw [gi, gj])

end K09
namespace K09
open PySem PySem.Spec PyProof.Rows L2 TL
/-! ### a scope: some of the names, in a drawn order -/
theorem seq_at {n : Nat} {i : Int} (h0 : 0 ≤ i) (h1 : i < (n : Int)) : seqIndex? i n = some i.toNat := by
  refine (ixN_seq (j := i.toNat) ?_).1
  unfold ixN
  rw [if_pos h0, if_pos h1]
theorem map_erase {α β : Type} (f : α → β) : ∀ (l : List α) (k : Nat), (l.map f).eraseIdx k = (l.eraseIdx k).map f
  | [], _ => rfl
  | _ :: _, 0 => rfl
  | a :: r, k + 1 => congrArg (f a :: ·) (map_erase f r k)
def sp_scope (K : PySem.W.Frag) : Sp := fun vs H Q _ => ∃ (b a : Addr) (n : Nat) (ns : List Str), vs = [.ref b, .ref a] ∧ Bag H b n ∧ n + 10 ≤ 1000000 ∧ SqL K H a (ns.map V.str) ∧ 1 ≤ ns.length ∧ ns.length ≤ 8 ∧ ns.Nodup ∧
  ∀ (p : Addr) (sc : List Str) H', Fr b H H' → H p = none → p ≠ b → H' p = some (.lst (sc.map V.str)) → 1 ≤ sc.length → sc.length ≤ 4 → (∀ x ∈ sc, x ∈ ns) → sc.Nodup → Bag H' b (n + 10) → Q (.ref p) H'
theorem ok_l_scope {P : Program} {w : World} {K : PySem.W.Frag} {mg : Str → Option Value} {base : Heap} (T : Txt P K mg) : FnOk P w K mg base CX0 2 T.f_l_scope T.fd_l_scope ["_law_bag_here", "_law_names_here"] (sp_scope K) := by
  refine T.F_l_scope.ok sc_l_scope (fun vs H Q E h => ?_) (fun cdv A outer s H vs Q E hr h => ?_)
  · obtain ⟨_, _, _, _, rfl, _⟩ := h; rfl
  · obtain ⟨b, a, n, ns, rfl, hB, hn, hS, n1, n8, nd, q⟩ := h
    refine ⟨_, PSs.nox (pss_cons (ps_set (i := 2) sc_l_scope.nd rfl (Or.inr rfl) (pe_callTy (show CallR _ _ (rListOf K) from call_list_of) (by rfl) T.n_list (by decide +kernel) (pa_cons (pv 1) pa_nil)))
      (pss_cons (ps_set (i := 3) sc_l_scope.nd rfl (Or.inl rfl) (pe_callB (call_min2 rfl) (by rfl) T.n_min (by decide +kernel) (pa_cons pe_int (pa_cons (pe_callB (show CallR _ _ (rLenSeq K) from call_len_seq) (by rfl) T.n_len (by decide +kernel) (pa_cons (pv 2) pa_nil)) pa_nil))))
      (pss_one (ps_ret (pe_lc (own := [("_law_index", 4)]) (g := gName 4) rfl sc_l_scope.nd (pi_range1 (by rfl) T.n_range (pa_cons (pe_op op_add pe_int (pe_call (ok_l_take T) (hr.mono (by decide)) (by rfl) T.g_l_take T.F_l_take.kp (b_l_take T) .nil pass0 (pa_cons (pv 0) (pa_cons (pv 3) pa_nil)))) pa_nil)) (blkOk_by (own := [("_law_index", 4)]) (N := N_l_scope) (sc := defScope s_l_scope) (by decide +kernel)) (fun _ _ _ _ _ => (pg_name (i := 4) sc_l_scope.nd rfl (Or.inl rfl))) (fun _ _ _ _ _ => pts_nil) (fun _ _ _ _ _ => (show PE _ _ (tBM K "list" rPopAt _ _) from pe_bm PySem.F.plainAttrs_list PySem.F.slot_list_pop PySem.F.type_list_pop mt_popAt (pv 2) (pa_cons (pe_call (ok_l_take T) (hr.mono (by decide)) (by rfl) T.g_l_take T.F_l_take.kp (b_l_take T) .nil pass0 (pa_cons (pv 0) (pa_cons (pe_callB (show CallR _ _ (rLenSeq K) from call_len_seq) (by rfl) T.n_len (by decide +kernel) (pa_cons (pv 2) pa_nil)) pa_nil))) pa_nil)))))))), ?_⟩
    refine ⟨_, rfl, a, _, rfl, .inl hS, fun l nl => ?_⟩
    have nbl := hB.ne nl
    have hl : upd H l (.lst (ns.map V.str)) l = some (.lst (ns.map V.str)) := upd_same
    refine ⟨_, rfl, l, _, rfl, .inl (SqL.of hl), _, _, rfl, ?_⟩
    refine ⟨_, rfl, _, rfl, b, n, _, rfl, hB.upd nbl, by omega, ?_, ?_, fun d H2 f2 b2 d0 d1 => ?_⟩
    · rw [List.length_map]; split <;> omega
    · rw [List.length_map]; split <;> omega
    have d4 : d < 4 ∧ d < ns.length := by
      rw [List.length_map] at d1
      split at d1 <;> omega
    have hl2 := f2 l _ (Ne.symm nbl) hl
    have F2 : Fr b H H2 := (Fr.new nl).trans f2
    refine ⟨_, _, rfl, rfl, _, rfl, by omega, by omega, fun D nD => lc_range (fun i H' => ∃ sc rest : List Str, H' D = some (.lst (sc.map V.str)) ∧ H' l = some (.lst (rest.map V.str)) ∧ (sc ++ rest).Perm ns ∧ sc.length = i ∧ Fr b H H' ∧ Bag H' b (n + 1 + i)) ?_ (fun i H' hi p => ⟨rfl, ?_⟩) (fun H3 p => ?_)⟩
    · exact ⟨[], ns, upd_same, by rw [upd_ne (ne_of_none hl2 nD)]; exact hl2, .refl _, rfl, F2.upd_p (F2.free (Ne.symm (b2.ne nD)) nD), (b2.upd (b2.ne nD)).mono (by omega)⟩
    · obtain ⟨sc, rest, hD, hl3, pm, ls, f3, b3⟩ := p
      have hlen : sc.length + rest.length = ns.length := by rw [← pm.length_eq, List.length_append]
      have hr1 : 1 ≤ rest.length := by omega
      refine ⟨_, rfl, .inl ⟨rfl, _, SqL.of hl3⟩, _, rfl, _, rfl, l, _, rfl, .inl (SqL.of hl3), b, _, _, rfl, b3, by omega, by rw [List.length_map]; omega, by rw [List.length_map]; omega, fun k H4 f4 b4 k0 k1 => ?_⟩
      rw [List.length_map] at k1
      have hl4 := f4 l _ (Ne.symm nbl) hl3
      have nbD : b ≠ D := b2.ne nD
      have hD4 := f4 D _ (Ne.symm nbD) hD
      have nDl : D ≠ l := (ne_of_none hl2 nD).symm
      have hkl : k.toNat < rest.length := by omega
      have hk : rest[k.toNat]? = some (rest[k.toNat]'hkl) := List.getElem?_eq_getElem hkl
      refine ⟨l, _, k, k.toNat, _, rfl, rfl, hl4, by omega, by omega, seq_at k0 (by rw [List.length_map]; omega), by rw [List.getElem?_map, hk]; rfl, ?_⟩
      refine ⟨sc.map V.str, by rw [upd_ne nDl]; exact hD4, by rw [List.length_map, sizeLine_eq]; omega, sc ++ [rest[k.toNat]'hkl], rest.eraseIdx k.toNat, ?_, ?_, ?_, ?_, ?_, ?_⟩
      · rw [upd_same, List.map_append]; rfl
      · rw [upd_ne (Ne.symm nDl), upd_same, map_erase]
      · rw [List.append_assoc]
        exact ((popP hk).append_left sc).trans pm
      · rw [List.length_append, ls]; rfl
      · exact ((f3.trans f4).upd_p nl).upd_p (F2.free (Ne.symm nbD) nD)
      · exact ((b4.upd nbl).upd nbD).mono (by omega)
    · obtain ⟨sc, rest, hD, hl3, pm, ls, f3, b3⟩ := p
      have nd2 := pm.nodup_iff.mpr nd
      exact q D sc H3 f3 (F2.free (Ne.symm (b2.ne nD)) nD) (Ne.symm (b2.ne nD)) hD (by omega) (by omega) (fun x hx => pm.mem_iff.mp (List.mem_append_left _ hx)) (List.nodup_append.mp nd2).1 (b3.mono (by omega))

end K09
namespace K09
open PySem PySem.Spec PyProof.Rows L2 TL
/-! ### data: shapes, equality -/
def Shd (k : Nat) (d : PyData) : Prop := d.canLay0 = true ∧ d.depth ≤ k
theorem Shd.shaped {k : Nat} {d : PyData} (h : Shd k d) (hk : k ≤ 64) : SeqAt.shaped d = true := by
  unfold SeqAt.shaped
  rw [h.1, Bool.true_and]
  exact decide_eq_true (Nat.le_trans h.2 hk)
theorem shd_all {k : Nat} : ∀ {ds : List PyData}, (∀ d ∈ ds, Shd k d) → PyData.canLayAll0 ds = true ∧ PyData.depthAll ds ≤ k
  | [], _ => ⟨by simp [PyData.canLayAll0], by simp [PyData.depthAll]⟩
  | d :: r, h => by
    obtain ⟨h1, h2⟩ := shd_all (ds := r) fun x hx => h x (List.mem_cons_of_mem _ hx)
    obtain ⟨h3, h4⟩ := h d List.mem_cons_self
    exact ⟨by simp only [PyData.canLayAll0]; rw [h3, h1]; rfl, by simp only [PyData.depthAll]; omega⟩
theorem Shd.tuple {k : Nat} {ds : List PyData} (h : ∀ d ∈ ds, Shd k d) : Shd (k + 1) (.tuple ds) := by
  obtain ⟨h1, h2⟩ := shd_all h
  exact ⟨by simp only [PyData.canLay0]; exact h1, by simp only [PyData.depth]; omega⟩
theorem Shd.list {k : Nat} {ds : List PyData} (h : ∀ d ∈ ds, Shd k d) : Shd (k + 1) (.list ds) := by
  obtain ⟨h1, h2⟩ := shd_all h
  exact ⟨by simp only [PyData.canLay0]; exact h1, by simp only [PyData.depth]; omega⟩
theorem Shd.int (i : Int) : Shd 0 (.int i) := ⟨by simp only [PyData.canLay0], by simp only [PyData.depth]; omega⟩
theorem Shd.str {s : Str} (h : NameOk s) : Shd 0 (.str s) := by
  refine ⟨?_, by simp only [PyData.depth]; omega⟩
  simp only [PyData.canLay0]
  show s.cps.all _ = true
  rw [Array.all_eq_true']
  intro c hc
  have := h.2.2 c (Array.mem_toList_iff.mpr hc)
  exact decide_eq_true (by omega)
def tupD (ns : List Int) : PyData := .tuple (ns.map PyData.int)
theorem shd_tup (ns : List Int) : Shd 1 (tupD ns) := Shd.tuple fun d hd => by
  obtain ⟨i, _, rfl⟩ := List.mem_map.mp hd
  exact Shd.int i
theorem shd_tups (l : List (List Int)) : Shd 2 (.list (l.map tupD)) := Shd.list fun d hd => by
  obtain ⟨i, _, rfl⟩ := List.mem_map.mp hd
  exact shd_tup i
theorem eqv_ints : ∀ ns ms : List Int, PyData.eqvAll (ns.map PyData.int) (ms.map PyData.int) = decide (ns = ms)
  | [], [] => by simp [PyData.eqvAll]
  | [], _ :: _ => by simp [PyData.eqvAll]
  | _ :: _, [] => by simp [PyData.eqvAll]
  | n :: ns, m :: ms => by
    simp only [List.map_cons, PyData.eqvAll, PyData.eqv]
    rw [eqv_ints ns ms]
    by_cases h : n = m
    · subst h; simp
    · have : (n == m) = false := by simpa using h
      rw [this, Bool.false_and]
      symm
      exact decide_eq_false fun e => h (List.cons.inj e).1
theorem eqv_tup (ns ms : List Int) : PyData.eqv (tupD ns) (tupD ms) = decide (ns = ms) := by
  unfold tupD
  simp only [PyData.eqv]
  exact eqv_ints ns ms
theorem any_tups (l : List (List Int)) (ns : List Int) : ((l.map tupD).any fun z => PyData.eqv z (tupD ns)) = decide (ns ∈ l) := by
  induction l with
  | nil => rfl
  | cons a r ih =>
    rw [List.map_cons, List.any_cons, ih, eqv_tup]
    by_cases h : a = ns
    · subst h; simp
    · rw [decide_eq_false h, Bool.false_or]
      by_cases h2 : ns ∈ r
      · rw [decide_eq_true h2, decide_eq_true (List.mem_cons_of_mem _ h2)]
      · rw [decide_eq_false h2, decide_eq_false fun z => by rcases List.mem_cons.mp z with z | z; exact h z.symm; exact h2 z]
theorem dp_ints {K : PySem.W.Frag} {H : Hp} : ∀ ns : List Int, DpAll K H (ns.map V.int) (ns.map PyData.int)
  | [] => .nil
  | n :: r => .cons (.int n) (dp_ints r)
theorem dp_tup {K : PySem.W.Frag} {H : Hp} {G : Addr → Prop} {x : V} {ns : List Int} (h : isTupI H G x ns) : Dp K H x (tupD ns) := by
  obtain ⟨t, rfl, _, h⟩ := h
  exact .tup (.inl (.inl h)) (dp_ints ns)
theorem dp_all {K : PySem.W.Frag} {H : Hp} {α : Type} {F : V → α → Prop} {f : α → PyData} (hf : ∀ x y, F x y → Dp K H x (f y)) : ∀ {xs : List V} {ys : List α}, Paired F xs ys → DpAll K H xs (ys.map f)
  | _, _, .nil => .nil
  | _, _, .cons r t => .cons (hf _ _ r) (dp_all hf t)
/-! ### bad tuples: distinct tuples of values of a scope -/
def rowVals (kvs : List (Key × V)) (sc : List Str) (sz : Str → Int) : Prop := ∀ x ∈ sc, valV kvs (Sum.inr x) = some (.int (sz x)) ∧ 1 ≤ sz x ∧ sz x ≤ 6
def okVals (sc : List Str) (sz : Str → Int) (ns : List Int) : Prop := ns.length = sc.length ∧ ∀ (i : Nat) (x : Str) (v : Int), sc[i]? = some x → ns[i]? = some v → 0 ≤ v ∧ v < sz x
def sp_tuples (K : PySem.W.Frag) : Sp := fun vs H Q _ => ∃ (b d a : Addr) (n : Nat) (most : Int) (kvs : List (Key × V)) (sc : List Str) (sz : Str → Int), vs = [.ref b, .ref d, .ref a, .int most] ∧ Bag H b n ∧ n + 60 ≤ 1000000 ∧
  H d = some (.dK kvs) ∧ (SqL K H a (sc.map V.str) ∨ SqT K H a (sc.map V.str)) ∧ a ≠ b ∧ sc.length ≤ 4 ∧ rowVals kvs sc sz ∧ 0 ≤ most ∧ most ≤ 12 ∧
  ∀ (p : Addr) (ys : List V) (bad : List (List Int)) H', Fr b H H' → H p = none → p ≠ b → H' p = some (.lst ys) → Paired (isTupI H' fun t => H t = none ∧ t ≠ b) ys bad → bad.length ≤ 12 → bad.Nodup → (∀ ns ∈ bad, okVals sc sz ns) → Bag H' b (n + 60) → Q (.ref p) H'
theorem ok_l_tuples {P : Program} {w : World} {K : PySem.W.Frag} {mg : Str → Option Value} {base : Heap} (T : Txt P K mg) : FnOk P w K mg base CX0 2 T.f_l_tuples T.fd_l_tuples ["_law_bag_here", "_law_sizes", "_law_scope_here", "_law_most"] (sp_tuples K) := by
  refine T.F_l_tuples.ok sc_l_tuples (fun vs H Q E h => ?_) (fun cdv A outer s H vs Q E hr h => ?_)
  · obtain ⟨_, _, _, _, _, _, _, _, rfl, _⟩ := h; rfl
  · obtain ⟨b, d, a, n, most, kvs, sc, sz, rfl, hB, hn, hd, hS, nab, sc4, hv, m0, m12, q⟩ := h
    have ndb : d ≠ b := by
      obtain ⟨x, y, z, e0, _⟩ := id hB
      exact ne_of hd e0 (fun z => by cases z)
    refine ⟨_, PSs.nox (pss_cons (ps_set (i := 4) sc_l_tuples.nd rfl (Or.inl rfl) (pe_lst pa_nil))
      (pss_cons (ps_for PassesOwn.never rfl (pi_range1 (by rfl) T.n_range (pa_cons (pe_call (ok_l_take T) (hr.mono (by decide)) (by rfl) T.g_l_take T.F_l_take.kp (b_l_take T) .nil pass0 (pa_cons (pv 0) (pa_cons (pe_op op_add (pv 3) pe_int) pa_nil))) pa_nil)) (pg_name (i := 5) sc_l_tuples.nd rfl (Or.inl rfl)) (pss_cons (ps_set (i := 6) sc_l_tuples.nd rfl (Or.inl rfl) (pe_callTy (show CallR _ _ (rTupOf K) from call_tuple_of) (by rfl) T.n_tuple (by decide +kernel) (pa_cons (pe_lc (own := [("_law_name", 7)]) (g := gName 7) rfl sc_l_tuples.nd (pi_or (pi_list (pv 2)) (pi_tup (pv 2))) (blkOk_by (own := [("_law_name", 7)]) (N := N_l_tuples) (sc := defScope s_l_tuples) (by decide +kernel)) (fun _ _ _ _ _ => (pg_name (i := 7) sc_l_tuples.nd rfl (Or.inl rfl))) (fun _ _ _ _ _ => pts_nil) (fun _ _ _ _ _ => (pe_call (ok_l_take T) (hr.mono (by decide)) (by rfl) T.g_l_take T.F_l_take.kp (b_l_take T) .nil pass0 (pa_cons (pv 0) (pa_cons (pe_dget (hu_of hr) (pv 1) (pv 7) (fun _ _ => rfl)) pa_nil))))) pa_nil)))
      (pss_one (ps_if (pt_cmpR (show OpR _ (compareOp .NotIn) (rNotInD K) from op_notInD (hu65 hr)) (pv 6) (pv 4) (by first | rfl | with_unfolding_all rfl)) (pss_one (ps_expr (pe_bm PySem.F.plainAttrs_list PySem.F.slot_list_append PySem.F.type_list_append mt_append (pv 4) (pa_cons (pv 6) pa_nil)))) pss_nil))))
      (pss_one (ps_ret (pv 4))))), ?_⟩
    refine ⟨Nat.zero_le _, fun p np => ?_⟩
    have nbp := hB.ne np
    refine ⟨_, rfl, _, rfl, _, _, rfl, rfl, b, n, _, rfl, hB.upd nbp, by omega, by omega, by omega, fun c H1 f1 b1 c0 c1 => ?_⟩
    have hp1 := f1 p _ (Ne.symm nbp) upd_same
    have F1 : Fr b H H1 := (Fr.new np).trans f1
    refine ⟨c, rfl, by omega, by omega, for_it walk_range (fun i σ H' => ∃ (ys : List V) (bad : List (List Int)) (x5 x6 : Option V), σ = [some (.ref b), some (.ref d), some (.ref a), some (.int most), some (.ref p), x5, x6, none] ∧ Fr b H H' ∧ Bag H' b (n + 1 + 4 * i) ∧
      H' p = some (.lst ys) ∧ Paired (isTupI H' fun t => H t = none ∧ t ≠ b) ys bad ∧ bad.length ≤ i ∧ bad.Nodup ∧ ∀ ns ∈ bad, okVals sc sz ns) ?_ (fun _ _ _ _ _ => trivial) ?_ ?_⟩
    · exact ⟨[], [], _, _, rfl, F1, b1, hp1, .nil, Nat.zero_le _, .nil, fun _ h => by cases h⟩
    · intro i x σ H' H'' hi' pp yy
      obtain ⟨ys, bad, x5, x6, rfl, f2, b2, hp2, pd, lb, nd, ok⟩ := pp
      obtain ⟨rfl, rfl⟩ := yy
      have ka : ∀ {H3 : Hp}, Fr b H H3 → Kp K a H H3 := fun f => Kp.at fun o e => f a o nab e
      refine or_walk (fun R' h => ⟨_, rfl, h⟩) ((ka f2).sq hS) fun J G w g D nD => ?_
      have nbD := b2.ne nD
      have nDH : H D = none := f2.free (Ne.symm nbD) nD
      refine lc_it w (fun j H3 => ∃ ns : List Int, H3 D = some (.lst (ns.map V.int)) ∧ ns.length = j ∧ Fr b H'' H3 ∧ Bag H3 b (n + 1 + 4 * i + j) ∧ ∀ (k : Nat) (x : Str) (v : Int), sc[k]? = some x → ns[k]? = some v → 0 ≤ v ∧ v < sz x) ?_ ?_ ?_ ?_
      · exact ⟨[], upd_same, rfl, Fr.new nD, (b2.upd nbD).mono (by omega), fun k x v _ h => by simp at h⟩
      · rintro j H3 _ ⟨ns, _, _, f3, _, _⟩
        exact g H3 (Kp.at fun o e => f3 a o nab e)
      · rintro j x H3 H4 hj ⟨ns, hD, ln, f3, b3, okv⟩ ⟨rfl, hx⟩
        rw [List.length_map] at hj
        rw [List.getElem?_map] at hx
        obtain ⟨y, hy, rfl⟩ : ∃ y, sc[j]? = some y ∧ x = .str y := by
          cases e : sc[j]? with
          | none => rw [e] at hx; cases hx
          | some y => rw [e] at hx; exact ⟨y, rfl, (Option.some.inj hx).symm⟩
        obtain ⟨hv1, hv2, hv3⟩ := hv y (List.mem_of_getElem? hy)
        have hd4 := f3 d _ ndb (f2 d _ ndb hd)
        have dg : DGet H4 d (.str y) (some (.int (sz y))) := by rw [← hv1]; exact DGet.k (k := Sum.inr y) hd4
        refine ⟨rfl, _, rfl, _, rfl, _, rfl, d, _, rfl, dg, b, _, _, rfl, b3, by omega, by omega, by omega, fun v H5 f5 b5 v0 v1 => ?_⟩
        refine ⟨ns.map V.int, f5 D _ (Ne.symm nbD) hD, by rw [List.length_map, sizeLine_eq]; omega, ns ++ [v], by rw [upd_same, List.map_append]; rfl, by rw [List.length_append, ln]; rfl, (f3.trans f5).upd_p nD, (b5.upd nbD).mono (by omega), fun k x' v' h1 h2 => ?_⟩
        by_cases hk : k < ns.length
        · rw [List.getElem?_append_left hk] at h2
          exact okv k x' v' h1 h2
        · have ek : k = j := by
            have := (List.getElem?_eq_some_iff.mp h2).1
            rw [List.length_append] at this
            simp at this
            omega
          subst ek
          rw [List.getElem?_append_right (by omega), ln, Nat.sub_self] at h2
          rw [hy] at h1
          cases h1
          cases h2
          exact ⟨v0, v1⟩
      · rintro H3 ⟨ns, hD, ln, f3, b3, okv⟩
        rw [List.length_map] at ln b3
        refine ⟨D, _, rfl, .inl ⟨SqL.of hD, fun t nt => ?_⟩⟩
        have nbt := b3.ne nt
        have ntD : D ≠ t := ne_of_none hD nt
        have f4 : Fr b H'' (upd H3 t (.tup (ns.map V.int))) := f3.upd_p (f3.free (Ne.symm nbt) nt)
        have F4 : Fr b H (upd H3 t (.tup (ns.map V.int))) := f2.trans f4
        have b4 : Bag (upd H3 t (.tup (ns.map V.int))) b (n + 1 + 4 * (i + 1)) := (b3.upd nbt).mono (by omega)
        have ht : upd H3 t (.tup (ns.map V.int)) t = some (.tup (ns.map V.int)) := upd_same
        have ntH : H t = none ∧ t ≠ b := ⟨f2.free (Ne.symm nbt) (f3.free (Ne.symm nbt) nt), Ne.symm nbt⟩
        generalize upd H3 t (.tup (ns.map V.int)) = H5 at f4 F4 b4 ht
        have hp5 := f4 p _ (Ne.symm nbp) hp2
        have pd5 := Paired.mono (fun _ _ z => isTupI.mv z (Mv.of_fr f4) fun a ha e => ha.2 e) pd
        have t5 : isTupI H5 (fun t => H t = none ∧ t ≠ b) (.ref t) ns := ⟨t, rfl, ntH, ht⟩
        refine ⟨_, rfl, _, rfl, tupD ns, bad.map tupD, dp_tup t5, .lst (SqL.of hp5) (dp_all (fun _ _ z => dp_tup z) pd5), (shd_tup ns).shaped (by decide), (shd_tups bad).shaped (by decide), _, rfl, ?_⟩
        rw [any_tups]
        by_cases hm : ns ∈ bad
        · rw [decide_eq_true hm]
          exact iteF ⟨ys, bad, _, _, rfl, F4, b4, hp5, pd5, by omega, nd, ok⟩
        · rw [decide_eq_false hm]
          refine iteT ⟨_, rfl, .inl ⟨rfl, _, SqL.of hp5⟩, _, rfl, p, _, _, rfl, rfl, hp5, by have := pd5.length; rw [this, sizeLine_eq]; omega, ?_⟩
          have np5 : ∀ a, (H a = none ∧ a ≠ b) → a ≠ p → True := fun _ _ _ => trivial
          refine ⟨ys ++ [.ref t], bad ++ [ns], _, _, rfl, F4.upd_p np, b4.upd nbp, upd_same, ?_, by rw [List.length_append]; simp; omega, ?_, ?_⟩
          · have k5 : ∀ (x : V) (ms : List Int), isTupI H5 (fun t => H t = none ∧ t ≠ b) x ms → isTupI (upd H5 p (.lst (ys ++ [.ref t]))) (fun t => H t = none ∧ t ≠ b) x ms := fun x ms z => by
              obtain ⟨u, e, gu, hu⟩ := z
              refine ⟨u, e, gu, ?_⟩
              rw [upd_ne (ne_of hu hp5 (by simp))]
              exact hu
            exact Paired.snoc (Paired.mono (fun x ms z => k5 x ms z) pd5) (k5 _ _ t5)
          · rw [List.nodup_append]
            exact ⟨nd, by simp, fun x hx y hy e => hm (by rw [List.mem_singleton.mp hy] at e; rw [← e]; exact hx)⟩
          · intro ms hms
            rcases List.mem_append.mp hms with h | h
            · exact ok ms h
            · rw [List.mem_singleton.mp h]; exact ⟨ln, okv⟩
    · intro σ H' pp
      obtain ⟨ys, bad, x5, x6, rfl, f2, b2, hp2, pd, lb, nd, ok⟩ := pp
      exact ⟨_, rfl, q p ys bad H' f2 np (Ne.symm nbp) hp2 pd (by omega) nd ok (b2.mono (by omega))⟩

end K09
namespace K09
open PySem PySem.Spec PyProof.Rows L2 TL
/-! ### variables and events, drawn -/
def NewTo (H : Hp) (b : Addr) : Addr → Prop := fun t => H t = none ∧ t ≠ b
theorem ints_at {ns : List Int} {i : Int} (h0 : 0 ≤ i) (h1 : i < (ns.length : Int)) : ∃ v : Int, atI (ns.map V.int) i = some (.int v) ∧ v ∈ ns := by
  obtain ⟨v, hv, _⟩ := atI_in (xs := ns) h0 h1
  refine ⟨v, ?_, List.mem_of_getElem? hv⟩
  have e : ((i.toNat : Nat) : Int) = i := Int.toNat_of_nonneg h0
  have := atI_nat (xs := ns.map V.int) (j := i.toNat) (v := .int v) (by rw [List.getElem?_map, hv]; rfl)
  rw [e] at this
  exact this
def kvL (L : List (Str × Int)) : List (Key × V) := L.map fun q => (Sum.inr q.1, V.int q.2)
theorem kvL_val (L : List (Str × Int)) (x : Str) : valV (kvL L) (Sum.inr x) = (L.find? fun q => decide (q.1 = x)).map fun q => V.int q.2 := by
  unfold kvL valV
  rw [List.find?_map, Option.map_map]
  have e : ((fun kv : Key × V => decide (kv.1 = Sum.inr x)) ∘ fun q : Str × Int => ((Sum.inr q.1 : Key), V.int q.2)) = fun q => decide (q.1 = x) := by
    funext q
    show decide ((Sum.inr q.1 : Key) = Sum.inr x) = _
    by_cases h : q.1 = x
    · rw [h]; simp
    · rw [decide_eq_false h, decide_eq_false fun z => h (Sum.inr.inj z)]
  rw [e]
  rfl
theorem find_mem {L : List (Str × Int)} {x : Str} (h : x ∈ L.map (·.1)) : ∃ q ∈ L, q.1 = x ∧ (L.find? fun q => decide (q.1 = x)) = some q := by
  cases e : L.find? fun q => decide (q.1 = x) with
  | none =>
    obtain ⟨q, hq, ex⟩ := List.mem_map.mp h
    have := List.find?_eq_none.mp e q hq
    exact absurd (decide_eq_true ex) this
  | some q =>
    have h1 := List.find?_some e
    exact ⟨q, List.mem_of_find?_eq_some e, of_decide_eq_true h1, rfl⟩
theorem sizes_val {L : List (Str × Int)} (h : VarsOk L) {x : Str} (hx : x ∈ L.map (·.1)) : valV (kvL L) (Sum.inr x) = some (.int (sizeOf L x)) ∧ 1 ≤ sizeOf L x ∧ sizeOf L x ≤ 6 := by
  obtain ⟨q, hq, _, e⟩ := find_mem hx
  have hs : sizeOf L x = q.2 := by unfold sizeOf; rw [e]; rfl
  rw [kvL_val, e, hs]
  exact ⟨rfl, h.sz q hq⟩
theorem merge_new : ∀ (more kvs : List (Key × V)), (more.map (·.1)).Nodup → (∀ k ∈ more.map (·.1), k ∉ kvs.map (·.1)) → mergeK kvs more = kvs ++ more
  | [], kvs, _, _ => by simp [mergeK]
  | (k, v) :: r, kvs, nd, dj => by
    rw [List.map_cons, List.nodup_cons] at nd
    have hk : putK kvs k v = kvs ++ [(k, v)] := by
      unfold putK
      rw [if_neg]
      intro h
      obtain ⟨p, hp, e⟩ := List.any_eq_true.mp h
      exact dj k (by simp) (List.mem_map.mpr ⟨p, hp, of_decide_eq_true e⟩)
    show mergeK (putK kvs k v) r = _
    rw [hk, merge_new r _ nd.2 fun k' hk' hm => ?_, List.append_assoc]
    · rfl
    · rw [List.map_append] at hm
      rcases List.mem_append.mp hm with h | h
      · exact dj k' (List.mem_cons_of_mem _ hk') h
      · have : k' = k := by simpa using h
        rw [this] at hk'
        exact nd.1 hk'
theorem kvL_keys (L : List (Str × Int)) : (kvL L).map (·.1) = (L.map (·.1)).map Sum.inr := by
  unfold kvL
  rw [List.map_map, List.map_map]
  rfl
theorem inr_nodup {l : List Str} (h : l.Nodup) : (l.map (Sum.inr : Str → Key)).Nodup := by
  rw [List.nodup_iff_pairwise_ne, List.pairwise_map]
  exact (List.nodup_iff_pairwise_ne.mp h).imp fun {a b} z e => z (Sum.inr.inj e)
theorem merge_kvL {L : List (Str × Int)} (h : VarsOk L) : mergeK [] (kvL L) = kvL L := by
  rw [merge_new _ _ (by rw [kvL_keys]; exact inr_nodup h.nd) fun k _ hm => by cases hm]
  rfl
theorem pair_addrs {H : Hp} {G : Addr → Prop} : ∀ {xs : List V} {L : List (Str × Int)}, Paired (isPair H G) xs L → ∃ ps : List Addr, xs = ps.map V.ref ∧ ∀ K : PySem.W.Frag, Paired (fun p (kv : Key × V) => SqT K H p [kV kv.1, kv.2]) ps (kvL L)
  | _, _, .nil => ⟨[], rfl, fun _ => .nil⟩
  | _, _, .cons ⟨t, e, _, h⟩ r => by
    obtain ⟨ps, e2, p2⟩ := pair_addrs r
    exact ⟨t :: ps, by rw [e, e2]; rfl, fun K => .cons (.inl (.inl h)) (p2 K)⟩
theorem inV_str (l : List Str) (y : Str) : inV (.str y) (l.map V.str) = decide (y ∈ l) := by
  unfold inV
  induction l with
  | nil => rfl
  | cons a r ih =>
    rw [List.map_cons, List.any_cons, ih]
    show (a == y || decide (y ∈ r)) = _
    by_cases h : a = y
    · subst h; simp
    · have : (a == y) = false := by simpa using h
      rw [this, Bool.false_or]
      by_cases h2 : y ∈ r
      · rw [decide_eq_true h2, decide_eq_true (List.mem_cons_of_mem _ h2)]
      · rw [decide_eq_false h2, decide_eq_false fun z => by rcases List.mem_cons.mp z with z | z; exact h z.symm; exact h2 z]
theorem flat_str (l : List Str) : (l.map V.str).all flatV = true := by
  rw [List.all_map, List.all_eq_true]
  intro x _; rfl
theorem cutV0 (xs : List V) (k : Nat) : cutV xs none (some (k : Int)) = xs.take k := by
  unfold cutV
  rw [HT.sIx_nat, HT.sIx_none, List.drop_zero, Nat.sub_zero]
  rw [← List.take_take, List.take_length]
def sp_parts : Sp := fun vs H Q _ => ∃ (b : Addr) (n : Nat), vs = [.ref b] ∧ Bag H b n ∧ n + 900 ≤ 1000000 ∧
  ∀ (p a r : Addr) (xs ys : List V) (L : List (Str × Int)) (R : List Row) H', Fr b H H' → H' p = some (.tup [.ref a, .ref r]) → NewTo H b a → NewTo H b r → H' a = some (.lst xs) → Paired (isPair H' (NewTo H b)) xs L →
    H' r = some (.lst ys) → Paired (isRowS H' (NewTo H b) (NewTo H b)) ys R → VarsOk L → EvsOk L R → Bag H' b (n + 900) → Q (.ref p) H'
theorem ok_l_parts {P : Program} {w : World} {K : PySem.W.Frag} {mg : Str → Option Value} {base : Heap} (T : Txt P K mg) : FnOk P w K mg base CX0 3 T.f_l_parts T.fd_l_parts ["_law_bag_here"] (sp_parts) := by
  refine T.F_l_parts.ok sc_l_parts (fun vs H Q E h => ?_) (fun cdv A outer s H vs Q E hr h => ?_)
  · obtain ⟨_, _, rfl, _⟩ := h; rfl
  · obtain ⟨b, n, rfl, hB, hn, q⟩ := h
    refine ⟨_, PSs.nox (pss_cons (ps_set (i := 1) sc_l_parts.nd rfl (Or.inl rfl) (pe_ix (show IxR _ (rIxL K) from ix_list) (pe_lst (pa_cons pe_int (pa_cons pe_int (pa_cons pe_int (pa_cons pe_int (pa_cons pe_int (pa_cons pe_int (pa_cons pe_int (pa_cons pe_int (pa_cons pe_int (pa_cons pe_int pa_nil))))))))))) (pe_call (ok_l_take T) (hr.mono (by decide)) (by rfl) T.g_l_take T.F_l_take.kp (b_l_take T) .nil pass0 (pa_cons (pv 0) (pa_cons pe_int pa_nil))) (fun _ _ => rfl)))
      (pss_cons (ps_set (i := 2) sc_l_parts.nd rfl (Or.inl rfl) (pe_call (ok_l_names T) (hr.mono (by decide)) (by rfl) T.g_l_names T.F_l_names.kp (b_l_names T) .nil pass0 (pa_cons (pv 0) (pa_cons (pv 1) pa_nil))))
      (pss_cons (ps_setLc (i := 3) (own := [("_law_name", 8)]) (g := gName 8) rfl sc_l_parts.nd rfl rfl (sw_true rfl rfl rfl (by decide +kernel)) (pi_list (pv 2)) (blkOk_by (own := [("_law_name", 8)]) (N := N_l_parts) (sc := defScope s_l_parts) (by decide +kernel)) (fun _ _ _ _ _ => (pg_name (i := 8) sc_l_parts.nd rfl (Or.inl rfl))) (fun _ _ _ _ _ => pts_nil) (fun _ _ _ _ _ => (pe_tup (pa_cons (pv 8) (pa_cons (pe_ix (show IxR _ (rIxL K) from ix_list) (pe_lst (pa_cons pe_int (pa_cons pe_int (pa_cons pe_int (pa_cons (pe_op op_add pe_int (pe_call (ok_l_take T) (hr.mono (by decide)) (by rfl) T.g_l_take T.F_l_take.kp (b_l_take T) .nil pass0 (pa_cons (pv 0) (pa_cons pe_int pa_nil)))) pa_nil))))) (pe_call (ok_l_take T) (hr.mono (by decide)) (by rfl) T.g_l_take T.F_l_take.kp (b_l_take T) .nil pass0 (pa_cons (pv 0) (pa_cons pe_int pa_nil))) (fun _ _ => rfl)) pa_nil)))))
      (pss_cons (ps_set (i := 4) sc_l_parts.nd rfl (Or.inr rfl) (pe_call (ok_l_names T) (hr.mono (by decide)) (by rfl) T.g_l_names T.F_l_names.kp (b_l_names T) .nil pass0 (pa_cons (pv 0) (pa_cons (pe_ix (show IxR _ (rIxL K) from ix_list) (pe_lst (pa_cons pe_int (pa_cons pe_int (pa_cons pe_int (pa_cons pe_int (pa_cons pe_int (pa_cons pe_int (pa_cons pe_int (pa_cons pe_int (pa_cons pe_int (pa_cons pe_int pa_nil))))))))))) (pe_call (ok_l_take T) (hr.mono (by decide)) (by rfl) T.g_l_take T.F_l_take.kp (b_l_take T) .nil pass0 (pa_cons (pv 0) (pa_cons pe_int pa_nil))) (fun _ _ => rfl)) pa_nil))))
      (Evl.pss_cut (ps_if (pt_cmpR op_eq (pe_call (ok_l_take T) (hr.mono (by decide)) (by rfl) T.g_l_take T.F_l_take.kp (b_l_take T) .nil pass0 (pa_cons (pv 0) (pa_cons pe_int pa_nil))) pe_int (nomark _)) (pss_cons (ps_set (i := 4) sc_l_parts.nd rfl (Or.inr rfl) (pe_slice (show SlR _ (rSlL K) from sl_list) (pe_op op_cat (pv 2) (pv 4)) po_none (po_some (pe_callB (call_min2 rfl) (by rfl) T.n_min (by decide +kernel) (pa_cons pe_int (pa_cons (pe_callB (show CallR _ _ (rLenSeq K) from call_len_seq) (by rfl) T.n_len (by decide +kernel) (pa_cons (pv 4) pa_nil)) pa_nil))))))
      (pss_one (ps_set (i := 4) sc_l_parts.nd rfl (Or.inr rfl) (pe_lc (own := [("_law_index", 9), ("_law_title", 5)]) (g := gTup K 2 (gCons (gName 9) (gCons (gName 5) gNil))) rfl sc_l_parts.nd (pi_enum (by rfl) T.n_enumerate (pa_cons (pv 4) pa_nil)) (blkOk_by (own := [("_law_index", 9), ("_law_title", 5)]) (N := N_l_parts) (sc := defScope s_l_parts) (by decide +kernel)) (fun _ _ _ _ _ => (pg_tup rfl (pgs_cons (pg_name (i := 9) sc_l_parts.nd rfl (Or.inl rfl)) (pgs_cons (pg_name (i := 5) sc_l_parts.nd rfl (Or.inl rfl)) pgs_nil)))) (fun _ _ _ _ _ => pts_one (pt_cmpR (show OpR _ (compareOp .NotIn) (rIn K true) from op_notIn_seq) (pv 5) (pe_slice (show SlR _ (rSlL K) from sl_list) (pv 4) po_none (po_some (pv 9))) (by first | rfl | with_unfolding_all rfl))) (fun _ _ _ _ _ => (pv 5)))))) pss_nil)
      (pss_cons (ps_set (i := 6) sc_l_parts.nd rfl (Or.inl rfl) (pe_lst pa_nil))
      (pss_cons (ps_for PassesOwn.never rfl (pi_list (pv 4)) (pg_name (i := 5) sc_l_parts.nd rfl (Or.inl rfl)) (pss_cons (ps_set (i := 7) sc_l_parts.nd rfl (Or.inl rfl) (pe_call (ok_l_scope T) (hr.mono (by decide)) (by rfl) T.g_l_scope T.F_l_scope.kp (b_l_scope T) .nil pass0 (pa_cons (pv 0) (pa_cons (pv 2) pa_nil))))
      (pss_one (ps_expr (pe_bm PySem.F.plainAttrs_list PySem.F.slot_list_append PySem.F.type_list_append mt_append (pv 6) (pa_cons (pe_tup (pa_cons (pv 5) (pa_cons (pv 7) (pa_cons (pe_call (ok_l_tuples T) (hr.mono (by decide)) (by rfl) T.g_l_tuples T.F_l_tuples.kp (b_l_tuples T) .nil pass0 (pa_cons (pv 0) (pa_cons (pe_callTy (call_dictP rfl) (by rfl) T.n_dict (by decide +kernel) (pa_cons (pv 3) pa_nil)) (pa_cons (pv 7) (pa_cons (pe_ix (show IxR _ (rIxL K) from ix_list) (pe_lst (pa_cons pe_int (pa_cons pe_int (pa_cons pe_int (pa_cons pe_int pa_nil))))) (pe_call (ok_l_take T) (hr.mono (by decide)) (by rfl) T.g_l_take T.F_l_take.kp (b_l_take T) .nil pass0 (pa_cons (pv 0) (pa_cons pe_int pa_nil))) (fun _ _ => rfl)) pa_nil))))) pa_nil)))) pa_nil))))))
      (pss_one (ps_ret (pe_tup (pa_cons (pv 3) (pa_cons (pv 6) pa_nil)))))))))))), ?_⟩
    -- count
    refine ⟨lenk 10 rfl (by decide), fun p1 np1 => ?_⟩
    have nb1 := hB.ne np1
    refine ⟨_, rfl, b, n, 10, rfl, hB.upd nb1, by omega, by decide, by decide, fun d1 H1 f1 b1 d10 d11 => ?_⟩
    have hp1 := f1 p1 _ (Ne.symm nb1) upd_same
    obtain ⟨c, hc, hcm⟩ := ints_at (ns := [1, 2, 3, 3, 4, 4, 5, 6, 7, 8]) d10 d11
    have hc8 : 1 ≤ c ∧ c ≤ 8 := by
      have : ∀ v ∈ ([1, 2, 3, 3, 4, 4, 5, 6, 7, 8] : List Int), 1 ≤ v ∧ v ≤ 8 := by decide
      exact this c hcm
    refine ⟨p1, _, _, _, rfl, rfl, SqL.of hp1, hc, ?_⟩
    have F1 : Fr b H H1 := (Fr.new np1).trans f1
    -- names
    refine ⟨_, rfl, _, rfl, b, _, c, rfl, b1, by omega, by omega, by omega, fun pn ns H2 f2 npn pnb hpn ln okn ndn b2 => ?_⟩
    have F2 := F1.trans f2
    -- sizes
    refine ⟨_, rfl, pn, rfl, ⟨_, SqL.of hpn⟩, fun D nD => lc_it (walk_list (K := K) (a := pn) (xs := ns.map V.str)) (fun i H' => ∃ (xs : List V) (L : List (Str × Int)), H' D = some (.lst xs) ∧ Paired (isPair H' (NewTo H b)) xs L ∧ L.map (·.1) = ns.take i ∧ (∀ q ∈ L, 1 ≤ q.2 ∧ q.2 ≤ 6) ∧ Fr b H2 H' ∧ Bag H' b (n + 1 + 30 + 2 * i)) ?_ ?_ ?_ ?_⟩
    · exact ⟨[], [], upd_same, .nil, rfl, (fun _ h => by cases h), Fr.new nD, (b2.upd (b2.ne nD)).mono (by omega)⟩
    · rintro i H' hi ⟨xs, L, hD, pd, eL, sz, f, bb⟩
      exact SqL.of (f pn _ pnb hpn)
    · rintro i x Hx H3 hi ⟨xs, L, hD, pd, eL, sz, f3, b3⟩ ⟨rfl, hx⟩
      rw [List.length_map] at hi
      rw [List.getElem?_map, List.getElem?_eq_getElem hi] at hx
      have ex := Option.some.inj hx
      subst ex
      have nbD : b ≠ D := b2.ne nD
      refine ⟨rfl, _, rfl, _, rfl, b, _, 6, rfl, b3, by omega, by decide, by decide, fun d2 H4 f4 b4 d20 d21 => ?_⟩
      refine ⟨_, _, rfl, rfl, lenk 4 rfl (by decide), fun p2 np2 => ?_⟩
      have nb2 := b4.ne np2
      refine ⟨_, rfl, b, _, 4, rfl, b4.upd nb2, by omega, by decide, by decide, fun d3 H5 f5 b5 d30 d31 => ?_⟩
      have hp2 := f5 p2 _ (Ne.symm nb2) upd_same
      obtain ⟨z, hz, hzm⟩ := ints_at (ns := [2, 2, 3, 1 + d2]) d30 d31
      have z6 : 1 ≤ z ∧ z ≤ 6 := by
        simp only [List.mem_cons, List.not_mem_nil, or_false] at hzm
        omega
      refine ⟨p2, _, _, _, rfl, rfl, SqL.of hp2, hz, lenk 2 rfl (by decide), fun t nt => ?_⟩
      have f6 : Fr b H3 H5 := f4.trans ((Fr.new np2).trans f5)
      have nbt := b5.ne nt
      have hD5 := f6 D _ (Ne.symm nbD) hD
      have nDt : D ≠ t := ne_of_none hD5 nt
      have nt3 : H3 t = none := f6.free (Ne.symm nbt) nt
      have ntH : NewTo H b t := ⟨F2.free (Ne.symm nbt) (f3.free (Ne.symm nbt) nt3), Ne.symm nbt⟩
      have f7 : Fr b H3 (upd H5 t (.tup [.str ns[i], .int z])) := f6.upd_p nt3
      refine ⟨xs, by rw [upd_ne nDt]; exact hD5, ?_, xs ++ [.ref t], L ++ [(ns[i], z)], upd_same, ?_, ?_, ?_, (f3.trans f7).upd_p nD, ((b5.upd nbt).upd nbD).mono (by omega)⟩
      · rw [pd.length]
        have := congrArg List.length eL
        rw [List.length_map, List.length_take] at this
        rw [sizeLine_eq]; omega
      · have pm : ∀ (x : V) (q : Str × Int), isPair H3 (NewTo H b) x q → isPair (upd (upd H5 t (.tup [.str ns[i], .int z])) D (.lst (xs ++ [.ref t]))) (NewTo H b) x q := fun x q zz => by
          obtain ⟨u, e, gu, hu⟩ := zz
          refine ⟨u, e, gu, ?_⟩
          rw [upd_ne (ne_of hu hD (by simp))]
          exact f7 u _ gu.2 hu
        exact Paired.snoc (Paired.mono pm pd) ⟨t, rfl, ntH, by rw [upd_ne (Ne.symm nDt), upd_same]⟩
      · rw [List.map_append, eL, List.take_succ, List.getElem?_eq_getElem hi]; rfl
      · intro q hq
        rcases List.mem_append.mp hq with h | h
        · exact sz q h
        · rw [List.mem_singleton.mp h]; exact z6
    · rintro H3 ⟨xs, L, hD, pd, eL, sz, f3, b3⟩
      rw [List.length_map, List.take_length] at eL
      rw [List.length_map] at b3
      have nbD : b ≠ D := b2.ne nD
      have F3 := F2.trans f3
      have nDH : NewTo H b D := ⟨F2.free (Ne.symm nbD) nD, Ne.symm nbD⟩
      have lL : L.length = ns.length := by rw [← eL, List.length_map]
      have vok : VarsOk L := ⟨by omega, by omega, fun q hq => okn _ (by rw [← eL]; exact List.mem_map.mpr ⟨q, hq, rfl⟩), sz, by rw [eL]; exact ndn⟩
      have hpn3 := f3 pn _ pnb hpn
      -- titles
      refine ⟨_, rfl, lenk 10 rfl (by decide), fun p4 np4 => ?_⟩
      have nb4 := b3.ne np4
      refine ⟨_, rfl, b, _, 10, rfl, b3.upd nb4, by omega, by decide, by decide, fun d5 H5 f5 b5 d50 d51 => ?_⟩
      have hp4 := f5 p4 _ (Ne.symm nb4) upd_same
      obtain ⟨ct, hct, hctm⟩ := ints_at (ns := [0, 1, 2, 3, 3, 4, 5, 6, 7, 8]) d50 d51
      have hct8 : 0 ≤ ct ∧ ct ≤ 8 := by
        have : ∀ v ∈ ([0, 1, 2, 3, 3, 4, 5, 6, 7, 8] : List Int), 0 ≤ v ∧ v ≤ 8 := by decide
        exact this ct hctm
      refine ⟨p4, _, _, _, rfl, rfl, SqL.of hp4, hct, ?_⟩
      refine ⟨b, _, ct, rfl, b5, by omega, by omega, by omega, fun pt ts H6 f6 npt ptb hpt lt okt ndt b6 => ?_⟩
      have f36 : Fr b H3 H6 := ((Fr.new np4).trans f5).trans f6
      -- behind the if: the titles, distinct
      let Mid : L2.St → Hp → Prop := fun σ H' => ∃ (pt : Addr) (ts : List Str) (x5 : Option V), σ = [some (.ref b), some (.int c), some (.ref pn), some (.ref D), some (.ref pt), x5, none, none, none, none] ∧ Fr b H3 H' ∧ pt ≠ b ∧ H' pt = some (.lst (ts.map V.str)) ∧ ts.length ≤ 8 ∧ (∀ y ∈ ts, NameOk y) ∧ ts.Nodup ∧ Bag H' b (n + 200)
      refine ⟨Mid, ?_, fun σ H' mid => ?_⟩
      · refine ⟨_, rfl, b, _, 4, rfl, b6, by omega, by decide, by decide, fun d7 H7 f7 b7 d70 d71 => ?_⟩
        have hpt7 := f7 pt _ ptb hpt
        have f37 := f36.trans f7
        refine ⟨rfl, _, rfl, ite2 (fun c1 => ?_) (fun c1 => ⟨pt, ts, _, rfl, f37, ptb, hpt7, by omega, okt, ndt, b7.mono (by omega)⟩)⟩
        refine ⟨_, rfl, _, rfl, pn, pt, _, _, rfl, rfl, f7 pn _ pnb (f36 pn _ pnb hpn3), hpt7, by rw [List.length_map, List.length_map, sizeLine_eq]; omega, fun p8 np8 => ?_⟩
        have nb8 := b7.ne np8
        have hpt8 : upd H7 p8 (.lst (ns.map V.str ++ ts.map V.str)) pt = some (.lst (ts.map V.str)) := by rw [upd_ne (ne_of_none hpt7 np8)]; exact hpt7
        have f38 : Fr b H3 (upd H7 p8 (.lst (ns.map V.str ++ ts.map V.str))) := f37.upd_p (f37.free (Ne.symm nb8) np8)
        have hp8 : upd H7 p8 (.lst (ns.map V.str ++ ts.map V.str)) p8 = some (.lst ((ns ++ ts).map V.str)) := by rw [upd_same, List.map_append]
        have b8 := b7.upd (o := .lst (ns.map V.str ++ ts.map V.str)) nb8
        generalize upd H7 p8 (.lst (ns.map V.str ++ ts.map V.str)) = H8 at hpt8 f38 hp8 b8
        refine ⟨_, rfl, pt, _, rfl, .inl (SqL.of hpt8), _, _, rfl, _, rfl, p8, _, rfl, SqL.of hp8, fun p9 np9 => ?_⟩
        have hk : ∃ k : Nat, k ≤ 8 ∧ (if (((ts.map V.str).length : Nat) : Int) < 8 then (((ts.map V.str).length : Nat) : Int) else 8) = (k : Int) := by
          rw [List.length_map]
          by_cases h : ((ts.length : Nat) : Int) < 8
          · exact ⟨ts.length, by omega, by rw [if_pos h]⟩
          · exact ⟨8, by omega, by rw [if_neg h]; rfl⟩
        obtain ⟨k, hk8, ek⟩ := hk
        rw [ek, cutV0, ← List.map_take]
        have nb9 := b8.ne np9
        have ecs : (ns ++ ts).take k = (ns ++ ts).take k := rfl
        generalize hcs : (ns ++ ts).take k = cs
        have lcs : cs.length ≤ 8 := by rw [← hcs, List.length_take]; omega
        have okc : ∀ y ∈ cs, NameOk y := fun y hy => by
          rw [← hcs] at hy
          rcases List.mem_append.mp (List.mem_of_mem_take hy) with h | h
          · exact okn y h
          · exact okt y h
        have f39 : Fr b H3 (upd H8 p9 (.lst (cs.map V.str))) := f38.upd_p (f38.free (Ne.symm nb9) np9)
        have hp9 : upd H8 p9 (.lst (cs.map V.str)) p9 = some (.lst (cs.map V.str)) := upd_same
        have b9 := b8.upd (o := .lst (cs.map V.str)) nb9
        generalize upd H8 p9 (.lst (cs.map V.str)) = H9 at f39 hp9 b9
        refine ⟨_, rfl, p9, _, rfl, SqL.of hp9, fun D2 nD2 => lc_it (walk_enum (K := K) (a := p9) (xs := cs.map V.str)) (fun i H' => ∃ out : List Str, H' D2 = some (.lst (out.map V.str)) ∧ out.Nodup ∧ (∀ y, y ∈ out ↔ y ∈ cs.take i) ∧ out.length ≤ i ∧ Fr b H9 H' ∧ Bag H' b (n + 190)) ?_ ?_ ?_ ?_⟩
        · exact ⟨[], upd_same, .nil, fun y => by simp, Nat.le_refl _, Fr.new nD2, (b9.upd (b9.ne nD2)).mono (by omega)⟩
        · rintro i H' hi ⟨out, hD2, nd2, io, lo, f, bb⟩
          exact SqL.of (f p9 _ (Ne.symm nb9) hp9)
        · rintro i x H10 H11 hi ⟨out, hD2, nd2, io, lo, f10, b10⟩ ⟨t, x1, x2, rfl, nt, rfl, e1, e2⟩
          rw [List.length_map] at hi
          have e1' := Option.some.inj e1
          subst e1'
          have e2' : x2 = .str cs[i] := by
            replace e2 : (cs.map V.str)[i]? = some x2 := e2
            rw [List.getElem?_map, List.getElem?_eq_getElem hi] at e2
            exact (Option.some.inj e2).symm
          subst e2'
          have nbt := b10.ne nt
          have hD2t : upd H10 t (.tup [.int (i : Nat), .str cs[i]]) D2 = some (.lst (out.map V.str)) := by rw [upd_ne (ne_of_none hD2 nt)]; exact hD2
          have f11 : Fr b H9 (upd H10 t (.tup [.int (i : Nat), .str cs[i]])) := f10.upd_p (f10.free (Ne.symm nbt) nt)
          have b11 := b10.upd (o := .tup [.int (i : Nat), .str cs[i]]) nbt
          have ht : upd H10 t (.tup [.int (i : Nat), .str cs[i]]) t = some (.tup [.int (i : Nat), .str cs[i]]) := upd_same
          generalize upd H10 t (.tup [.int (i : Nat), .str cs[i]]) = H12 at hD2t f11 b11 ht
          refine ⟨t, _, rfl, .inl (.inl ht), rfl, _, _, rfl, _, _, rfl, rfl, rfl, ?_⟩
          refine ⟨_, rfl, _, rfl, _, rfl, _, rfl, p9, _, rfl, SqL.of (f11 p9 _ (Ne.symm nb9) hp9), fun p10 np10 => ?_⟩
          have nb10 := b11.ne np10
          have nD210 : D2 ≠ p10 := ne_of_none hD2t np10
          have hD210 : upd H12 p10 (.lst (cutV (cs.map V.str) none (some ((i : Nat) : Int)))) D2 = some (.lst (out.map V.str)) := by rw [upd_ne nD210]; exact hD2t
          have f12 : Fr b H9 (upd H12 p10 (.lst (cutV (cs.map V.str) none (some ((i : Nat) : Int))))) := f11.upd_p (f11.free (Ne.symm nb10) np10)
          have b12 := b11.upd (o := .lst (cutV (cs.map V.str) none (some ((i : Nat) : Int)))) nb10
          have hp10 : upd H12 p10 (.lst (cutV (cs.map V.str) none (some ((i : Nat) : Int)))) p10 = some (.lst ((cs.take i).map V.str)) := by rw [upd_same, cutV0, ← List.map_take]
          generalize upd H12 p10 (.lst (cutV (cs.map V.str) none (some ((i : Nat) : Int)))) = H13 at hD210 f12 b12 hp10
          refine ⟨p10, _, rfl, .inl (SqL.of hp10), rfl, flat_str _, _, rfl, ?_⟩
          rw [inV_str]
          have tk : cs.take (i + 1) = cs.take i ++ [cs[i]] := by rw [List.take_succ, List.getElem?_eq_getElem hi]; rfl
          by_cases hm : cs[i] ∈ cs.take i
          · rw [decide_eq_true hm]
            refine iteF ⟨out, hD210, nd2, fun y => ?_, by omega, f12, b12⟩
            rw [io y, tk, List.mem_append]
            exact ⟨.inl, fun z => z.elim id fun z => by rw [List.mem_singleton.mp z]; exact hm⟩
          · rw [decide_eq_false hm]
            refine iteT ⟨_, rfl, out.map V.str, hD210, by rw [List.length_map, sizeLine_eq]; omega, out ++ [cs[i]], by rw [upd_same, List.map_append]; rfl, ?_, fun y => ?_, by rw [List.length_append]; simp; omega, f12.upd_p nD2, b12.upd (b9.ne nD2)⟩
            · rw [List.nodup_append]
              exact ⟨nd2, by simp, fun x hx y hy e => hm (by rw [List.mem_singleton.mp hy] at e; rw [← e]; exact (io x).mp hx)⟩
            · rw [List.mem_append, io y, tk, List.mem_append]
        · rintro H10 ⟨out, hD2, nd2, io, lo, f10, b10⟩
          rw [List.length_map] at lo
          exact ⟨D2, out, _, rfl, f39.trans f10, Ne.symm (b9.ne nD2), hD2, by omega, fun y hy => okc y (List.mem_of_mem_take ((io y).mp hy)), nd2, b10.mono (by omega)⟩
      · obtain ⟨pt, ts, x5, rfl, fM, ptb, hpt, lt8, okt, ndt, bM⟩ := mid
        refine ⟨Nat.zero_le _, fun r nr => ?_⟩
        have nbr := bM.ne nr
        have nr3 : H3 r = none := fM.free (Ne.symm nbr) nr
        have nrH : NewTo H b r := ⟨F3.free (Ne.symm nbr) nr3, Ne.symm nbr⟩
        refine ⟨_, rfl, pt, rfl, ⟨_, SqL.of (by rw [upd_ne (ne_of_none hpt nr)]; exact hpt)⟩, for_it (walk_list (K := K) (a := pt) (xs := ts.map V.str)) (fun i σ H'' => ∃ (ys : List V) (R : List Row) (x5 x7 : Option V),
          σ = [some (.ref b), some (.int c), some (.ref pn), some (.ref D), some (.ref pt), x5, some (.ref r), x7, none, none] ∧ Fr b H3 H'' ∧ H'' pt = some (.lst (ts.map V.str)) ∧ Bag H'' b (n + 200 + 75 * i) ∧ H'' r = some (.lst ys) ∧
          Paired (isRowS H'' (fun t => NewTo H b t ∧ t ≠ r) (fun t => NewTo H b t ∧ t ≠ r)) ys R ∧ R.map (·.1) = ts.take i ∧ ∀ w ∈ R, RowOk L w) ?_ ?_ ?_ ?_⟩
        · exact ⟨[], [], _, _, rfl, fM.upd_p nr3, by rw [upd_ne (ne_of_none hpt nr)]; exact hpt, (bM.upd nbr).mono (by omega), upd_same, .nil, rfl, fun _ h => by cases h⟩
        · rintro i σ H'' hi ⟨ys, R, x5, x7, rfl, f, hp, bb, hr', pdr, eR, okR⟩
          exact SqL.of hp
        · rintro i x σ Hx H12 hi ⟨ys, R, x5, x7, rfl, f12, hp12, b12, hr12, pdr, eR, okR⟩ ⟨rfl, hx⟩
          rw [List.length_map] at hi
          rw [List.getElem?_map, List.getElem?_eq_getElem hi] at hx
          have ex := Option.some.inj hx
          subst ex
          refine ⟨_, rfl, _, rfl, b, pn, _, ns, rfl, b12, by omega, SqL.of (f12 pn _ pnb hpn3), by omega, by omega, ndn, fun psc sc H13 f13 npsc pscb hpsc s1 s4 ssub snd b13 => ?_⟩
          have hr13 := f13 r _ (Ne.symm nbr) hr12
          have f13' := f12.trans f13
          obtain ⟨ps, exs, pps⟩ := pair_addrs (Paired.mono (fun _ _ z => isPair.mv z (Mv.of_fr f13') fun a ha e => ha.2 e) pd)
          refine ⟨_, rfl, .inl ⟨rfl, _, SqL.of hr13⟩, _, rfl, _, rfl, _, rfl, _, rfl, D, ps, kvL L, rfl, by rw [← exs]; exact SqL.of (f13' D _ (Ne.symm nbD) hD), pps K, fun dd ndd => ?_⟩
          rw [merge_kvL vok]
          have nbdd := b13.ne ndd
          refine ⟨_, rfl, lenk 4 rfl (by decide), fun pl npl => ?_⟩
          have b14 := (b13.upd (o := .dK (kvL L)) nbdd)
          have nbpl := b14.ne npl
          have ndpl : dd ≠ pl := ne_of_none upd_same npl
          refine ⟨_, rfl, b, _, 4, rfl, b14.upd nbpl, by omega, by decide, by decide, fun d15 H15 f15 b15 d150 d151 => ?_⟩
          have hpl15 := f15 pl _ (Ne.symm nbpl) upd_same
          have hdd15 : H15 dd = some (.dK (kvL L)) := f15 dd _ (Ne.symm nbdd) (by rw [upd_ne ndpl, upd_same])
          obtain ⟨most, hmost, hmm⟩ := ints_at (ns := [1, 2, 4, 12]) d150 d151
          have hm12 : 0 ≤ most ∧ most ≤ 12 := by
            have : ∀ v ∈ ([1, 2, 4, 12] : List Int), 0 ≤ v ∧ v ≤ 12 := by decide
            exact this most hmm
          have f1315 : Fr b H13 H15 := (Fr.new ndd).trans ((Fr.new npl).trans f15)
          have hpsc15 := f1315 psc _ pscb hpsc
          have rv : rowVals (kvL L) sc (sizeOf L) := fun x hx => sizes_val vok (by rw [eL]; exact ssub x hx)
          refine ⟨pl, _, _, _, rfl, rfl, SqL.of hpl15, hmost, b, dd, psc, _, most, kvL L, sc, sizeOf L, rfl, b15, by omega, hdd15, .inl (SqL.of hpsc15), pscb, s4, rv, by omega, by omega, fun pb ysb bad H16 f16 npb pbb hpb pdb lb bnd bok b16 => ?_⟩
          refine ⟨lenk 3 rfl (by decide), fun t nt => ?_⟩
          have nbt := b16.ne nt
          have f1316 := f1315.trans f16
          have hr16 := f1316 r _ (Ne.symm nbr) hr13
          have hpsc16 := f1316 psc _ pscb hpsc
          have nrt : r ≠ t := ne_of_none hr16 nt
          have f316 : Fr b H3 H16 := f13'.trans f1316
          have nt3 : H3 t = none := f316.free (Ne.symm nbt) nt
          refine ⟨r, _, _, rfl, rfl, by rw [upd_ne nrt]; exact hr16, by rw [pdr.length]; have := congrArg List.length eR; rw [List.length_map, List.length_take] at this; rw [sizeLine_eq]; omega, ?_⟩
          have new3 : ∀ {a : Addr} {Hk : Hp}, Fr b H3 Hk → Hk a = none → a ≠ b → NewTo H b a := fun f e hb => ⟨F3.free hb (f.free hb e), hb⟩
          have npscr : psc ≠ r := (ne_of_none hr12 npsc).symm
          have npbr : pb ≠ r := (ne_of_none (f1315 r _ (Ne.symm nbr) hr13) npb).symm
          have mvr : Mv (fun a => a = r) (upd H16 t (.tup [.str ts[i], .ref psc, .ref pb])) (upd (upd H16 t (.tup [.str ts[i], .ref psc, .ref pb])) r (.lst (ys ++ [.ref t]))) := fun a o na e => by rw [upd_ne na]; exact e
          have mvt : Same H16 (upd H16 t (.tup [.str ts[i], .ref psc, .ref pb])) := Same.new nt
          refine ⟨ys ++ [.ref t], R ++ [(ts[i], sc, bad)], _, _, rfl, (f316.upd_p nt3).upd_p nr3, ?_, ((b16.upd nbt).upd nbr).mono (by omega), upd_same, ?_, ?_, ?_⟩
          · rw [upd_ne (ne_of_none hpt nr), upd_ne (ne_of_none (f1316 pt _ ptb (f13 pt _ ptb hp12)) nt)]
            exact f1316 pt _ ptb (f13 pt _ ptb hp12)
          · refine Paired.snoc (Paired.mono (fun _ _ z => ?_) pdr) ?_
            · exact (((isRowS.mv z (Mv.of_fr (f13.trans f1316)) (fun a ha e => ha.1.2 e) fun a ha e => ha.1.2 e).same mvt).mv mvr (fun a ha e => ha.2 e) fun a ha e => ha.2 e)
            · refine ⟨t, psc, pb, ysb, rfl, ⟨new3 f316 nt (Ne.symm nbt), Ne.symm nrt⟩, by rw [upd_ne (Ne.symm nrt), upd_same], ?_, ?_, ?_⟩
              · refine ⟨⟨new3 f12 npsc pscb, npscr⟩, ?_⟩
                rw [upd_ne npscr, upd_ne (ne_of_none hpsc16 nt)]
                exact hpsc16
              · refine ⟨⟨new3 (f13'.trans f1315) npb pbb, npbr⟩, ?_⟩
                rw [upd_ne npbr, upd_ne (ne_of_none hpb nt)]
                exact hpb
              · refine Paired.mono (fun x ms z => ?_) pdb
                obtain ⟨u, e, gu, hu⟩ := z
                have nur : u ≠ r := ne_of hu hr16 (by simp)
                refine ⟨u, e, ⟨new3 (f13'.trans f1315) gu.1 gu.2, nur⟩, ?_⟩
                rw [upd_ne nur, upd_ne (ne_of_none hu nt)]
                exact hu
          · rw [List.map_append, eR, List.take_succ, List.getElem?_eq_getElem hi]; rfl
          · intro w hw
            rcases List.mem_append.mp hw with h | h
            · exact okR w h
            · rw [List.mem_singleton.mp h]
              exact ⟨okt _ (List.getElem_mem hi), s1, s4, fun x hx => by rw [eL]; exact ssub x hx, snd, lb, bnd, fun ms hms => (bok ms hms).1, fun ms hms => (bok ms hms).2⟩
        · rintro σ H12 ⟨ys, R, x5, x7, rfl, f12, hp12, b12, hr12, pdr, eR, okR⟩
          rw [List.length_map] at b12 eR
          rw [List.take_length] at eR
          refine ⟨_, rfl, _, rfl, lenk 2 rfl (by decide), fun p np => ?_⟩
          have nbp := b12.ne np
          have sp := Same.new (o := .tup [.ref D, .ref r]) np
          have lR : R.length = ts.length := by rw [← eR, List.length_map]
          exact q p D r xs ys L R _ ((F3.trans f12).trans (Fr.of_same sp)) upd_same nDH nrH (sp _ _ (f12 D _ (Ne.symm nbD) hD)) (Paired.mono (fun _ _ z => (isPair.mv z (Mv.of_fr f12) fun a ha e => ha.2 e).same sp) pd)
            (sp _ _ hr12) (Paired.mono (fun _ _ z => (isRowS.wk z (fun a ha => ha.1) fun a ha => ha.1).same sp) pdr) vok ⟨by omega, okR, by rw [eR]; exact ndt⟩ ((b12.upd nbp).mono (by omega))

end K09
namespace K09
open PySem PySem.Spec PyProof.Rows L2 TL
/-! ### what names, integers, lists are -/
theorem a97 : (Str.ofString "a").cps.toList = [97] := by decide +kernel
theorem z122 : (Str.ofString "z").cps.toList = [122] := by decide +kernel
theorem ge_chr (c d : Nat) : (!decide ([c] < [d])) = decide (d ≤ c) := by
  rw [show decide ([c] < [d]) = decide (c < d) by rw [decide_eq_decide, List.cons_lt_cons_iff]; simp, ← decide_not, decide_eq_decide]; omega
theorem kit_ii {K : PySem.W.Frag} : PySem.W.kitOne K (.type "int") (.type "int") = some true := kit_ty (show kitB "int" "int" = some true by decide +kernel)
theorem kit_ib {K : PySem.W.Frag} : PySem.W.kitOne K (.type "int") (.type "bool") = some false := kit_ty (show kitB "int" "bool" = some false by decide +kernel)
theorem kit_ss {K : PySem.W.Frag} : PySem.W.kitOne K (.type "str") (.type "str") = some true := kit_ty (show kitB "str" "str" = some true by decide +kernel)
theorem kit_tt {K : PySem.W.Frag} : PySem.W.kitOne K (.type "tuple") (.type "tuple") = some true := kit_ty (show kitB "tuple" "tuple" = some true by decide +kernel)
theorem kit_ll {K : PySem.W.Frag} : PySem.W.kitOne K (.type "list") (.type "list") = some true := kit_ty (show kitB "list" "list" = some true by decide +kernel)
theorem kit_tl {K : PySem.W.Frag} : PySem.W.kitOne K (.type "tuple") (.type "list") = some false := kit_ty (show kitB "tuple" "list" = some false by decide +kernel)
theorem kitA_l {K : PySem.W.Frag} : PySem.W.kitAny K (.type "list") [.type "list", .type "tuple"] = some true := by
  simp only [PySem.W.kitAny, kit_ll]
theorem kitA_t {K : PySem.W.Frag} : PySem.W.kitAny K (.type "tuple") [.type "list", .type "tuple"] = some true := by
  simp only [PySem.W.kitAny, kit_tl, kit_tt]
/-- a list or a tuple: one that stands here, or the empty one of the program's own text -/
def Sq (K : PySem.W.Frag) (H : Hp) (a : Addr) (xs : List V) : Prop := H a = some (.lst xs) ∨ H a = some (.tup xs) ∨ (EXV.IsE K a ∧ xs = [])
section
variable {K : PySem.W.Frag} {H H' : Hp} {a : Addr} {xs : List V}
theorem Sq.sq (h : Sq K H a xs) : SqL K H a xs ∨ SqT K H a xs := by
  rcases h with h | h | ⟨h, rfl⟩
  · exact .inl (SqL.of h)
  · exact .inr (.inl (.inl h))
  · exact .inr (h.sq H)
theorem Sq.same (h : Sq K H a xs) (s : Same H H') : Sq K H' a xs := by
  rcases h with h | h | h
  · exact .inl (s _ _ h)
  · exact .inr (.inl (s _ _ h))
  · exact .inr (.inr h)
theorem Sq.kit (h : Sq K H a xs) : ∃ t, TyX K H (.ref a) t ∧ PySem.W.kitAny K t [.type "list", .type "tuple"] = some true := by
  rcases h with h | h | ⟨⟨o, n, h1, h2, _⟩, _⟩
  · exact ⟨_, .base (.lst h), kitA_l⟩
  · exact ⟨_, .base (.tup h), kitA_t⟩
  · exact ⟨_, .kTuple h1 h2, kitA_t⟩
theorem sq_same (h : SqL K H a xs ∨ SqT K H a xs) (s : Same H H') : SqL K H' a xs ∨ SqT K H' a xs := (Kp.at fun o e => s a o e).sq h
theorem LT.s {F : Addr → Prop} (h : LT H F a xs) : Sq K H a xs := by
  obtain ⟨_, h | h⟩ := h
  · exact .inl h
  · exact .inr (.inl h)
theorem TyX.same {v : V} {t : Value} (h : TyX K H v t) (s : Same H H') : TyX K H' v t := by
  cases h with
  | base h =>
    cases h with
    | non => exact .base .non
    | bl b => exact .base (.bl b)
    | int i => exact .base (.int i)
    | str z => exact .base (.str z)
    | flt z => exact .base (.flt z)
    | lst e => exact .base (.lst (s _ _ e))
    | frz e => exact .base (.frz (s _ _ e))
    | tup e => exact .base (.tup (s _ _ e))
    | dK e => exact .base (.dK (s _ _ e))
    | dT e => exact .base (.dT (s _ _ e))
    | ins e c ha hn ht hm => exact .base (.ins (s _ _ e) c ha hn ht hm)
  | byt b => exact .byt b
  | set e => exact .set (s _ _ e)
  | kList e c => exact .kList e c
  | kTuple e c => exact .kTuple e c
  | kDict e c => exact .kDict e c
  | fTuple e => exact .fTuple (s _ _ e)
  | fDict e => exact .fDict (s _ _ e)
theorem kp_same {b : Addr} (s : Same H H') : Kp K b H H' := Kp.at fun o e => s b o e
end
theorem or_walkA {K : PySem.W.Frag} {tl : TE} {σ : L2.St} {H0 H : Hp} {R : It → Hp → Prop} {a : Addr} {xs : List V} (ht : ∀ R' : VK, R' (.ref a) H → tl σ H R') (hS : SqL K H0 a xs ∨ SqT K H0 a xs) (k0 : ∀ o, H0 a = some o → H a = some o)
    (h : ∀ (J : It) (G : Hp → Prop), Walk J xs.length G (YAt xs) → (∀ H', (∀ o, H0 a = some o → H' a = some o) → G H') → R J H) : iList K tl σ H R ∨ iTup K tl σ H R := by
  rcases hS with hS | hS
  · exact .inl (ht _ ⟨a, rfl, ⟨xs, (Kp.at k0).1 xs hS⟩, h _ _ walk_list fun H' k => (Kp.at k).1 xs hS⟩)
  · exact .inr (ht _ ⟨a, rfl, ⟨xs, (Kp.at k0).2 xs hS⟩, h _ _ walk_tup fun H' k => (Kp.at k).2 xs hS⟩)
theorem walk_zipM {K : PySem.W.Frag} {a b : Addr} {xs ys : List V} : Walk (Itzm K a b xs ys) (min xs.length ys.length) (fun H => SqT K H a xs ∧ SqL K H b ys) (YPair (fun i => xs[i]?) (fun i => ys[i]?)) :=
  ⟨fun _ _ hi q => ⟨q, hi⟩, fun _ q => ⟨q, Nat.le_refl _⟩, fun _ _ _ _ _ _ y => y⟩
def sp_isname : Sp := fun vs H Q _ => ∃ s : Str, vs = [.str s] ∧ NameOk s ∧ ∀ H', Same H H' → Q (.bl true) H'
theorem ok_is_name {P : Program} {w : World} {K : PySem.W.Frag} {mg : Str → Option Value} {base : Heap} (T : Txt P K mg) : FnOk P w K mg base CX0 1 T.f_is_name T.fd_is_name ["value"] (sp_isname) := by
  refine T.F_is_name.ok sc_is_name (fun vs H Q E h => ?_) (fun cdv A outer s H vs Q E hr h => ?_)
  · obtain ⟨_, rfl, _⟩ := h; rfl
  · obtain ⟨z, rfl, ⟨n1, n2, n3⟩, q⟩ := h
    refine ⟨_, PSs.nox (pss_cons (ps_if (PW.pt (pw_or (pt_not (pt_val (pe_callB (show CallR _ _ (rIsi K) from call_isi) (by rfl) T.n_isinstance (by decide +kernel) (pa_cons (pv 0) (pa_cons (pe_bltn (v := .ty "str") (by rfl) T.n_str (by decide +kernel) rfl) pa_nil))))) (pw_or1 (pt_not (pt_chain op_le op_le pe_int (pe_callB call_len_str (by rfl) T.n_len (by decide +kernel) (pa_cons (pv 0) pa_nil)) pe_int))))) (pss_one (ps_ret pe_bl)) pss_nil)
      (pss_one (ps_ret (pe_callB (show CallR _ _ (rAll K) from cr_all rfl) (by rfl) T.n_all (by decide +kernel) (pa_cons (pe_lc (own := [("letter", 1)]) (g := gName 1) rfl sc_is_name.nd (pi_str (pv 0)) (blkOk_by (own := [("letter", 1)]) (N := N_is_name) (sc := defScope s_is_name) (by decide +kernel)) (fun _ _ _ _ _ => (pg_name (i := 1) sc_is_name.nd rfl (Or.inl rfl))) (fun _ _ _ _ _ => pts_nil) (fun _ _ _ _ _ => (pe_chain op_le_str op_le_str pe_str (pv 1) pe_str))) pa_nil))))), ?_⟩
    have zl : z.length = (tl z).length := len_tl z
    refine ⟨_, rfl, _, _, _, _, _, rfl, .ty _, .base (.str _), kit_ss, _, rfl, ?_⟩
    refine ⟨_, rfl, z, rfl, slen (by omega), _, _, rfl, rfl, _, rfl, ite2 (fun e1 => ?_) (fun e1 => absurd (decide_eq_true (by omega)) e1)⟩
    refine ⟨_, _, rfl, rfl, _, rfl, ite2 (fun e2 => absurd (decide_eq_true (show (z.length : Int) ≤ 8 by omega)) (by simpa using e2)) (fun e2 => ?_)⟩
    refine ⟨_, rfl, z, rfl, fun D nD => lc_it walk_str (fun i H' => H' D = some (.lst (List.replicate i (.bl true))) ∧ Same H H') ⟨upd_same, Same.new nD⟩ (fun _ _ _ _ => trivial) (fun i x H' H'' hi p y => ?_) (fun H' p => ?_)⟩
    · obtain ⟨p1, p2⟩ := p
      obtain ⟨rfl, c, hc, rfl⟩ := y
      have cm : c ∈ tl z := Array.mem_toList_iff.mpr (Array.mem_of_getElem? hc)
      have cb := n3 c cm
      have il : i < z.length := hi
      refine ⟨rfl, _, rfl, _, _, rfl, rfl, _, rfl, ite2 (fun e3 => ?_) (fun e3 => absurd (by rw [a97, ge_chr]; exact decide_eq_true cb.1) e3)⟩
      refine ⟨_, _, rfl, rfl, ?_⟩
      have el : (!decide ((Str.ofString "z").cps.toList < (⟨#[c]⟩ : Str).cps.toList)) = true := by
        rw [z122, ge_chr]; exact decide_eq_true cb.2
      rw [el]
      exact ⟨_, p1, by rw [List.length_replicate, sizeLine_eq]; omega, by rw [upd_same, List.replicate_succ'], Same.upd_p p2 nD⟩
    · obtain ⟨p1, p2⟩ := p
      refine ⟨D, List.replicate z.cps.size true, rfl, SqL.of (by rw [p1, List.map_replicate]), ?_⟩
      have : (List.replicate z.cps.size true).all id = true := by simp
      rw [this]
      exact q H' p2
/-- not an integer: isinstance says no, or it is a bool -/
def NotI (K : PySem.W.Frag) (H : Hp) (u : V) : Prop := ∃ t, TyX K H u t ∧ (PySem.W.kitOne K t (.type "int") = some false ∨ (PySem.W.kitOne K t (.type "int") = some true ∧ PySem.W.kitOne K t (.type "bool") = some true))
theorem NotI.same {K : PySem.W.Frag} {H H' : Hp} {u : V} (h : NotI K H u) (s : Same H H') : NotI K H' u := by
  obtain ⟨t, ty, k⟩ := h
  exact ⟨t, TyX.same ty s, k⟩
def sp_anyint (K : PySem.W.Frag) : Sp := fun vs H Q _ => ∃ v, vs = [v] ∧ ((∃ i : Int, v = .int i ∧ Q (.bl true) H) ∨ (NotI K H v ∧ Q (.bl false) H))
theorem ok_is_any_integer {P : Program} {w : World} {K : PySem.W.Frag} {mg : Str → Option Value} {base : Heap} (T : Txt P K mg) : FnOk P w K mg base CX0 1 T.f_is_any_integer T.fd_is_any_integer ["value"] (sp_anyint K) := by
  refine T.F_is_any_integer.ok sc_is_any_integer (fun vs H Q E h => ?_) (fun cdv A outer s H vs Q E hr h => ?_)
  · obtain ⟨_, rfl, _⟩ := h; rfl
  · obtain ⟨v, rfl, q⟩ := h
    refine ⟨_, PSs.nox (pss_one (ps_ret (pe_and (pe_callB (show CallR _ _ (rIsi K) from call_isi) (by rfl) T.n_isinstance (by decide +kernel) (pa_cons (pv 0) (pa_cons (pe_bltn (v := .ty "int") (by rfl) T.n_int (by decide +kernel) rfl) pa_nil))) (pe_one (pe_not (pe_callB (show CallR _ _ (rIsi K) from call_isi) (by rfl) T.n_isinstance (by decide +kernel) (pa_cons (pv 0) (pa_cons (pe_bltn (v := .ty "bool") (by rfl) T.n_bool (by decide +kernel) rfl) pa_nil)))))))), ?_⟩
    rcases q with ⟨i, rfl, q⟩ | ⟨⟨t, ty, k | ⟨k, k2⟩⟩, q⟩
    · exact ⟨_, rfl, _, _, _, _, _, rfl, .ty _, .base (.int i), kit_ii, _, rfl, _, rfl, _, _, _, _, _, rfl, .ty _, .base (.int i), kit_ib, _, rfl, q⟩
    · exact ⟨_, rfl, _, _, t, _, _, rfl, .ty _, ty, k, _, rfl, q⟩
    · exact ⟨_, rfl, _, _, t, _, _, rfl, .ty _, ty, k, _, rfl, _, rfl, _, _, t, _, _, rfl, .ty _, ty, k2, _, rfl, q⟩
def inI (lo hi : Int) : V → Bool | .int i => decide (lo ≤ i) && decide (i ≤ hi) | _ => false
def sp_isint (K : PySem.W.Frag) : Sp := fun vs H Q _ => ∃ (v : V) (lo hi : Int), vs = [v, .int lo, .int hi] ∧ ((∃ i, v = .int i) ∨ NotI K H v) ∧ Q (.bl (inI lo hi v)) H
theorem NotI.no {K : PySem.W.Frag} {H : Hp} {i : Int} (h : NotI K H (.int i)) : False := by
  obtain ⟨t, ty, k⟩ := h
  cases ty with
  | base b =>
    cases b
    rw [kit_ii, kit_ib] at k
    rcases k with k | ⟨_, k⟩ <;> cases k
theorem NotI.inI {K : PySem.W.Frag} {H : Hp} {v : V} (h : NotI K H v) (lo hi : Int) : inI lo hi v = false := by
  cases v with
  | int i => exact absurd h fun z => z.no
  | _ => rfl
theorem ok_is_integer {P : Program} {w : World} {K : PySem.W.Frag} {mg : Str → Option Value} {base : Heap} (T : Txt P K mg) : FnOk P w K mg base CX0 2 T.f_is_integer T.fd_is_integer ["value", "low", "high"] (sp_isint K) := by
  refine T.F_is_integer.ok sc_is_integer (fun vs H Q E h => ?_) (fun cdv A outer s H vs Q E hr h => ?_)
  · obtain ⟨_, _, _, rfl, _⟩ := h; rfl
  · obtain ⟨v, lo, hi, rfl, h1, q⟩ := h
    refine ⟨_, PSs.nox (pss_one (ps_ret (pe_and (pe_call (ok_is_any_integer T) (hr.mono (by decide)) (by rfl) T.g_is_any_integer T.F_is_any_integer.kp (b_is_any_integer T) .nil pass0 (pa_cons (pv 0) pa_nil)) (pe_one (pe_chain op_le op_le (pv 1) (pv 0) (pv 2)))))), ?_⟩
    rcases h1 with ⟨i, rfl⟩ | h1
    · refine ⟨_, rfl, _, rfl, .inl ⟨i, rfl, _, rfl, ?_⟩⟩
      have en : inI lo hi (.int i) = (decide (lo ≤ i) && decide (i ≤ hi)) := rfl
      rw [en] at q
      refine ⟨_, rfl, _, rfl, _, _, rfl, rfl, _, rfl, ite2 (fun e1 => ?_) (fun e1 => ?_)⟩
      · rw [e1, Bool.true_and] at q
        exact ⟨_, rfl, _, _, rfl, rfl, q⟩
      · rw [Bool.eq_false_iff.mpr e1, Bool.false_and] at q
        exact q
    · rw [h1.inI] at q
      exact ⟨_, rfl, _, rfl, .inr ⟨h1, _, rfl, q⟩⟩
def sp_islist (K : PySem.W.Frag) : Sp := fun vs H Q _ => ∃ (a : Addr) (xs : List V) (lo hi : Int), vs = [.ref a, .int lo, .int hi] ∧ Sq K H a xs ∧ lo ≤ xs.length ∧ xs.length ≤ hi ∧ ∀ H', Same H H' → Q (.bl true) H'
theorem ok_is_list {P : Program} {w : World} {K : PySem.W.Frag} {mg : Str → Option Value} {base : Heap} (T : Txt P K mg) : FnOk P w K mg base CX0 1 T.f_is_list T.fd_is_list ["value", "low", "high"] (sp_islist K) := by
  refine T.F_is_list.ok sc_is_list (fun vs H Q E h => ?_) (fun cdv A outer s H vs Q E hr h => ?_)
  · obtain ⟨_, _, _, _, rfl, _⟩ := h; rfl
  · obtain ⟨a, xs, lo, hi, rfl, hS, h1, h2, q⟩ := h
    refine ⟨_, PSs.nox (pss_one (ps_ret (pe_and (pe_callB (show CallR _ _ (rIsiT K) from call_isiT) (by rfl) T.n_isinstance (by decide +kernel) (pa_cons (pv 0) (pa_cons (pe_tup (pa_cons (pe_bltn (v := .ty "list") (by rfl) T.n_list (by decide +kernel) rfl) (pa_cons (pe_bltn (v := .ty "tuple") (by rfl) T.n_tuple (by decide +kernel) rfl) pa_nil))) pa_nil))) (pe_one (pe_chain op_le op_le (pv 1) (pe_callB (show CallR _ _ (rLenSeq K) from call_len_seq) (by rfl) T.n_len (by decide +kernel) (pa_cons (pv 0) pa_nil)) (pv 2)))))), ?_⟩
    refine ⟨_, rfl, lenk 2 rfl (by decide), fun tp ntp => ?_⟩
    have sm : Same H (upd H tp (.tup [.ty "list", .ty "tuple"])) := Same.new ntp
    have ht : upd H tp (.tup [.ty "list", .ty "tuple"]) tp = some (.tup [.ty "list", .ty "tuple"]) := upd_same
    obtain ⟨t, ty, kk⟩ := (hS.same sm).kit
    refine ⟨_, tp, _, t, _, _, rfl, ht, .cons (.ty _) (.cons (.ty _) .nil), ty, kk, _, rfl, ?_⟩
    refine ⟨_, rfl, _, rfl, a, _, rfl, (hS.same sm).sq, _, _, rfl, rfl, _, rfl, ite2 (fun e1 => ?_) (fun e1 => absurd (decide_eq_true h1) e1)⟩
    refine ⟨_, rfl, _, _, rfl, rfl, ?_⟩
    show Q (.bl (decide ((xs.length : Int) ≤ hi))) _
    rw [decide_eq_true h2]
    exact q _ sm
def sp_distinct (K : PySem.W.Frag) : Sp := fun vs H Q _ => ∃ (a : Addr) (ns : List Str), vs = [.ref a] ∧ (SqL K H a (ns.map V.str) ∨ SqT K H a (ns.map V.str)) ∧ ns.Nodup ∧ ns.length ≤ 8 ∧ ∀ H', Same H H' → Q .non H'
theorem val_none {α : Type} {l : List α} {f : α → Str} {g : α → V} {x : Str} (h : x ∉ l.map f) : valV (l.map fun y => ((Sum.inr (f y) : Key), g y)) (Sum.inr x) = none := by
  unfold valV
  rw [Option.map_eq_none_iff, List.find?_eq_none]
  intro kv hkv e
  obtain ⟨y, hy, rfl⟩ := List.mem_map.mp hkv
  exact h (List.mem_map.mpr ⟨y, hy, Sum.inr.inj (of_decide_eq_true e)⟩)
theorem not_mem_take {α : Type} {l : List α} (nd : l.Nodup) {i : Nat} (hi : i < l.length) : l[i] ∉ l.take i := by
  intro h
  obtain ⟨j, hj⟩ := List.getElem?_of_mem h
  obtain ⟨lj, gj⟩ := List.getElem?_eq_some_iff.mp hj
  rw [List.length_take] at lj
  rw [List.getElem_take] at gj
  have n1 := List.nodup_iff_pairwise_ne.mp nd
  rw [List.pairwise_iff_getElem] at n1
  exact n1 j i (by omega) hi (by omega) gj
theorem str_at' {sc : List Str} {j : Nat} {x : V} (h : (sc.map V.str)[j]? = some x) : ∃ hj : j < sc.length, x = .str sc[j] := by
  rw [List.getElem?_map] at h
  cases e : sc[j]? with
  | none => rw [e] at h; cases h
  | some y =>
    rw [e] at h
    obtain ⟨hj, ey⟩ := List.getElem?_eq_some_iff.mp e
    exact ⟨hj, by rw [ey]; exact (Option.some.inj h).symm⟩
theorem take_snoc {α : Type} {l : List α} {i : Nat} (hi : i < l.length) : l.take (i + 1) = l.take i ++ [l[i]] := by
  rw [List.take_succ, List.getElem?_eq_getElem hi]; rfl
theorem ok_check_distinct {P : Program} {w : World} {K : PySem.W.Frag} {mg : Str → Option Value} {base : Heap} (T : Txt P K mg) : FnOk P w K mg base CX0 1 T.f_check_distinct T.fd_check_distinct ["names"] (sp_distinct K) := by
  refine T.F_check_distinct.ok sc_check_distinct (fun vs H Q E h => ?_) (fun cdv A outer s H vs Q E hr h => ?_)
  · obtain ⟨_, _, rfl, _⟩ := h; rfl
  · obtain ⟨a, ns, rfl, hS, nd, n8, q⟩ := h
    refine ⟨_, PSs.nox (pss_cons (ps_set (i := 1) sc_check_distinct.nd rfl (Or.inl rfl) pe_dnewK)
      (pss_one (ps_for PassesOwn.never rfl (pi_or (pi_list (pv 0)) (pi_tup (pv 0))) (pg_name (i := 2) sc_check_distinct.nd rfl (Or.inl rfl)) (pss_cons (ps_if (pt_cmp (pc_din (hu_of hr) (pv 2) (pv 1))) (pss_one ps_never) pss_nil)
      (pss_one (ps_asg pe_bl (pg_sub (pv 1) (pv 2) (set_dict (hu_of hr))))))))), ?_⟩
    intro D nD
    refine or_walkA (fun R' h => ⟨_, rfl, h⟩) hS (fun o e => Same.new nD a o e) fun J G w g => for_it w (fun i σ H' => ∃ x2, σ = [some (.ref a), some (.ref D), x2] ∧ Same H H' ∧ H' D = some (.dK ((ns.take i).map fun x => (Sum.inr x, .bl true)))) ?_ ?_ ?_ ?_
    · exact ⟨_, rfl, Same.new nD, upd_same⟩
    · rintro i σ H' _ ⟨x2, rfl, s1, hD⟩
      exact g H' (s1 a)
    · rintro i x σ Hx H' hi ⟨x2, rfl, s1, hD⟩ ⟨rfl, hx⟩
      obtain ⟨hj, rfl⟩ := str_at' hx
      have hn := val_none (l := ns.take i) (f := id) (g := fun _ => .bl true) (x := ns[i]) (by rw [List.map_id]; exact not_mem_take nd hj)
      replace hn : valV ((ns.take i).map fun x => ((Sum.inr x : Key), V.bl true)) (Sum.inr ns[i]) = none := hn
      have dg : DGet H' D (.str ns[i]) none := by rw [← hn]; exact DGet.k (k := Sum.inr ns[i]) hD
      refine ⟨_, rfl, _, rfl, D, _, rfl, dg, _, rfl, ?_⟩
      refine ⟨_, rfl, _, rfl, D, _, rfl, DPut.k (k := Sum.inr ns[i]) hD (by rw [List.length_map, List.length_take, sizeLine_eq]; omega), ?_⟩
      refine ⟨_, rfl, Same.upd_p s1 nD, ?_⟩
      rw [upd_same, putK_new _ hn, take_snoc hj, List.map_append]
      rfl
    · rintro σ H' ⟨x2, rfl, s1, hD⟩
      exact q H' s1

end K09
namespace K09
open PySem PySem.Spec PyProof.Rows L2 TL
/-! ### the checks of variables and events, of good ones -/
def sp_vrow : Sp := fun vs H Q _ => ∃ (t : Addr) (q : Str × Int), vs = [.ref t] ∧ H t = some (.tup [.str q.1, .int q.2]) ∧ NameOk q.1 ∧ 1 ≤ q.2 ∧ q.2 ≤ 6 ∧ ∀ H', Same H H' → Q (.bl true) H'
theorem ok__is_variable_row {P : Program} {w : World} {K : PySem.W.Frag} {mg : Str → Option Value} {base : Heap} (T : Txt P K mg) : FnOk P w K mg base CX0 3 T.f__is_variable_row T.fd__is_variable_row ["row"] (sp_vrow) := by
  refine T.F__is_variable_row.ok sc__is_variable_row (fun vs H Q E h => ?_) (fun cdv A outer s H vs Q E hr h => ?_)
  · obtain ⟨_, _, rfl, _⟩ := h; rfl
  · obtain ⟨t, q, rfl, ht, hn, h1, h6, qq⟩ := h
    refine ⟨_, PSs.nox (pss_one (ps_ret (pe_and (pe_callB (show CallR _ _ (rIsi K) from call_isi) (by rfl) T.n_isinstance (by decide +kernel) (pa_cons (pv 0) (pa_cons (pe_bltn (v := .ty "tuple") (by rfl) T.n_tuple (by decide +kernel) rfl) pa_nil))) (pe_and (pe_cmpR op_eq (pe_callB (show CallR _ _ (rLenSeq K) from call_len_seq) (by rfl) T.n_len (by decide +kernel) (pa_cons (pv 0) pa_nil)) pe_int (nomark _)) (pe_and (pe_call (ok_is_name T) (hr.mono (by decide)) (by rfl) T.g_is_name T.F_is_name.kp (b_is_name T) .nil pass0 (pa_cons (pe_ix (show IxR _ (rIxT K) from ix_tup) (pv 0) pe_int (fun _ _ => rfl)) pa_nil)) (pe_one (pe_call (ok_is_integer T) (hr.mono (by decide)) (by rfl) T.g_is_integer T.F_is_integer.kp (b_is_integer T) .nil pass0 (pa_cons (pe_ix (show IxR _ (rIxT K) from ix_tup) (pv 0) pe_int (fun _ _ => rfl)) (pa_cons pe_int (pa_cons pe_int pa_nil)))))))))), ?_⟩
    refine ⟨_, rfl, _, _, _, _, _, rfl, .ty _, .base (.tup ht), kit_tt, _, rfl, ?_⟩
    refine ⟨_, rfl, t, _, rfl, .inr (.inl (.inl ht)), rfl, _, rfl, ?_⟩
    refine ⟨_, rfl, t, _, (0 : Int), _, rfl, rfl, .inl (.inl ht), rfl, q.1, rfl, hn, fun H1 s1 => ?_⟩
    have ht1 := s1 _ _ ht
    refine ⟨_, rfl, ?_⟩
    refine ⟨_, rfl, t, _, (1 : Int), _, rfl, rfl, .inl (.inl ht1), rfl, .int q.2, 1, 6, rfl, .inl ⟨q.2, rfl⟩, by show Q (.bl (decide (1 ≤ q.2) && decide (q.2 ≤ 6))) H1; rw [decide_eq_true h1, decide_eq_true h6]; exact qq _ s1⟩
def sp_vars (K : PySem.W.Frag) : Sp := fun vs H Q _ => ∃ (a : Addr) (xs : List V) (G : Addr → Prop) (L : List (Str × Int)), vs = [.ref a] ∧ Sq K H a xs ∧ Paired (isPair H G) xs L ∧ VarsOk L ∧ ∀ H', Same H H' → Q .non H'
theorem ok__check_variables {P : Program} {w : World} {K : PySem.W.Frag} {mg : Str → Option Value} {base : Heap} (T : Txt P K mg) : FnOk P w K mg base CX0 4 T.f__check_variables T.fd__check_variables ["variables"] (sp_vars K) := by
  refine T.F__check_variables.ok sc__check_variables (fun vs H Q E h => ?_) (fun cdv A outer s H vs Q E hr h => ?_)
  · obtain ⟨_, _, _, _, rfl, _⟩ := h; rfl
  · obtain ⟨a, xs, G, L, rfl, hS, pd, ok, q⟩ := h
    have lxs := pd.length
    have h1 := ok.pos
    have h8 := ok.few
    refine ⟨_, PSs.nox (pss_cons (ps_if (PW.pt (pw_or (pt_not (pt_val (pe_call (ok_is_list T) (hr.mono (by decide)) (by rfl) T.g_is_list T.F_is_list.kp (b_is_list T) .nil pass0 (pa_cons (pv 0) (pa_cons pe_int (pa_cons (pe_glob (v := .int 8) (by rfl) T.c_MOST_VARIABLES.choose_spec ⟨_, rfl⟩) pa_nil)))))) (pw_or1 (pt_not (pt_val (pe_callB (show CallR _ _ (rAll K) from cr_all rfl) (by rfl) T.n_all (by decide +kernel) (pa_cons (pe_lc (own := [("row", 3)]) (g := gName 3) rfl sc__check_variables.nd (pi_or (pi_list (pv 0)) (pi_tup (pv 0))) (blkOk_by (own := [("row", 3)]) (N := N__check_variables) (sc := defScope s__check_variables) (by decide +kernel)) (fun _ _ _ _ _ => (pg_name (i := 3) sc__check_variables.nd rfl (Or.inl rfl))) (fun _ _ _ _ _ => pts_nil) (fun _ _ _ _ _ => (pe_call (ok__is_variable_row T) (hr.mono (by decide)) (by rfl) T.g__is_variable_row T.F__is_variable_row.kp (b__is_variable_row T) .nil pass0 (pa_cons (pv 3) pa_nil)))) pa_nil))))))) (pss_one ps_never) pss_nil)
      (pss_one (ps_expr (pe_call (ok_check_distinct T) (hr.mono (by decide)) (by rfl) T.g_check_distinct T.F_check_distinct.kp (b_check_distinct T) .nil pass0 (pa_cons (pe_lc (own := [("name", 1), ("_", 2)]) (g := gTup K 2 (gCons (gName 1) (gCons (gName 2) gNil))) rfl sc__check_variables.nd (pi_or (pi_list (pv 0)) (pi_tup (pv 0))) (blkOk_by (own := [("name", 1), ("_", 2)]) (N := N__check_variables) (sc := defScope s__check_variables) (by decide +kernel)) (fun _ _ _ _ _ => (pg_tup rfl (pgs_cons (pg_name (i := 1) sc__check_variables.nd rfl (Or.inl rfl)) (pgs_cons (pg_name (i := 2) sc__check_variables.nd rfl (Or.inl rfl)) pgs_nil)))) (fun _ _ _ _ _ => pts_nil) (fun _ _ _ _ _ => (pv 1))) pa_nil))))), ?_⟩
    refine ⟨_, rfl, a, xs, 1, 8, rfl, hS, by omega, by omega, fun H1 s1 => ?_⟩
    refine ⟨_, rfl, ?_⟩
    refine or_walkA (fun R' h => ⟨_, rfl, h⟩) hS.sq (s1 a) fun J G1 w g D nD => ?_
    refine lc_it w (fun i H' => H' D = some (.lst (List.replicate i (.bl true))) ∧ Same H1 H') ⟨upd_same, Same.new nD⟩ (fun i H' _ p => g H' fun o e => p.2 a o (s1 a o e)) ?_ ?_
    · rintro i x H2 H3 hi ⟨p1, p2⟩ ⟨rfl, hx⟩
      obtain ⟨y, hy, t, rfl, _, ht⟩ := pd_get pd hx
      refine ⟨rfl, _, rfl, t, y, rfl, p2 _ _ (s1 _ _ ht), ok.nm y (List.mem_of_getElem? hy), (ok.sz y (List.mem_of_getElem? hy)).1, (ok.sz y (List.mem_of_getElem? hy)).2, fun H4 s4 => ?_⟩
      exact ⟨_, s4 _ _ p1, by rw [List.length_replicate, sizeLine_eq]; omega, by rw [upd_same, List.replicate_succ'], Same.upd_p (p2.trans s4) nD⟩
    · rintro H2 ⟨p1, p2⟩
      refine ⟨D, List.replicate xs.length true, rfl, SqL.of (by rw [p1, List.map_replicate]), ?_⟩
      have e : (List.replicate xs.length true).all id = true := by simp
      rw [e]
      refine ⟨_, rfl, ?_⟩
      have s2 := s1.trans p2
      refine or_walkA (fun R' h => ⟨_, rfl, h⟩) hS.sq (s2 a) fun J2 G2 w2 g2 D2 nD2 => ?_
      refine lc_it w2 (fun i H' => H' D2 = some (.lst ((L.take i).map fun z => V.str z.1)) ∧ Same H2 H') ⟨upd_same, Same.new nD2⟩ (fun i H' _ p => g2 H' fun o e => p.2 a o (s2 a o e)) ?_ ?_
      · rintro i x H3 H4 hi ⟨r1, r2⟩ ⟨rfl, hx⟩
        obtain ⟨y, hy, t, rfl, _, ht⟩ := pd_get pd hx
        have ht3 := r2 _ _ (s2 _ _ ht)
        refine ⟨t, _, rfl, .inl (.inl ht3), rfl, _, _, rfl, _, _, rfl, rfl, rfl, _, rfl, _, r1, by rw [List.length_map, List.length_take, sizeLine_eq]; omega, ?_, Same.upd_p r2 nD2⟩
        obtain ⟨li, ey⟩ := List.getElem?_eq_some_iff.mp hy
        rw [upd_same, take_snoc li, List.map_append, ey]; rfl
      · rintro H3 ⟨r1, r2⟩
        rw [lxs, List.take_length, show (L.map fun z => V.str z.1) = (L.map (·.1)).map V.str by rw [List.map_map]; rfl] at r1
        exact ⟨D2, L.map (·.1), rfl, .inl (SqL.of r1), ok.nd, by rw [List.length_map]; omega, fun H4 s4 => q H4 ((s2.trans r2).trans s4)⟩
def sp_var : Sp := fun vs H Q _ => ∃ (x : Str) (d : Addr) (kvs : List (Key × V)) (v : V), vs = [.str x, .ref d] ∧ H d = some (.dK kvs) ∧ valV kvs (Sum.inr x) = some v ∧ Q .non H
theorem ok__check_variable {P : Program} {w : World} {K : PySem.W.Frag} {mg : Str → Option Value} {base : Heap} (T : Txt P K mg) : FnOk P w K mg base CX0 1 T.f__check_variable T.fd__check_variable ["value", "sizes"] (sp_var) := by
  refine T.F__check_variable.ok sc__check_variable (fun vs H Q E h => ?_) (fun cdv A outer s H vs Q E hr h => ?_)
  · obtain ⟨_, _, _, _, rfl, _⟩ := h; rfl
  · obtain ⟨x, d, kvs, v, rfl, hd, hv, q⟩ := h
    refine ⟨_, PSs.nox (pss_one (ps_if (PW.pt (pw_or (pt_not (pt_val (pe_callB (show CallR _ _ (rIsi K) from call_isi) (by rfl) T.n_isinstance (by decide +kernel) (pa_cons (pv 0) (pa_cons (pe_bltn (v := .ty "str") (by rfl) T.n_str (by decide +kernel) rfl) pa_nil))))) (pw_or1 (pt_cmp (pc_dnotin (hu_of hr) (pv 0) (pv 1)))))) (pss_one ps_never) pss_nil)), ?_⟩
    have dg : DGet H d (.str x) (some v) := by rw [← hv]; exact DGet.k (k := Sum.inr x) hd
    exact ⟨_, rfl, _, _, _, _, _, rfl, .ty _, .base (.str _), kit_ss, _, rfl, _, rfl, _, rfl, d, _, rfl, dg, _, rfl, q⟩
def sp_chkscope (K : PySem.W.Frag) : Sp := fun vs H Q _ => ∃ (a d : Addr) (sc : List Str) (kvs : List (Key × V)), vs = [.ref a, .ref d] ∧ (SqL K H a (sc.map V.str) ∨ SqT K H a (sc.map V.str)) ∧ H d = some (.dK kvs) ∧ (∀ x ∈ sc, ∃ v, valV kvs (Sum.inr x) = some v) ∧ sc.Nodup ∧ sc.length ≤ 8 ∧ ∀ H', Same H H' → Q .non H'
theorem ok__check_scope {P : Program} {w : World} {K : PySem.W.Frag} {mg : Str → Option Value} {base : Heap} (T : Txt P K mg) : FnOk P w K mg base CX0 2 T.f__check_scope T.fd__check_scope ["scope", "sizes"] (sp_chkscope K) := by
  refine T.F__check_scope.ok sc__check_scope (fun vs H Q E h => ?_) (fun cdv A outer s H vs Q E hr h => ?_)
  · obtain ⟨_, _, _, _, rfl, _⟩ := h; rfl
  · obtain ⟨a, d, sc, kvs, rfl, hS, hd, hv, nd, s8, q⟩ := h
    refine ⟨_, PSs.nox (pss_cons (ps_for PassesOwn.never rfl (pi_or (pi_list (pv 0)) (pi_tup (pv 0))) (pg_name (i := 2) sc__check_scope.nd rfl (Or.inl rfl)) (pss_one (ps_expr (pe_call (ok__check_variable T) (hr.mono (by decide)) (by rfl) T.g__check_variable T.F__check_variable.kp (b__check_variable T) .nil pass0 (pa_cons (pv 2) (pa_cons (pv 1) pa_nil))))))
      (pss_one (ps_expr (pe_call (ok_check_distinct T) (hr.mono (by decide)) (by rfl) T.g_check_distinct T.F_check_distinct.kp (b_check_distinct T) .nil pass0 (pa_cons (pv 0) pa_nil))))), ?_⟩
    refine or_walkA (fun R' h => ⟨_, rfl, h⟩) hS (fun o e => e) fun J G w g => for_it w (fun i σ H' => ∃ x2, σ = [some (.ref a), some (.ref d), x2] ∧ H' = H) ?_ ?_ ?_ ?_
    · exact ⟨_, rfl, rfl⟩
    · rintro i σ H' _ ⟨x2, rfl, rfl⟩
      exact g _ fun o e => e
    · rintro i x σ Hx H' hi ⟨x2, rfl, rfl⟩ ⟨rfl, hx⟩
      obtain ⟨hj, rfl⟩ := str_at' hx
      obtain ⟨v, hv⟩ := hv _ (List.getElem_mem hj)
      exact ⟨_, rfl, _, rfl, _, d, kvs, v, rfl, hd, hv, _, rfl, rfl⟩
    · rintro σ H' ⟨x2, rfl, rfl⟩
      exact ⟨_, rfl, a, sc, rfl, hS, nd, s8, fun H' s' => q H' s'⟩
theorem int_at' {ns : List Int} {j : Nat} {x : V} (h : (ns.map V.int)[j]? = some x) : ∃ n, ns[j]? = some n ∧ x = .int n := by
  rw [List.getElem?_map] at h
  cases e : ns[j]? with
  | none => rw [e] at h; cases h
  | some y => rw [e] at h; exact ⟨y, rfl, (Option.some.inj h).symm⟩
/-- whether these are values, one for each of the sizes -/
def valsB (vs : List V) (zs : List Int) : Bool := decide (vs.length = zs.length) && (vs.zip zs).all fun z => inI 0 (z.2 - 1) z.1
theorem valsB_ok {ns zs : List Int} (l : ns.length = zs.length) (h : ∀ (i : Nat) (n z : Int), ns[i]? = some n → zs[i]? = some z → 0 ≤ n ∧ n < z) : valsB (ns.map V.int) zs = true := by
  unfold valsB
  rw [List.length_map, decide_eq_true l, Bool.true_and, List.all_eq_true]
  intro z hz
  obtain ⟨i, hi⟩ := List.getElem?_of_mem hz
  obtain ⟨h1, h2⟩ := List.getElem?_zip_eq_some.mp hi
  obtain ⟨n, hn, e⟩ := int_at' h1
  obtain ⟨a, b⟩ := h i n z.2 hn h2
  rw [e]
  show (decide (0 ≤ n) && decide (n ≤ z.2 - 1)) = true
  rw [decide_eq_true a, decide_eq_true (by omega)]; rfl
def sp_arevals (K : PySem.W.Frag) : Sp := fun vs H Q _ => ∃ (v : V) (p : Addr) (zs : List Int), vs = [v, .ref p] ∧ H p = some (.lst (zs.map V.int)) ∧ zs.length ≤ 8 ∧
  ((∃ ty, TyX K H v ty ∧ PySem.W.kitOne K ty (.type "tuple") = some false ∧ Q (.bl false) H) ∨
   ∃ t ws, v = .ref t ∧ H t = some (.tup ws) ∧ (∀ x ∈ ws, (∃ i, x = .int i) ∨ NotI K H x) ∧ ∀ H', Same H H' → Q (.bl (valsB ws zs)) H')
theorem ok__are_values {P : Program} {w : World} {K : PySem.W.Frag} {mg : Str → Option Value} {base : Heap} (T : Txt P K mg) : FnOk P w K mg base CX0 3 T.f__are_values T.fd__are_values ["value", "sizes"] (sp_arevals K) := by
  refine T.F__are_values.ok sc__are_values (fun vs H Q E h => ?_) (fun cdv A outer s H vs Q E hr h => ?_)
  · obtain ⟨_, _, _, rfl, _⟩ := h; rfl
  · obtain ⟨v, p, zs, rfl, hp, z8, h⟩ := h
    refine ⟨_, PSs.nox (pss_cons (ps_if (PW.pt (pw_or (pt_not (pt_val (pe_callB (show CallR _ _ (rIsi K) from call_isi) (by rfl) T.n_isinstance (by decide +kernel) (pa_cons (pv 0) (pa_cons (pe_bltn (v := .ty "tuple") (by rfl) T.n_tuple (by decide +kernel) rfl) pa_nil))))) (pw_or1 (pt_cmpR op_ne (pe_callB (show CallR _ _ (rLenSeq K) from call_len_seq) (by rfl) T.n_len (by decide +kernel) (pa_cons (pv 0) pa_nil)) (pe_callB (show CallR _ _ (rLenSeq K) from call_len_seq) (by rfl) T.n_len (by decide +kernel) (pa_cons (pv 1) pa_nil)) (nomark _))))) (pss_one (ps_ret pe_bl)) pss_nil)
      (pss_one (ps_ret (pe_callB (show CallR _ _ (rAll K) from cr_all rfl) (by rfl) T.n_all (by decide +kernel) (pa_cons (pe_lc (own := [("item", 2), ("size", 3)]) (g := gTup K 2 (gCons (gName 2) (gCons (gName 3) gNil))) rfl sc__are_values.nd (pi_zipM (by rfl) T.n_zip (pa_cons (pv 0) (pa_cons (pv 1) pa_nil))) (blkOk_by (own := [("item", 2), ("size", 3)]) (N := N__are_values) (sc := defScope s__are_values) (by decide +kernel)) (fun _ _ _ _ _ => (pg_tup rfl (pgs_cons (pg_name (i := 2) sc__are_values.nd rfl (Or.inl rfl)) (pgs_cons (pg_name (i := 3) sc__are_values.nd rfl (Or.inl rfl)) pgs_nil)))) (fun _ _ _ _ _ => pts_nil) (fun _ _ _ _ _ => (pe_call (ok_is_integer T) (hr.mono (by decide)) (by rfl) T.g_is_integer T.F_is_integer.kp (b_is_integer T) .nil pass0 (pa_cons (pv 2) (pa_cons pe_int (pa_cons (pe_op op_sub (pv 3) pe_int) pa_nil)))))) pa_nil))))), ?_⟩
    rcases h with ⟨ty, hty, k, q⟩ | ⟨t, ws, rfl, ht, hw, q⟩
    · exact ⟨_, rfl, _, _, ty, _, _, rfl, .ty _, hty, k, _, rfl, q⟩
    · refine ⟨_, rfl, _, _, _, _, _, rfl, .ty _, .base (.tup ht), kit_tt, _, rfl, ?_⟩
      refine ⟨_, rfl, t, _, rfl, .inr (.inl (.inl ht)), _, rfl, p, _, rfl, .inl (SqL.of hp), rfl, _, rfl, ite2 (fun e => ?_) (fun e => ?_)⟩
      · have ne : ¬ ws.length = zs.length := fun z => by rw [List.length_map, z] at e; simp at e
        have en : valsB ws zs = false := by unfold valsB; rw [decide_eq_false ne, Bool.false_and]
        rw [en] at q
        exact q H (Same.refl H)
      · have el : ws.length = zs.length := by
          rw [List.length_map] at e
          simp at e
          omega
        refine ⟨_, rfl, _, rfl, t, p, _, _, rfl, .inl (.inl ht), SqL.of hp, fun D nD => ?_⟩
        have mn : min ws.length (zs.map V.int).length = zs.length := by rw [List.length_map, el, Nat.min_self]
        refine lc_it walk_zipM (fun i H' => H' D = some (.lst ((((ws.zip zs).take i).map fun z => inI 0 (z.2 - 1) z.1).map V.bl)) ∧ Same H H') ⟨upd_same, Same.new nD⟩ (fun i H' _ p' => ⟨.inl (.inl (p'.2 _ _ ht)), SqL.of (p'.2 _ _ hp)⟩) ?_ ?_
        · rintro i x H2 H3 hi ⟨p1, p2⟩ ⟨T', x1, x2, rfl, nT, rfl, e1, e2⟩
          obtain ⟨z, hz, rfl⟩ := int_at' e2
          have mx := hw x1 (List.mem_of_getElem? e1)
          have li : i < (ws.zip zs).length := by rw [List.length_zip]; rw [List.length_map] at hi; exact hi
          have ez : (ws.zip zs)[i] = (x1, z) := by
            have := List.getElem?_zip_eq_some.mpr ⟨(show ws[i]? = some (x1, z).1 from e1), (show zs[i]? = some (x1, z).2 from hz)⟩
            exact (List.getElem?_eq_some_iff.mp this).2
          have hDT : upd H2 T' (.tup [x1, .int z]) D = some (.lst ((((ws.zip zs).take i).map fun z => inI 0 (z.2 - 1) z.1).map V.bl)) := by rw [upd_ne (ne_of_none p1 nT)]; exact p1
          have s3 := p2.trans (Same.new (o := .tup [x1, .int z]) nT)
          refine ⟨T', _, rfl, .inl (.inl upd_same), rfl, _, _, rfl, _, _, rfl, rfl, rfl, ?_⟩
          refine ⟨_, rfl, _, rfl, _, _, rfl, rfl, x1, 0, z - 1, rfl, mx.imp id fun h => h.same s3, ?_⟩
          refine ⟨_, hDT, by rw [List.length_map, List.length_map, List.length_take, sizeLine_eq]; omega, ?_, Same.upd_p s3 nD⟩
          rw [upd_same, take_snoc li, ez, List.map_append, List.map_append]; rfl
        · rintro H2 ⟨p1, p2⟩
          have lz : (ws.zip zs).length = min ws.length (zs.map V.int).length := by rw [List.length_zip, List.length_map]
          rw [← lz, List.take_length] at p1
          refine ⟨D, (ws.zip zs).map (fun z => inI 0 (z.2 - 1) z.1), rfl, SqL.of p1, ?_⟩
          have en : ((ws.zip zs).map fun z => inI 0 (z.2 - 1) z.1).all id = valsB ws zs := by
            unfold valsB; rw [decide_eq_true el, Bool.true_and, List.all_map]; rfl
          rw [en]
          exact q H2 p2

end K09
namespace K09
open PySem PySem.Spec PyProof.Rows L2 TL
theorem sizes_zs {L : List (Str × Int)} (ok : VarsOk L) {sc : List Str} (h : ∀ x ∈ sc, x ∈ L.map (·.1)) : ∀ x ∈ sc, valV (kvL L) (Sum.inr x) = some (.int (sizeOf L x)) := fun x hx => (sizes_val ok (h x hx)).1
def sp_arebad (K : PySem.W.Frag) : Sp := fun vs H Q _ => ∃ (a p : Addr) (ys : List V) (bad : List (List Int)) (G : Addr → Prop) (zs : List Int), vs = [.ref a, .ref p] ∧ Sq K H a ys ∧ Paired (isTupI H G) ys bad ∧ H p = some (.lst (zs.map V.int)) ∧ zs.length ≤ 8 ∧ bad.length ≤ 12 ∧ bad.Nodup ∧ (∀ ns ∈ bad, ns.length = zs.length) ∧
  (∀ ns ∈ bad, ∀ (i : Nat) (n z : Int), ns[i]? = some n → zs[i]? = some z → 0 ≤ n ∧ n < z) ∧ ∀ H', Same H H' → Q (.bl true) H'
theorem pd_take {α β : Type} {F : α → β → Prop} : ∀ {l₁ : List α} {l₂ : List β} (i : Nat), Paired F l₁ l₂ → Paired F (l₁.take i) (l₂.take i)
  | _, _, 0, _ => by simp only [List.take_zero]; exact .nil
  | _, _, _ + 1, .nil => .nil
  | _, _, i + 1, .cons r t => .cons r (pd_take i t)
theorem ok__are_bad_tuples {P : Program} {w : World} {K : PySem.W.Frag} {mg : Str → Option Value} {base : Heap} (T : Txt P K mg) : FnOk P w K mg base CX0 4 T.f__are_bad_tuples T.fd__are_bad_tuples ["bad_tuples", "sizes"] (sp_arebad K) := by
  refine T.F__are_bad_tuples.ok sc__are_bad_tuples (fun vs H Q E h => ?_) (fun cdv A outer s H vs Q E hr h => ?_)
  · obtain ⟨_, _, _, _, _, _, rfl, _⟩ := h; rfl
  · obtain ⟨a, p, ys, bad, G, zs, rfl, hS, pd, hp, z8, b12, nd, bl, bv, q⟩ := h
    have lys := pd.length
    refine ⟨_, PSs.nox (pss_cons (ps_set (i := 2) sc__are_bad_tuples.nd rfl (Or.inl rfl) (pe_lst pa_nil))
      (pss_cons (ps_for PassesOwn.never rfl (pi_or (pi_list (pv 0)) (pi_tup (pv 0))) (pg_name (i := 3) sc__are_bad_tuples.nd rfl (Or.inl rfl)) (pss_cons (ps_if (PW.pt (pw_or (pt_not (pt_val (pe_call (ok__are_values T) (hr.mono (by decide)) (by rfl) T.g__are_values T.F__are_values.kp (b__are_values T) .nil pass0 (pa_cons (pv 3) (pa_cons (pv 1) pa_nil))))) (pw_or1 (pt_cmpR (show OpR _ (compareOp .In) (rInD K) from op_inD (hu65 hr)) (pv 3) (pv 2) (by first | rfl | with_unfolding_all rfl))))) (pss_one (ps_ret pe_bl)) pss_nil)
      (pss_one (ps_expr (pe_bm PySem.F.plainAttrs_list PySem.F.slot_list_append PySem.F.type_list_append mt_append (pv 2) (pa_cons (pv 3) pa_nil))))))
      (pss_one (ps_ret pe_bl)))), ?_⟩
    refine ⟨Nat.zero_le _, fun l nl => ?_⟩
    refine or_walkA (fun R' h => ⟨_, rfl, h⟩) hS.sq (fun o e => Same.new nl a o e) fun J G1 w g => for_it w (fun i σ H' => ∃ x3, σ = [some (.ref a), some (.ref p), some (.ref l), x3] ∧ Same H H' ∧ H' l = some (.lst (ys.take i))) ?_ ?_ ?_ ?_
    · exact ⟨_, rfl, Same.new nl, upd_same⟩
    · rintro i σ H' _ ⟨x3, rfl, s1, hl⟩
      exact g H' (s1 a)
    · rintro i x σ Hx H' hi ⟨x3, rfl, s1, hl⟩ ⟨rfl, hx⟩
      obtain ⟨ns, hn, hT⟩ := pd_get pd hx
      obtain ⟨li, ens⟩ := List.getElem?_eq_some_iff.mp hn
      have hT' := hT
      obtain ⟨t, rfl, _, ht⟩ := hT'
      have mm := List.mem_of_getElem? hn
      refine ⟨_, rfl, _, rfl, .ref t, p, zs, rfl, s1 _ _ hp, z8, .inr ⟨t, _, rfl, s1 _ _ ht, fun x hx => (by obtain ⟨i, _, rfl⟩ := List.mem_map.mp hx; exact .inl ⟨i, rfl⟩), fun H2 s2 => ?_⟩⟩
      rw [valsB_ok (bl ns mm) (bv ns mm)]
      have s12 := s1.trans s2
      refine ⟨_, rfl, ?_⟩
      refine ⟨_, rfl, _, rfl, tupD ns, (bad.take i).map tupD, dp_tup (hT.same s12), .lst (SqL.of (s2 _ _ hl)) (dp_all (fun _ _ z => dp_tup z) (pd_take i (Paired.mono (fun _ _ z => isTupI.same z s12) pd))), (shd_tup ns).shaped (by decide), (shd_tups _).shaped (by decide), _, rfl, ?_⟩
      rw [any_tups, decide_eq_false (by rw [← ens]; exact not_mem_take nd li)]
      refine iteF ⟨_, rfl, .inl ⟨rfl, _, SqL.of (s2 _ _ hl)⟩, _, rfl, l, _, _, rfl, rfl, s2 _ _ hl, by rw [List.length_take, sizeLine_eq]; omega, ?_⟩
      obtain ⟨lj, ex⟩ := List.getElem?_eq_some_iff.mp hx
      exact ⟨_, rfl, Same.upd_p s12 nl, by rw [upd_same, take_snoc lj, ex]⟩
    · rintro σ H' ⟨x3, rfl, s1, hl⟩
      exact q H' s1
def sp_erow (K : PySem.W.Frag) : Sp := fun vs H Q _ => ∃ (t a b : Addr) (x : Str) (xs ys : List V), vs = [.ref t] ∧ H t = some (.tup [.str x, .ref a, .ref b]) ∧ NameOk x ∧ Sq K H a xs ∧ Sq K H b ys ∧ 1 ≤ xs.length ∧ xs.length ≤ 4 ∧ ys.length ≤ 12 ∧ ∀ H', Same H H' → Q (.bl true) H'
theorem ok__is_event_row {P : Program} {w : World} {K : PySem.W.Frag} {mg : Str → Option Value} {base : Heap} (T : Txt P K mg) : FnOk P w K mg base CX0 2 T.f__is_event_row T.fd__is_event_row ["row"] (sp_erow K) := by
  refine T.F__is_event_row.ok sc__is_event_row (fun vs H Q E h => ?_) (fun cdv A outer s H vs Q E hr h => ?_)
  · obtain ⟨_, _, _, _, _, _, rfl, _⟩ := h; rfl
  · obtain ⟨t, a, b, x, xs, ys, rfl, ht, hn, ha, hb, x1, x4, y12, q⟩ := h
    refine ⟨_, PSs.nox (pss_cons (ps_if (PW.pt (pw_or (pt_not (pt_val (pe_callB (show CallR _ _ (rIsi K) from call_isi) (by rfl) T.n_isinstance (by decide +kernel) (pa_cons (pv 0) (pa_cons (pe_bltn (v := .ty "tuple") (by rfl) T.n_tuple (by decide +kernel) rfl) pa_nil))))) (pw_or1 (pt_cmpR op_ne (pe_callB (show CallR _ _ (rLenSeq K) from call_len_seq) (by rfl) T.n_len (by decide +kernel) (pa_cons (pv 0) pa_nil)) pe_int (nomark _))))) (pss_one (ps_ret pe_bl)) pss_nil)
      (pss_one (ps_ret (pe_and (pe_call (ok_is_name T) (hr.mono (by decide)) (by rfl) T.g_is_name T.F_is_name.kp (b_is_name T) .nil pass0 (pa_cons (pe_ix (show IxR _ (rIxT K) from ix_tup) (pv 0) pe_int (fun _ _ => rfl)) pa_nil)) (pe_and (pe_call (ok_is_list T) (hr.mono (by decide)) (by rfl) T.g_is_list T.F_is_list.kp (b_is_list T) .nil pass0 (pa_cons (pe_ix (show IxR _ (rIxT K) from ix_tup) (pv 0) pe_int (fun _ _ => rfl)) (pa_cons pe_int (pa_cons pe_int pa_nil)))) (pe_one (pe_call (ok_is_list T) (hr.mono (by decide)) (by rfl) T.g_is_list T.F_is_list.kp (b_is_list T) .nil pass0 (pa_cons (pe_ix (show IxR _ (rIxT K) from ix_tup) (pv 0) pe_int (fun _ _ => rfl)) (pa_cons pe_int (pa_cons pe_int pa_nil)))))))))), ?_⟩
    refine ⟨_, rfl, _, _, _, _, _, rfl, .ty _, .base (.tup ht), kit_tt, _, rfl, ?_⟩
    refine ⟨_, rfl, t, _, rfl, .inr (.inl (.inl ht)), rfl, _, rfl, ?_⟩
    refine ⟨_, rfl, t, _, (0 : Int), _, rfl, rfl, .inl (.inl ht), rfl, x, rfl, hn, fun H1 s1 => ?_⟩
    refine ⟨_, rfl, ?_⟩
    refine ⟨_, rfl, t, _, (1 : Int), _, rfl, rfl, .inl (.inl (s1 _ _ ht)), rfl, a, xs, 1, 4, rfl, ha.same s1, by omega, by omega, fun H2 s2 => ?_⟩
    have s12 := s1.trans s2
    refine ⟨_, rfl, ?_⟩
    exact ⟨_, rfl, t, _, (2 : Int), _, rfl, rfl, .inl (.inl (s12 _ _ ht)), rfl, b, ys, 0, 12, rfl, hb.same s12, by omega, by omega, fun H3 s3 => q H3 (s12.trans s3)⟩
def sp_evs (K : PySem.W.Frag) : Sp := fun vs H Q _ => ∃ (a d : Addr) (xs : List V) (F G : Addr → Prop) (L : List (Str × Int)) (R : List Row), vs = [.ref a, .ref d] ∧ Sq K H a xs ∧ Paired (isRow H F G) xs R ∧ H d = some (.dK (kvL L)) ∧ VarsOk L ∧ EvsOk L R ∧ ∀ H', Same H H' → Q .non H'
theorem ok__check_events {P : Program} {w : World} {K : PySem.W.Frag} {mg : Str → Option Value} {base : Heap} (T : Txt P K mg) : FnOk P w K mg base CX0 5 T.f__check_events T.fd__check_events ["events", "sizes"] (sp_evs K) := by
  refine T.F__check_events.ok sc__check_events (fun vs H Q E h => ?_) (fun cdv A outer s H vs Q E hr h => ?_)
  · obtain ⟨_, _, _, _, _, _, _, rfl, _⟩ := h; rfl
  · obtain ⟨a, d, xs, F, G, L, R, rfl, hS, pd, hd, okL, okR, q⟩ := h
    have lxs := pd.length
    have r8 := okR.few
    refine ⟨_, PSs.nox (pss_cons (ps_if (PW.pt (pw_or (pt_not (pt_val (pe_call (ok_is_list T) (hr.mono (by decide)) (by rfl) T.g_is_list T.F_is_list.kp (b_is_list T) .nil pass0 (pa_cons (pv 0) (pa_cons pe_int (pa_cons (pe_glob (v := .int 8) (by rfl) T.c_MOST_EVENTS.choose_spec ⟨_, rfl⟩) pa_nil)))))) (pw_or1 (pt_not (pt_val (pe_callB (show CallR _ _ (rAll K) from cr_all rfl) (by rfl) T.n_all (by decide +kernel) (pa_cons (pe_lc (own := [("row", 6)]) (g := gName 6) rfl sc__check_events.nd (pi_or (pi_list (pv 0)) (pi_tup (pv 0))) (blkOk_by (own := [("row", 6)]) (N := N__check_events) (sc := defScope s__check_events) (by decide +kernel)) (fun _ _ _ _ _ => (pg_name (i := 6) sc__check_events.nd rfl (Or.inl rfl))) (fun _ _ _ _ _ => pts_nil) (fun _ _ _ _ _ => (pe_call (ok__is_event_row T) (hr.mono (by decide)) (by rfl) T.g__is_event_row T.F__is_event_row.kp (b__is_event_row T) .nil pass0 (pa_cons (pv 6) pa_nil)))) pa_nil))))))) (pss_one ps_never) pss_nil)
      (pss_cons (ps_set (i := 2) sc__check_events.nd rfl (Or.inl rfl) (pe_lst pa_nil))
      (pss_one (ps_for PassesOwn.never rfl (pi_or (pi_list (pv 0)) (pi_tup (pv 0))) (pg_tup rfl (pgs_cons (pg_name (i := 3) sc__check_events.nd rfl (Or.inl rfl)) (pgs_cons (pg_name (i := 4) sc__check_events.nd rfl (Or.inl rfl)) (pgs_cons (pg_name (i := 5) sc__check_events.nd rfl (Or.inl rfl)) pgs_nil)))) (pss_cons (ps_if (pt_cmpR (show OpR _ (compareOp .In) (rIn K false) from op_in_seq) (pv 3) (pv 2) (by first | rfl | with_unfolding_all rfl)) (pss_one ps_never) pss_nil)
      (pss_cons (ps_expr (pe_bm PySem.F.plainAttrs_list PySem.F.slot_list_append PySem.F.type_list_append mt_append (pv 2) (pa_cons (pv 3) pa_nil)))
      (pss_cons (ps_expr (pe_call (ok__check_scope T) (hr.mono (by decide)) (by rfl) T.g__check_scope T.F__check_scope.kp (b__check_scope T) .nil pass0 (pa_cons (pv 4) (pa_cons (pv 1) pa_nil))))
      (pss_one (ps_if (pt_not (pt_val (pe_call (ok__are_bad_tuples T) (hr.mono (by decide)) (by rfl) T.g__are_bad_tuples T.F__are_bad_tuples.kp (b__are_bad_tuples T) .nil pass0 (pa_cons (pv 5) (pa_cons (pe_lc (own := [("variable", 7)]) (g := gName 7) rfl sc__check_events.nd (pi_or (pi_list (pv 4)) (pi_tup (pv 4))) (blkOk_by (own := [("variable", 7)]) (N := N__check_events) (sc := defScope s__check_events) (by decide +kernel)) (fun _ _ _ _ _ => (pg_name (i := 7) sc__check_events.nd rfl (Or.inl rfl))) (fun _ _ _ _ _ => pts_nil) (fun _ _ _ _ _ => (pe_dget (hu_of hr) (pv 1) (pv 7) (fun _ _ => rfl)))) pa_nil))))) (pss_one ps_never) pss_nil))))))))), ?_⟩
    refine ⟨_, rfl, a, xs, 0, 8, rfl, hS, by omega, by omega, fun H1 s1 => ?_⟩
    refine ⟨_, rfl, ?_⟩
    refine or_walkA (fun R' h => ⟨_, rfl, h⟩) hS.sq (s1 a) fun J G1 w g D nD => ?_
    refine lc_it w (fun i H' => H' D = some (.lst (List.replicate i (.bl true))) ∧ Same H1 H') ⟨upd_same, Same.new nD⟩ (fun i H' _ p => g H' fun o e => p.2 a o (s1 a o e)) ?_ ?_
    · rintro i x H2 H3 hi ⟨p1, p2⟩ ⟨rfl, hx⟩
      obtain ⟨r, hr', t, ta, tb, ys, rfl, _, ht, la, lb, pb⟩ := pd_get pd hx
      have rok := okR.ok r (List.mem_of_getElem? hr')
      have s13 := s1.trans p2
      have k1 := rok.pos
      have k2 := rok.few
      have k3 := rok.bfew
      have k4 := pb.length
      refine ⟨rfl, _, rfl, t, ta, tb, r.1, _, ys, rfl, s13 _ _ ht, rok.nm, la.s.same s13, lb.s.same s13, by rw [List.length_map]; omega, by rw [List.length_map]; omega, by omega, fun H4 s4 => ?_⟩
      exact ⟨_, s4 _ _ p1, by rw [List.length_replicate, sizeLine_eq]; omega, by rw [upd_same, List.replicate_succ'], Same.upd_p (p2.trans s4) nD⟩
    · rintro H2 ⟨p1, p2⟩
      refine ⟨D, List.replicate xs.length true, rfl, SqL.of (by rw [p1, List.map_replicate]), ?_⟩
      have e : (List.replicate xs.length true).all id = true := by simp
      rw [e]
      refine ⟨_, rfl, ?_⟩
      have s2 := s1.trans p2
      refine ⟨Nat.zero_le _, fun l nl => ?_⟩
      have nlH : H l = none := by
        cases e : H l with
        | none => rfl
        | some o => rw [s2 _ _ e] at nl; cases nl
      refine or_walkA (fun R' h => ⟨_, rfl, h⟩) hS.sq (fun o e => (s2.trans (Same.new nl)) a o e) fun J G2 w g2 => for_it w (fun i σ H' => ∃ x3 x4 x5, σ = [some (.ref a), some (.ref d), some (.ref l), x3, x4, x5, none, none] ∧ Same H H' ∧ H' l = some (.lst ((R.take i).map fun r => V.str r.1))) ?_ ?_ ?_ ?_
      · exact ⟨_, _, _, rfl, s2.trans (Same.new nl), upd_same⟩
      · rintro i σ H' _ ⟨x3, x4, x5, rfl, s3, hl⟩
        exact g2 H' (s3 a)
      · rintro i x σ Hx H' hi ⟨x3, x4, x5, rfl, s3, hl⟩ ⟨rfl, hx⟩
        obtain ⟨r, hr', t, ta, tb, ys, rfl, _, ht, la, lb, pb⟩ := pd_get pd hx
        obtain ⟨li, er⟩ := List.getElem?_eq_some_iff.mp hr'
        have rok := okR.ok r (List.mem_of_getElem? hr')
        have nin : r.1 ∉ (R.map (·.1)).take i := by
          have := not_mem_take okR.nd (i := i) (by rw [List.length_map]; exact li)
          rw [List.getElem_map, er] at this
          exact this
        have hl2 : H' l = some (.lst (((R.map (·.1)).take i).map V.str)) := by rw [hl, ← List.map_take, List.map_map]; rfl
        have k2 := rok.few
        refine ⟨t, _, rfl, .inl (.inl (s3 _ _ ht)), rfl, _, _, rfl, _, _, rfl, _, _, rfl, rfl, ?_⟩
        refine ⟨_, rfl, _, rfl, l, _, rfl, .inl (SqL.of hl2), rfl, flat_str _, _, rfl, ?_⟩
        rw [inV_str, decide_eq_false nin]
        refine iteF ⟨_, rfl, .inl ⟨rfl, _, SqL.of hl2⟩, _, rfl, l, _, _, rfl, rfl, hl2, by rw [List.length_map, List.length_take, sizeLine_eq]; omega, ?_⟩
        have s4 := Same.upd_p (o := .lst (((R.map (·.1)).take i).map V.str ++ [V.str r.1])) s3 nlH
        have hl4 : upd H' l (.lst (((R.map (·.1)).take i).map V.str ++ [V.str r.1])) l = some (.lst ((R.take (i + 1)).map fun r => V.str r.1)) := by
          rw [upd_same, take_snoc li, List.map_append, ← List.map_take, List.map_map, er]; rfl
        generalize upd H' l (.lst (((R.map (·.1)).take i).map V.str ++ [V.str r.1])) = H4 at s4 hl4
        have hv := sizes_zs okL rok.sub
        refine ⟨_, rfl, _, rfl, ta, d, r.2.1, _, rfl, (la.s.same s4).sq, s4 _ _ hd, fun x hx => ⟨_, hv x hx⟩, rok.nd, by omega, fun H5 s5 => ?_⟩
        have s45 := s4.trans s5
        refine ⟨_, rfl, ?_⟩
        refine or_walkA (fun R' h => ⟨_, rfl, h⟩) la.s.sq (s45 ta) fun J3 G3 w3 g3 D3 nD3 => ?_
        refine lc_it w3 (fun i H' => H' D3 = some (.lst (((r.2.1.take i).map (sizeOf L)).map V.int)) ∧ Same H5 H') ⟨upd_same, Same.new nD3⟩ (fun i H' _ p => g3 H' fun o e => p.2 ta o (s45 ta o e)) ?_ ?_
        · rintro j y H6 H7 hj ⟨p1, p2⟩ ⟨rfl, hy⟩
          obtain ⟨lj, rfl⟩ := str_at' hy
          have hvj := hv _ (List.getElem_mem lj)
          have dg : DGet H7 d (.str r.2.1[j]) (some (.int (sizeOf L r.2.1[j]))) := by rw [← hvj]; exact DGet.k (k := Sum.inr r.2.1[j]) (p2 _ _ (s45 _ _ hd))
          refine ⟨rfl, _, rfl, _, rfl, d, _, rfl, dg, _, p1, by rw [List.length_map, List.length_map, List.length_take, sizeLine_eq]; omega, ?_, Same.upd_p p2 nD3⟩
          rw [upd_same, take_snoc lj, List.map_append, List.map_append]; rfl
        · rintro H6 ⟨p1, p2⟩
          rw [List.length_map, List.take_length] at p1
          have s6 := s45.trans p2
          refine ⟨tb, D3, ys, r.2.2, G, r.2.1.map (sizeOf L), rfl, lb.s.same s6, Paired.mono (fun _ _ z => isTupI.same z s6) pb, p1, by rw [List.length_map]; omega, rok.bfew, rok.bnd, fun ns hns => by rw [List.length_map]; exact rok.bl ns hns, fun ns hns k n z h1 h2 => ?_, fun H7 s7 => ?_⟩
          · rw [List.getElem?_map] at h2
            cases e : r.2.1[k]? with
            | none => rw [e] at h2; cases h2
            | some x => rw [e] at h2; cases h2; exact rok.bv ns hns k x n e h1
          · exact ⟨_, rfl, _, _, _, rfl, s6.trans s7, s7 _ _ (p2 _ _ (s5 _ _ hl4))⟩
      · rintro σ H' ⟨x3, x4, x5, rfl, s3, hl⟩
        exact q H' s3

end K09
namespace K09
open PySem PySem.Spec PyProof.Rows L2 TL
/-! ### bad tuples in ascending order -/
theorem code_inj {B : Int} : ∀ {r q : List Int}, r.length = q.length → TS.Bd B r → TS.Bd B q → TS.code B r ≤ TS.code B q → TS.code B q ≤ TS.code B r → r = q
  | [], [], _, _, _, _, _ => rfl
  | [], _ :: _, h, _, _, _, _ => by simp at h
  | _ :: _, [], h, _, _, _, _ => by simp at h
  | d :: r, e :: q, hl, hr, hq, h1, h2 => by
    have hl' : r.length = q.length := by simpa using hl
    have he : d = e := by
      rcases Int.lt_trichotomy d e with h | h | h
      · have := TS.code_lt (B := B) hl' hr.tail hq.tail h; omega
      · exact h
      · have := TS.code_lt (B := B) hl'.symm hq.tail hr.tail h; omega
    subst he
    have a1 : ¬ TS.code B q < TS.code B r := fun h => by have := (TS.code_same (B := B) (d := d) hl'.symm).mpr h; omega
    have a2 : ¬ TS.code B r < TS.code B q := fun h => by have := (TS.code_same (B := B) (d := d) hl').mpr h; omega
    rw [code_inj hl' hr.tail hq.tail (by omega) (by omega)]
def Srt (bad out : List (List Int)) : Prop := out.Perm bad ∧ out.Pairwise fun x y => TS.code 6 x ≤ TS.code 6 y
theorem Srt.uniq {bad o1 o2 : List (List Int)} {d : Nat} (hb : ∀ ns ∈ bad, ns.length = d ∧ TS.Bd 6 ns) (h1 : Srt bad o1) (h2 : Srt bad o2) : o1 = o2 :=
  List.Perm.eq_of_pairwise (fun a b ha hb' l1 l2 => code_inj ((hb a (h1.1.mem_iff.mp ha)).1.trans (hb b (h2.1.mem_iff.mp hb')).1.symm) (hb a (h1.1.mem_iff.mp ha)).2 (hb b (h2.1.mem_iff.mp hb')).2 l1 l2) h1.2 h2.2 (h1.1.trans h2.1.symm)
theorem row_bd {L : List (Str × Int)} (ok : VarsOk L) {r : Row} (h : RowOk L r) : ∀ ns ∈ r.2.2, ns.length = r.2.1.length ∧ TS.Bd 6 ns := fun ns hns => by
  refine ⟨h.bl ns hns, fun v hv => ?_⟩
  obtain ⟨i, hi⟩ := List.getElem?_of_mem hv
  obtain ⟨li, _⟩ := List.getElem?_eq_some_iff.mp hi
  rw [h.bl ns hns] at li
  have hx := List.getElem?_eq_getElem li
  obtain ⟨a, b⟩ := h.bv ns hns i _ v hx hi
  have := (sizes_val ok (h.sub _ (List.getElem_mem li))).2.2
  omega
def intOf : V → Int | .int i => i | _ => 0
def rdT (H : Hp) : V → List Int | .ref t => (match H t with | some (.tup vs) => vs.map intOf | _ => []) | _ => []
theorem rdT_is {H : Hp} {G : Addr → Prop} {x : V} {ns : List Int} (h : isTupI H G x ns) : rdT H x = ns := by
  obtain ⟨t, rfl, _, ht⟩ := h
  unfold rdT
  simp only [ht, List.map_map]
  have : (intOf ∘ V.int) = id := rfl
  rw [this, List.map_id]
theorem pd_mem {α β : Type} {F : α → β → Prop} : ∀ {l₁ : List α} {l₂ : List β}, Paired F l₁ l₂ → ∀ x ∈ l₁, ∃ y ∈ l₂, F x y
  | _, _, .nil, _, h => by cases h
  | _, _, .cons r t, x, h => by
    rcases List.mem_cons.mp h with rfl | h
    · exact ⟨_, List.mem_cons_self, r⟩
    · obtain ⟨y, hy, f⟩ := pd_mem t x h
      exact ⟨y, List.mem_cons_of_mem _ hy, f⟩
theorem map_rdT {H : Hp} {G : Addr → Prop} : ∀ {xs : List V} {bad : List (List Int)}, Paired (isTupI H G) xs bad → xs.map (rdT H) = bad
  | _, _, .nil => rfl
  | _, _, .cons r t => by rw [List.map_cons, rdT_is r, map_rdT t]
theorem pd_all {α β : Type} {F : α → β → Prop} (f : α → β) : ∀ {l : List α}, (∀ x ∈ l, F x (f x)) → Paired F l (l.map f)
  | [], _ => .nil
  | x :: r, h => .cons (h x List.mem_cons_self) (pd_all f fun z hz => h z (List.mem_cons_of_mem _ hz))
theorem sort_out {H : Hp} {G : Addr → Prop} {xs ys : List V} {bad : List (List Int)} (pd : Paired (isTupI H G) xs bad) (pm : ys.Perm xs) (pw : ys.Pairwise fun x y => TS.code 6 (rdT H x) ≤ TS.code 6 (rdT H y)) :
    Srt bad (ys.map (rdT H)) ∧ Paired (isTupI H G) ys (ys.map (rdT H)) := by
  refine ⟨⟨?_, ?_⟩, pd_all _ fun x hx => ?_⟩
  · rw [← map_rdT pd]; exact pm.map _
  · rw [List.pairwise_map]; exact pw
  · obtain ⟨ns, _, h⟩ := pd_mem pd x (pm.mem_iff.mp hx)
    rw [rdT_is h]; exact h
theorem sort_in {K : PySem.W.Frag} {H : Hp} {G : Addr → Prop} {xs : List V} {bad : List (List Int)} {d : Nat} (pd : Paired (isTupI H G) xs bad) (hb : ∀ ns ∈ bad, ns.length = d ∧ TS.Bd 6 ns) :
    ∀ x ∈ xs, ∃ t, x = V.ref t ∧ SqT K H t ((rdT H x).map V.int) ∧ (rdT H x).length = d ∧ TS.Bd 6 (rdT H x) := fun x hx => by
  obtain ⟨ns, hns, h⟩ := pd_mem pd x hx
  obtain ⟨h1, h2⟩ := hb ns hns
  rw [rdT_is h]
  obtain ⟨t, rfl, _, ht⟩ := h
  exact ⟨t, rfl, .inl (.inl ht), h1, h2⟩
/-! ### neighbors -/
def share (a b : List Str) : Bool := a.any fun x => decide (x ∈ b)
def nbs (R : List Row) (r : Row) : List Str := (R.filter fun s => (!decide (s.1 = r.1)) && share r.2.1 s.2.1).map (·.1)
abbrev Ent := Str × Addr × Addr
def kvS (E : List Ent) : List (Key × V) := E.map fun q => ((Sum.inr q.1 : Key), V.ref q.2.1)
def kvB (E : List Ent) : List (Key × V) := E.map fun q => ((Sum.inr q.1 : Key), V.ref q.2.2)
theorem val_map {α : Type} (f : α → Str) (g : α → V) : ∀ {l : List α} {x : α}, (l.map f).Nodup → x ∈ l → valV (l.map fun y => ((Sum.inr (f y) : Key), g y)) (Sum.inr (f x)) = some (g x)
  | y :: r, x, nd, h => by
    rw [List.map_cons, List.nodup_cons] at nd
    rcases List.mem_cons.mp h with rfl | h
    · exact valV_pos rfl
    · have ne : f y ≠ f x := fun e => nd.1 (by rw [e]; exact List.mem_map.mpr ⟨x, h, rfl⟩)
      rw [List.map_cons, valV_neg (fun z => ne (Sum.inr.inj z))]
      exact val_map f g nd.2 h
theorem Same.none {H H' : Hp} {p : Addr} (s : Same H H') (h : H' p = none) : H p = none := by
  cases e : H p with
  | none => rfl
  | some o => rw [s _ _ e] at h; cases h
def scAt (H : Hp) (q : Ent) (r : Row) : Prop := q.1 = r.1 ∧ H q.2.1 = some (.lst (r.2.1.map V.str))
theorem sc_keys {H : Hp} : ∀ {E : List Ent} {R : List Row}, Paired (scAt H) E R → E.map (·.1) = R.map (·.1)
  | _, _, .nil => rfl
  | _, _, .cons r t => by rw [List.map_cons, List.map_cons, r.1, sc_keys t]
theorem dec_vstr {x y : Str} : decide (V.str x = V.str y) = decide (x = y) := by
  by_cases h : x = y
  · subst h; simp
  · rw [decide_eq_false h, decide_eq_false fun z => h (V.str.inj z)]
def sp_nb : Sp := fun vs H Q _ => ∃ (d : Addr) (o : Obj) (E : List Ent) (R : List Row) (r : Row), vs = [.str r.1, .ref d] ∧ H d = some (.frz o (.dK (kvS E))) ∧ R.length ≤ 8 ∧ (R.map (·.1)).Nodup ∧ r ∈ R ∧ Paired (scAt H) E R ∧ (∀ r ∈ R, r.2.1.length ≤ 4) ∧
  ∀ p H', Same H H' → H p = none → H' p = some (.lst ((nbs R r).map V.str)) → Q (.ref p) H'
theorem ok__neighbors_of {P : Program} {w : World} {K : PySem.W.Frag} {mg : Str → Option Value} {base : Heap} (T : Txt P K mg) : FnOk P w K mg base CX0 1 T.f__neighbors_of T.fd__neighbors_of ["event", "scopes"] (sp_nb) := by
  refine T.F__neighbors_of.ok sc__neighbors_of (fun vs H Q E h => ?_) (fun cdv A outer s H vs Q E hr h => ?_)
  · obtain ⟨_, _, _, _, _, rfl, _⟩ := h; rfl
  · obtain ⟨d, o, E, R, r, rfl, hd, r8, nd, hr', pd, l4, qq⟩ := h
    have lE := pd.length
    have ndE : (E.map (·.1)).Nodup := by rw [sc_keys pd]; exact nd
    obtain ⟨ir, hir⟩ := List.getElem?_of_mem hr'
    obtain ⟨q, hq, eq, hsc⟩ := pd_get' pd hir
    have mq := List.mem_of_getElem? hq
    have r4 := l4 r hr'
    refine ⟨_, PSs.nox (pss_cons (ps_set (i := 2) sc__neighbors_of.nd rfl (Or.inl rfl) (pe_lst pa_nil))
      (pss_cons (ps_for PassesOwn.never rfl (pi_items (pv 1)) (pg_tup rfl (pgs_cons (pg_name (i := 3) sc__neighbors_of.nd rfl (Or.inl rfl)) (pgs_cons (pg_name (i := 4) sc__neighbors_of.nd rfl (Or.inr rfl)) pgs_nil))) (pss_one (ps_if (PW.pt (pw_and (pt_cmpR op_ne (pv 3) (pv 0) (nomark _)) (pw_and1 (pt_val (pe_callB (show CallR _ _ (rAny K) from cr_any rfl) (by rfl) T.n_any (by decide +kernel) (pa_cons (pe_lc (own := [("variable", 5)]) (g := gName 5) rfl sc__neighbors_of.nd (pi_list (pe_dget (hu_of hr) (pv 1) (pv 0) (fun _ _ => rfl))) (blkOk_by (own := [("variable", 5)]) (N := N__neighbors_of) (sc := defScope s__neighbors_of) (by decide +kernel)) (fun _ _ _ _ _ => (pg_name (i := 5) sc__neighbors_of.nd rfl (Or.inl rfl))) (fun _ _ _ _ _ => pts_nil) (fun _ _ _ _ _ => (pe_cmpR (show OpR _ (compareOp .In) (rIn K false) from op_in_seq) (pv 5) (pv 4) (by first | rfl | with_unfolding_all rfl)))) pa_nil)))))) (pss_one (ps_expr (pe_bm PySem.F.plainAttrs_list PySem.F.slot_list_append PySem.F.type_list_append mt_append (pv 2) (pa_cons (pv 3) pa_nil)))) pss_nil)))
      (pss_one (ps_ret (pv 2))))), ?_⟩
    refine ⟨Nat.zero_le _, fun p np => ?_⟩
    refine ⟨_, rfl, d, o, kvS E, rfl, Same.new np _ _ hd, for_it walk_items (fun i σ H' => ∃ x3 x4, σ = [some (.str r.1), some (.ref d), some (.ref p), x3, x4, none] ∧ Same H H' ∧ H' p = some (.lst ((nbs (R.take i) r).map V.str))) ?_ ?_ ?_ ?_⟩
    · exact ⟨_, _, rfl, Same.new np, upd_same⟩
    · rintro i σ H' _ ⟨x3, x4, rfl, s1, hp⟩
      exact s1 _ _ hd
    · rintro i x σ H1 H2 hi ⟨x3, x4, rfl, s1, hp⟩ ⟨T, y1, y2, rfl, nT, rfl, e1, e2⟩
      have li : i < E.length := by unfold kvS at hi; rwa [List.length_map] at hi
      have liR : i < R.length := by omega
      obtain ⟨w, hw, ew, hsc2⟩ := pd_get pd (List.getElem?_eq_getElem li)
      obtain ⟨_, ew2⟩ := List.getElem?_eq_some_iff.mp hw
      have eq1 : (kvS E)[i]? = some (Sum.inr w.1, V.ref E[i].2.1) := by unfold kvS; rw [List.getElem?_map, List.getElem?_eq_getElem li, ← ew]; rfl
      simp only [eq1, Option.map_some] at e1 e2
      cases e1
      cases e2
      have s2 := Same.upd_p (o := .tup [kV (Sum.inr w.1), .ref E[i].2.1]) s1 (Same.none s1 nT)
      have hp2 : upd H1 T (.tup [kV (Sum.inr w.1), .ref E[i].2.1]) p = some (.lst ((nbs (R.take i) r).map V.str)) := by rw [upd_ne (ne_of_none hp nT)]; exact hp
      have hT2 : upd H1 T (.tup [kV (Sum.inr w.1), .ref E[i].2.1]) T = some (.tup [kV (Sum.inr w.1), .ref E[i].2.1]) := upd_same
      generalize upd H1 T (.tup [kV (Sum.inr w.1), .ref E[i].2.1]) = H2 at s2 hp2 hT2
      have e3 : nbs (R.take (i + 1)) r = nbs (R.take i) r ++ (if ((!decide (w.1 = r.1)) && share r.2.1 w.2.1) = true then [w.1] else []) := by
        unfold nbs
        rw [take_snoc liR, ew2, List.filter_append, List.map_append]
        congr 1
        by_cases h : ((!decide (w.1 = r.1)) && share r.2.1 w.2.1) = true
        · rw [if_pos h, List.filter_cons, if_pos h]; rfl
        · rw [if_neg h, List.filter_cons, if_neg h]; rfl
      have skip : ((!decide (w.1 = r.1)) && share r.2.1 w.2.1) = false → nbs (R.take (i + 1)) r = nbs (R.take i) r := fun h => by rw [e3, h]; simp
      have ln : (nbs (R.take i) r).length ≤ 8 := by
        unfold nbs
        rw [List.length_map]
        have := List.length_filter_le (fun s : Row => (!decide (s.1 = r.1)) && share r.2.1 s.2.1) (R.take i)
        rw [List.length_take] at this
        omega
      refine ⟨T, _, rfl, .inl (.inl hT2), rfl, _, _, rfl, _, _, rfl, rfl, ?_⟩
      refine ⟨_, rfl, _, rfl, rfl, _, rfl, ite2 (fun c => ?_) (fun c => ⟨_, _, rfl, s2, by
        have c' : (!decide (w.1 = r.1)) = false := by rw [← dec_vstr]; exact Bool.eq_false_iff.mpr c
        rw [skip (by rw [c', Bool.false_and])]
        exact hp2⟩)⟩
      have dg : DGet H2 d (.str r.1) (some (.ref q.2.1)) := .inl ⟨kvS E, Sum.inr r.1, .inr ⟨o, s2 _ _ hd⟩, rfl, by rw [← eq]; exact (val_map (fun q => q.1) (fun q => V.ref q.2.1) ndE mq).symm⟩
      refine ⟨_, rfl, _, rfl, d, _, rfl, dg, q.2.1, rfl, ⟨_, SqL.of (s2 _ _ hsc)⟩, fun D nD => ?_⟩
      refine lc_it (walk_list (K := K) (a := q.2.1) (xs := r.2.1.map V.str)) (fun j H' => H' D = some (.lst (((r.2.1.take j).map fun x => decide (x ∈ w.2.1)).map V.bl)) ∧ Same H2 H') ⟨upd_same, Same.new nD⟩ ?_ ?_ ?_
      · rintro j H' _ ⟨h1, h3⟩
        exact SqL.of (h3 _ _ (s2 _ _ hsc))
      · rintro j x H3 H4 hj ⟨h1, h3⟩ ⟨rfl, hx⟩
        rw [List.length_map] at hj
        obtain ⟨lj, rfl⟩ := str_at' hx
        refine ⟨rfl, _, rfl, _, rfl, E[i].2.1, _, rfl, .inl (SqL.of (h3 _ _ (s2 _ _ hsc2))), rfl, flat_str _, _, h1, by rw [List.length_map, List.length_map, List.length_take, sizeLine_eq]; omega, ?_, Same.upd_p h3 nD⟩
        rw [upd_same, inV_str, take_snoc lj, List.map_append, List.map_append]; rfl
      · rintro H3 ⟨h1, h3⟩
        rw [List.length_map, List.take_length] at h1
        refine ⟨D, r.2.1.map (fun x => decide (x ∈ w.2.1)), rfl, SqL.of h1, _, rfl, ?_⟩
        have es : (r.2.1.map fun x => decide (x ∈ w.2.1)).any id = share r.2.1 w.2.1 := by unfold share; rw [List.any_map]; rfl
        rw [es]
        have c' : (!decide (w.1 = r.1)) = true := by rw [← dec_vstr]; exact c
        by_cases hs : share r.2.1 w.2.1 = true
        · rw [hs]
          refine iteT ⟨_, rfl, .inl ⟨rfl, _, SqL.of (h3 _ _ hp2)⟩, _, rfl, p, _, _, rfl, rfl, h3 _ _ hp2, by rw [List.length_map, sizeLine_eq]; omega, ?_⟩
          refine ⟨_, _, rfl, Same.upd_p (s2.trans h3) np, ?_⟩
          rw [upd_same, e3, c', hs, if_pos (show (true && true) = true from rfl), List.map_append]; rfl
        · have hs' : share r.2.1 w.2.1 = false := Bool.eq_false_iff.mpr hs
          rw [hs']
          exact iteF ⟨_, _, rfl, s2.trans h3, by rw [skip (by rw [hs', Bool.and_false])]; exact h3 _ _ hp2⟩
    · rintro σ H' ⟨x3, x4, rfl, s1, hp⟩
      refine ⟨_, rfl, qq p H' s1 np ?_⟩
      have : (kvS E).length = R.length := by unfold kvS; rw [List.length_map, lE]
      rw [this, List.take_length] at hp
      exact hp

end K09
namespace K09
open PySem PySem.Spec PyProof.Rows L2 TL
/-! ### a problem that stands -/
def pfl (av ds dp ae dsc dbt dn : Addr) : List (Str × V) :=
  putF "_neighbors" (.ref dn) (putF "_bad_tuples" (.ref dbt) (putF "_scopes" (.ref dsc) (putF "_events" (.ref ae) (putF "_places" (.ref dp) (putF "_sizes" (.ref ds) (putF "_variables" (.ref av) []))))))
section
variable (av ds dp ae dsc dbt dn : Addr)
theorem pfl_variables : (pfl av ds dp ae dsc dbt dn).lookup ("_variables" : Str) = some (.ref av) := by
  unfold pfl
  iterate 6 refine (lookup_putF ..).trans ((if_neg (by decide +kernel)).trans ?_)
  exact (lookup_putF ..).trans (if_pos rfl)
theorem pfl_sizes : (pfl av ds dp ae dsc dbt dn).lookup ("_sizes" : Str) = some (.ref ds) := by
  unfold pfl
  iterate 5 refine (lookup_putF ..).trans ((if_neg (by decide +kernel)).trans ?_)
  exact (lookup_putF ..).trans (if_pos rfl)
theorem pfl_events : (pfl av ds dp ae dsc dbt dn).lookup ("_events" : Str) = some (.ref ae) := by
  unfold pfl
  iterate 3 refine (lookup_putF ..).trans ((if_neg (by decide +kernel)).trans ?_)
  exact (lookup_putF ..).trans (if_pos rfl)
theorem pfl_scopes : (pfl av ds dp ae dsc dbt dn).lookup ("_scopes" : Str) = some (.ref dsc) := by
  unfold pfl
  iterate 2 refine (lookup_putF ..).trans ((if_neg (by decide +kernel)).trans ?_)
  exact (lookup_putF ..).trans (if_pos rfl)
theorem pfl_bad : (pfl av ds dp ae dsc dbt dn).lookup ("_bad_tuples" : Str) = some (.ref dbt) := by
  unfold pfl
  iterate 1 refine (lookup_putF ..).trans ((if_neg (by decide +kernel)).trans ?_)
  exact (lookup_putF ..).trans (if_pos rfl)
end
def isEv (H : Hp) (F : Addr → Prop) (x : V) (q : Ent) : Prop := ∃ t, x = .ref t ∧ F t ∧ H t = some (.tup [.str q.1, .ref q.2.1, .ref q.2.2])
def isEnt (H : Hp) (F G : Addr → Prop) (q : Ent) (r : Row) : Prop := q.1 = r.1 ∧ F q.2.1 ∧ F q.2.2 ∧ H q.2.1 = some (.lst (r.2.1.map V.str)) ∧ ∃ ys out, H q.2.2 = some (.lst ys) ∧ Srt r.2.2 out ∧ Paired (isTupI H G) ys out
def kvN (N : List (Str × Addr)) : List (Key × V) := N.map fun q => ((Sum.inr q.1 : Key), V.ref q.2)
def isNb (H : Hp) (F : Addr → Prop) (R : List Row) (z : Str × Addr) (r : Row) : Prop := z.1 = r.1 ∧ F z.2 ∧ H z.2 = some (.lst ((nbs R r).map V.str))
def NbAt (H : Hp) (F : Addr → Prop) (R : List Row) (dn : Addr) : Prop := ∃ N, F dn ∧ H dn = some (.dK (kvN N)) ∧ Paired (isNb H F R) N R
def kvP (L : List (Str × Int)) : List (Key × V) := (L.map (·.1)).zipIdx.map fun z => ((Sum.inr z.1 : Key), V.int ((z.2 : Nat) : Int))
def PlAt (H : Hp) (F : Addr → Prop) (L : List (Str × Int)) (dp : Addr) : Prop := F dp ∧ H dp = some (.dK (kvP L))
def IsP (C : Addr) (H : Hp) (F G : Addr → Prop) (p : Addr) (L : List (Str × Int)) (R : List Row) : Prop := ∃ (dx av ds dp ae dsc dbt dn : Addr) (E : List Ent) (xs es : List V),
  H p = some (.ins C dx (pfl av ds dp ae dsc dbt dn)) ∧ (F p ∧ F av ∧ F ds ∧ F ae ∧ F dsc ∧ F dbt ∧ NbAt H F R dn ∧ PlAt H F L dp) ∧ (H av = some (.lst xs) ∧ Paired (isPair H G) xs L) ∧ H ds = some (.dK (kvL L)) ∧
  (H ae = some (.lst es) ∧ Paired (isEv H F) es E ∧ Paired (isEnt H F G) E R) ∧ H dsc = some (.dK (kvS E)) ∧ H dbt = some (.dK (kvB E))
section
variable {C : Addr} {H H' : Hp} {F F' G W : Addr → Prop}
theorem isEv.mv {x : V} {q : Ent} (h : isEv H F x q) (m : Mv W H H') (d : ∀ a, F a → ¬ W a) : isEv H' F x q := by
  obtain ⟨t, e, f, h⟩ := h
  exact ⟨t, e, f, m _ _ (d _ f) h⟩
theorem isEnt.mv {q : Ent} {r : Row} (h : isEnt H F G q r) (m : Mv W H H') (d : ∀ a, F a → ¬ W a) (d' : ∀ a, G a → ¬ W a) : isEnt H' F G q r := by
  obtain ⟨e, f1, f2, h1, ys, out, h2, s, pd⟩ := h
  exact ⟨e, f1, f2, m _ _ (d _ f1) h1, ys, out, m _ _ (d _ f2) h2, s, Paired.mono (fun _ _ z => z.mv m d') pd⟩
theorem isEv.wk {x : V} {q : Ent} (h : isEv H F x q) (f : ∀ a, F a → F' a) : isEv H F' x q := by
  obtain ⟨t, e, g, h⟩ := h
  exact ⟨t, e, f _ g, h⟩
theorem isEnt.wk {q : Ent} {r : Row} (h : isEnt H F G q r) (f : ∀ a, F a → F' a) : isEnt H F' G q r := by
  obtain ⟨e, f1, f2, h1, h2⟩ := h
  exact ⟨e, f _ f1, f _ f2, h1, h2⟩
theorem isNb.mv {R : List Row} {z : Str × Addr} {r : Row} (h : isNb H F R z r) (m : Mv W H H') (d : ∀ a, F a → ¬ W a) : isNb H' F R z r := ⟨h.1, h.2.1, m _ _ (d _ h.2.1) h.2.2⟩
theorem NbAt.mv {R : List Row} {dn : Addr} (h : NbAt H F R dn) (m : Mv W H H') (d : ∀ a, F a → ¬ W a) : NbAt H' F R dn := by
  obtain ⟨N, f, h1, h2⟩ := h
  exact ⟨N, f, m _ _ (d _ f) h1, Paired.mono (fun _ _ z => z.mv m d) h2⟩
theorem IsP.mv {p : Addr} {L : List (Str × Int)} {R : List Row} (h : IsP C H F G p L R) (m : Mv W H H') (d : ∀ a, F a → ¬ W a) (d' : ∀ a, G a → ¬ W a) : IsP C H' F G p L R := by
  obtain ⟨dx, av, ds, dp, ae, dsc, dbt, dn, E, xs, es, hp, ⟨f1, f2, f3, f4, f5, f6, f7⟩, ⟨h1, h2⟩, h3, ⟨h4, h5, h6⟩, h7, h8⟩ := h
  exact ⟨dx, av, ds, dp, ae, dsc, dbt, dn, E, xs, es, m _ _ (d _ f1) hp, ⟨f1, f2, f3, f4, f5, f6, f7.1.mv m d, f7.2.1, m _ _ (d _ f7.2.1) f7.2.2⟩, ⟨m _ _ (d _ f2) h1, Paired.mono (fun _ _ z => z.mv m d') h2⟩, m _ _ (d _ f3) h3,
    ⟨m _ _ (d _ f4) h4, Paired.mono (fun _ _ z => z.mv m d) h5, Paired.mono (fun _ _ z => z.mv m d d') h6⟩, m _ _ (d _ f5) h7, m _ _ (d _ f6) h8⟩
theorem IsP.same {p : Addr} {L : List (Str × Int)} {R : List Row} (h : IsP C H F G p L R) (m : Same H H') : IsP C H' F G p L R := h.mv (Mv.of_same m (W := fun _ => False)) (fun _ _ z => z) fun _ _ z => z
end
def Old (H : Hp) : Addr → Prop := fun a => ∃ o, H a = some o
def New (H : Hp) : Addr → Prop := fun a => H a = none
theorem isPair.old {H : Hp} {G : Addr → Prop} {x : V} {q : Str × Int} (h : isPair H G x q) : isPair H (Old H) x q := by
  obtain ⟨t, e, _, h⟩ := h
  exact ⟨t, e, ⟨_, h⟩, h⟩
theorem isTupI.old {H : Hp} {G : Addr → Prop} {x : V} {ns : List Int} (h : isTupI H G x ns) : isTupI H (Old H) x ns := by
  obtain ⟨t, e, _, h⟩ := h
  exact ⟨t, e, ⟨_, h⟩, h⟩
theorem LT.old {H : Hp} {F : Addr → Prop} {a : Addr} {xs : List V} (h : LT H F a xs) : LT H (Old H) a xs := ⟨h.2.elim (fun e => ⟨_, e⟩) fun e => ⟨_, e⟩, h.2⟩
theorem isRow.old {H : Hp} {F G : Addr → Prop} {x : V} {r : Row} (h : isRow H F G x r) : isRow H (Old H) (Old H) x r := by
  obtain ⟨p, a, b, ys, e, f, h, la, lb, hp⟩ := h
  exact ⟨p, a, b, ys, e, ⟨_, h⟩, h, la.old, lb.old, Paired.mono (fun _ _ z => z.old) hp⟩
theorem Mv.same_old {H H' : Hp} (s : Same H H') : ∀ a, Old H a → ∃ o, H' a = some o := fun a ⟨o, e⟩ => ⟨o, s _ _ e⟩
/-- what a dict's lock leaves -/
theorem Same.unlock {H H' : Hp} {d : Addr} {o : Obj} {u : HO} (h : H d = some u) (s : Same (upd H d (.frz o u)) H') : Same H (upd H' d u) := fun a v e => by
  by_cases ha : a = d
  · subst ha
    rw [h] at e
    cases e
    exact upd_same
  · rw [upd_ne ha]
    exact s a v (by rw [upd_ne ha]; exact e)
theorem frz_at {H H' : Hp} {d : Addr} {o : Obj} {u : HO} (s : Same (upd H d (.frz o u)) H') : H' d = some (.frz o u) := s _ _ upd_same
theorem kvL_take_len (L : List (Str × Int)) (i : Nat) : (kvL (L.take i)).length ≤ L.length := by
  unfold kvL; rw [List.length_map, List.length_take]; omega
theorem kvL_put {L : List (Str × Int)} (nd : (L.map (·.1)).Nodup) {i : Nat} (hi : i < L.length) : putK (kvL (L.take i)) (Sum.inr L[i].1) (.int L[i].2) = kvL (L.take (i + 1)) := by
  have hn := val_none (l := L.take i) (f := fun q => q.1) (g := fun q => V.int q.2) (x := L[i].1) (by
    have h := not_mem_take nd (i := i) (by rw [List.length_map]; exact hi)
    rw [List.getElem_map, ← List.map_take] at h
    exact h)
  unfold kvL
  rw [putK_new _ hn, take_snoc hi, List.map_append]
  rfl
theorem ent_put {g : Ent → V} {E : List Ent} (nd : (E.map (·.1)).Nodup) {i : Nat} (hi : i < E.length) : putK ((E.take i).map fun q => ((Sum.inr q.1 : Key), g q)) (Sum.inr E[i].1) (g E[i]) = (E.take (i + 1)).map fun q => ((Sum.inr q.1 : Key), g q) := by
  have hn := val_none (l := E.take i) (f := fun q => q.1) (g := g) (x := E[i].1) (by
    have h := not_mem_take nd (i := i) (by rw [List.length_map]; exact hi)
    rw [List.getElem_map, ← List.map_take] at h
    exact h)
  rw [putK_new _ hn, take_snoc hi, List.map_append]
  rfl

theorem kvP_snoc (L : List (Str × Int)) (q : Str × Int) : kvP (L ++ [q]) = kvP L ++ [((Sum.inr q.1 : Key), V.int ((L.length : Nat) : Int))] := by
  unfold kvP
  rw [List.map_append, List.zipIdx_append, List.map_append]
  simp
theorem zip_fst : ∀ (l : List Str) (k : Nat), (l.zipIdx k).map (fun z => (Sum.inr z.1 : Key)) = l.map Sum.inr
  | [], _ => rfl
  | x :: r, k => by rw [List.zipIdx_cons, List.map_cons, List.map_cons, zip_fst r (k + 1)]
theorem kvP_keys (L : List (Str × Int)) : (kvP L).map (·.1) = (L.map (·.1)).map Sum.inr := by
  unfold kvP
  rw [List.map_map]
  exact zip_fst _ 0
theorem kvP_len (L : List (Str × Int)) : (kvP L).length = L.length := by
  unfold kvP; simp
theorem kvP_put {L : List (Str × Int)} (nd : (L.map (·.1)).Nodup) {i : Nat} (hi : i < L.length) : putK (kvP (L.take i)) (Sum.inr L[i].1) (.int (i : Nat)) = kvP (L.take (i + 1)) := by
  have hn : valV (kvP (L.take i)) (Sum.inr L[i].1) = none := by
    unfold valV
    rw [Option.map_eq_none_iff, List.find?_eq_none]
    intro kv hkv e
    have h1 : kv.1 ∈ (kvP (L.take i)).map (·.1) := List.mem_map.mpr ⟨kv, hkv, rfl⟩
    rw [of_decide_eq_true e, kvP_keys] at h1
    obtain ⟨y, hy, e2⟩ := List.mem_map.mp h1
    cases (Sum.inr.inj e2)
    have h := not_mem_take nd (i := i) (by rw [List.length_map]; exact hi)
    rw [List.getElem_map, ← List.map_take] at h
    exact h hy
  rw [putK_new _ hn, take_snoc hi, kvP_snoc, List.length_take, Nat.min_eq_left (Nat.le_of_lt hi)]

end K09
namespace K09
open PySem PySem.Spec PyProof.Rows L2 TL
/-! ### making a problem -/
def sp_pinit (K : PySem.W.Frag) (C : Addr) : Sp := fun vs H Q _ => ∃ (H0 : Hp) (p dx a e : Addr) (xs ys : List V) (L : List (Str × Int)) (R : List Row), vs = [.ref p, .ref a, .ref e] ∧ H p = some (.ins C dx []) ∧ H0 p = none ∧ Same H0 H ∧
  Sq K H0 a xs ∧ Paired (isPair H0 (Old H0)) xs L ∧ VarsOk L ∧ Sq K H0 e ys ∧ Paired (isRow H0 (Old H0) (Old H0)) ys R ∧ EvsOk L R ∧ ∀ H', Same H0 H' → IsP C H' (New H0) (Old H0) p L R → Q .non H'
theorem same_p {H0 H : Hp} {p : Addr} {o : HO} (s : Same H0 H) (n : H0 p = none) : Same H0 (upd H p o) := Same.upd_p s n
theorem ent_keys {H : Hp} {F G : Addr → Prop} : ∀ {E : List Ent} {R : List Row}, Paired (isEnt H F G) E R → E.map (·.1) = R.map (·.1)
  | _, _, .nil => rfl
  | _, _, .cons r t => by rw [List.map_cons, List.map_cons, r.1, ent_keys t]
theorem putK_len' (c : List (Key × V)) (k : Key) (x : V) : (putK c k x).length ≤ c.length + 1 := by
  unfold putK
  split
  · rw [List.length_map]; omega
  · rw [List.length_append]; exact Nat.le_refl _
theorem ok_Problem_init {P : Program} {w : World} {K : PySem.W.Frag} {mg : Str → Option Value} {base : Heap} (T : Txt P K mg) : FnOk P w K mg base CX0 6 T.f_Problem_init T.fd_Problem_init ["self", "variables", "events"] (sp_pinit K T.C_Problem) := by
  refine T.F_Problem_init.ok sc_Problem_init (fun vs H Q E h => ?_) (fun cdv A outer s H vs Q E hr h => ?_)
  · obtain ⟨_, _, _, _, _, _, _, _, _, rfl, _⟩ := h; rfl
  · obtain ⟨H0, p, dx, a, e, xs, ys, L, R, rfl, hp, n0, s0, hA, pdL, okL, hE, pdR, okR, q⟩ := h
    have lxs := pdL.length
    have lys := pdR.length
    have l8 := okL.few
    have r8 := okR.few
    refine ⟨_, PSs.nox (pss_cons (ps_expr (pe_call (ok__check_variables T) (hr.mono (by decide)) (by rfl) T.g__check_variables T.F__check_variables.kp (b__check_variables T) .nil pass0 (pa_cons (pv 1) pa_nil)))
      (pss_cons (ps_fld (pv 0) (pe_callTy (show CallR _ _ (rListOf K) from call_list_of) (by rfl) T.n_list (by decide +kernel) (pa_cons (pv 1) pa_nil)) rfl)
      (pss_cons (ps_fld (pv 0) (pe_dc (own := [("name", 3), ("size", 4)]) (g := gTup K 2 (gCons (gName 3) (gCons (gName 4) gNil))) rfl sc_Problem_init.nd (pi_or (pi_list (pv 1)) (pi_tup (pv 1))) (blkOk_by (own := [("name", 3), ("size", 4)]) (N := N_Problem_init) (sc := defScope s_Problem_init) (by decide +kernel)) (fun _ _ _ _ _ => (pg_tup rfl (pgs_cons (pg_name (i := 3) sc_Problem_init.nd rfl (Or.inl rfl)) (pgs_cons (pg_name (i := 4) sc_Problem_init.nd rfl (Or.inl rfl)) pgs_nil)))) (fun _ _ _ _ _ => pts_nil) (fun _ _ _ _ _ => (pv 3)) (fun _ _ _ _ _ => (pv 4))) rfl)
      (pss_cons (ps_fld (pv 0) (pe_lock (pe_dc (own := [("place", 5), ("name", 3)]) (g := gTup K 2 (gCons (gName 5) (gCons (gName 3) gNil))) rfl sc_Problem_init.nd (pi_enumD (by rfl) T.n_enumerate (pa_cons (show PE _ _ (tFld K _ _) from pe_fld (pv 0) rfl) pa_nil)) (blkOk_by (own := [("place", 5), ("name", 3)]) (N := N_Problem_init) (sc := defScope s_Problem_init) (by decide +kernel)) (fun _ _ _ _ _ => (pg_tup rfl (pgs_cons (pg_name (i := 5) sc_Problem_init.nd rfl (Or.inl rfl)) (pgs_cons (pg_name (i := 3) sc_Problem_init.nd rfl (Or.inl rfl)) pgs_nil)))) (fun _ _ _ _ _ => pts_nil) (fun _ _ _ _ _ => (pv 3)) (fun _ _ _ _ _ => (pv 5)))) rfl)
      (pss_cons (ps_expr (pe_call (ok__check_events T) (hr.mono (by decide)) (by rfl) T.g__check_events T.F__check_events.kp (b__check_events T) .nil pass0 (pa_cons (pv 2) (pa_cons (show PE _ _ (tFld K _ _) from pe_fld (pv 0) rfl) pa_nil))))
      (pss_cons (ps_fld (pv 0) (pe_lc (own := [("name", 3), ("scope", 6), ("bad_tuples", 7)]) (g := gTup K 3 (gCons (gName 3) (gCons (gName 6) (gCons (gName 7) gNil)))) rfl sc_Problem_init.nd (pi_or (pi_list (pv 2)) (pi_tup (pv 2))) (blkOk_by (own := [("name", 3), ("scope", 6), ("bad_tuples", 7)]) (N := N_Problem_init) (sc := defScope s_Problem_init) (by decide +kernel)) (fun _ _ _ _ _ => (pg_tup rfl (pgs_cons (pg_name (i := 3) sc_Problem_init.nd rfl (Or.inl rfl)) (pgs_cons (pg_name (i := 6) sc_Problem_init.nd rfl (Or.inl rfl)) (pgs_cons (pg_name (i := 7) sc_Problem_init.nd rfl (Or.inl rfl)) pgs_nil))))) (fun _ _ _ _ _ => pts_nil) (fun _ _ _ _ _ => (pe_tup (pa_cons (pv 3) (pa_cons (pe_callTy (show CallR _ _ (rListOf K) from call_list_of) (by rfl) T.n_list (by decide +kernel) (pa_cons (pv 6) pa_nil)) (pa_cons (pe_callB (show CallR _ _ (rSortTT K) from cr_sortTT) (by rfl) T.n_sorted (by decide +kernel) (pa_cons (pv 7) pa_nil)) pa_nil)))))) rfl)
      (pss_cons (ps_fld (pv 0) (pe_dc (own := [("name", 3), ("scope", 6), ("_", 8)]) (g := gTup K 3 (gCons (gName 3) (gCons (gName 6) (gCons (gName 8) gNil)))) rfl sc_Problem_init.nd (pi_list (show PE _ _ (tFld K _ _) from pe_fld (pv 0) rfl)) (blkOk_by (own := [("name", 3), ("scope", 6), ("_", 8)]) (N := N_Problem_init) (sc := defScope s_Problem_init) (by decide +kernel)) (fun _ _ _ _ _ => (pg_tup rfl (pgs_cons (pg_name (i := 3) sc_Problem_init.nd rfl (Or.inl rfl)) (pgs_cons (pg_name (i := 6) sc_Problem_init.nd rfl (Or.inl rfl)) (pgs_cons (pg_name (i := 8) sc_Problem_init.nd rfl (Or.inl rfl)) pgs_nil))))) (fun _ _ _ _ _ => pts_nil) (fun _ _ _ _ _ => (pv 3)) (fun _ _ _ _ _ => (pv 6))) rfl)
      (pss_cons (ps_fld (pv 0) (pe_dc (own := [("name", 3), ("_", 8), ("bad_tuples", 7)]) (g := gTup K 3 (gCons (gName 3) (gCons (gName 8) (gCons (gName 7) gNil)))) rfl sc_Problem_init.nd (pi_list (show PE _ _ (tFld K _ _) from pe_fld (pv 0) rfl)) (blkOk_by (own := [("name", 3), ("_", 8), ("bad_tuples", 7)]) (N := N_Problem_init) (sc := defScope s_Problem_init) (by decide +kernel)) (fun _ _ _ _ _ => (pg_tup rfl (pgs_cons (pg_name (i := 3) sc_Problem_init.nd rfl (Or.inl rfl)) (pgs_cons (pg_name (i := 8) sc_Problem_init.nd rfl (Or.inl rfl)) (pgs_cons (pg_name (i := 7) sc_Problem_init.nd rfl (Or.inl rfl)) pgs_nil))))) (fun _ _ _ _ _ => pts_nil) (fun _ _ _ _ _ => (pv 3)) (fun _ _ _ _ _ => (pv 7))) rfl)
      (pss_one (ps_fld (pv 0) (pe_lock (pe_dc (own := [("name", 3)]) (g := gName 3) rfl sc_Problem_init.nd (pi_keys (show PE _ _ (tFld K _ _) from pe_fld (pv 0) rfl)) (blkOk_by (own := [("name", 3)]) (N := N_Problem_init) (sc := defScope s_Problem_init) (by decide +kernel)) (fun _ _ _ _ _ => (pg_name (i := 3) sc_Problem_init.nd rfl (Or.inl rfl))) (fun _ _ _ _ _ => pts_nil) (fun _ _ _ _ _ => (pv 3)) (fun _ _ _ _ _ => (pe_call (ok__neighbors_of T) (hr.mono (by decide)) (by rfl) T.g__neighbors_of T.F__neighbors_of.kp (b__neighbors_of T) .nil pass0 (pa_cons (pv 3) (pa_cons (show PE _ _ (tFld K _ _) from pe_fld (pv 0) rfl) pa_nil)))))) rfl)))))))))), ?_⟩
    -- the check of the variables
    refine ⟨_, rfl, a, xs, Old H0, L, rfl, hA.same s0, Paired.mono (fun _ _ z => z.same s0) pdL, okL, fun H1 s1 => ?_⟩
    have hp1 := s1 _ _ hp
    replace s1 := s0.trans s1
    clear hp s0
    -- self._variables
    refine ⟨_, rfl, a, xs, rfl, (hA.same s1).sq, fun av nav => ?_⟩
    have nvp : av ≠ p := (ne_of_none hp1 nav).symm
    refine ⟨_, rfl, p, _, dx, _, rfl, Same.new nav _ _ hp1, T.cl_Problem, T.na_Problem__variables, (by decide), ?_⟩
    have s2 := same_p (o := .ins T.C_Problem dx (putF "_variables" (.ref av) [])) (s1.trans (Same.new (o := .lst xs) nav)) n0
    have hp2 : upd (upd H1 av (.lst xs)) p (.ins T.C_Problem dx (putF "_variables" (.ref av) [])) p = some (.ins T.C_Problem dx (putF "_variables" (.ref av) [])) := upd_same
    have hav2 : upd (upd H1 av (.lst xs)) p (.ins T.C_Problem dx (putF "_variables" (.ref av) [])) av = some (.lst xs) := by rw [upd_ne nvp, upd_same]
    have nav0 := Same.none s1 nav
    generalize upd (upd H1 av (.lst xs)) p (.ins T.C_Problem dx (putF "_variables" (.ref av) [])) = H2 at s2 hp2 hav2
    clear s1 hp1 nav
    -- self._sizes
    refine or_walkA (fun R' h => ⟨_, rfl, h⟩) hA.sq (s2 a) fun J G1 w g ds nds => ?_
    refine dc_it w (fun i H' => H' ds = some (.dK (kvL (L.take i))) ∧ Same H2 H') ⟨upd_same, Same.new nds⟩ (fun i H' _ h => g H' fun o e => h.2 a o (s2 a o e)) ?_ ?_
    · rintro i x H3 H4 hi ⟨h1, h2⟩ ⟨rfl, hx⟩
      obtain ⟨y, hy, t, rfl, _, ht⟩ := pd_get pdL hx
      obtain ⟨li, ey⟩ := List.getElem?_eq_some_iff.mp hy
      have ht4 := h2 _ _ (s2 _ _ ht)
      refine ⟨t, _, rfl, .inl (.inl ht4), rfl, _, _, rfl, _, _, rfl, rfl, rfl, _, rfl, _, rfl, _, Sum.inr y.1, rfl, h1, by have := kvL_take_len L i; rw [sizeLine_eq]; omega, ?_, Same.upd_p h2 nds⟩
      rw [upd_same, ← ey, kvL_put okL.nd li]
    rintro H3 ⟨hds, s3⟩
    rw [lxs, List.take_length] at hds
    have hp3 := s3 _ _ hp2
    have hav3 := s3 _ _ hav2
    have ndp : ds ≠ p := (ne_of_none hp2 nds).symm
    refine ⟨_, rfl, p, _, dx, _, rfl, hp3, T.cl_Problem, T.na_Problem__sizes, (by show 1 < 1000; decide), ?_⟩
    have s4 := same_p (o := .ins T.C_Problem dx (putF "_sizes" (.ref ds) (putF "_variables" (.ref av) []))) (s2.trans s3) n0
    have hp4 : upd H3 p (.ins T.C_Problem dx (putF "_sizes" (.ref ds) (putF "_variables" (.ref av) []))) p = some (.ins T.C_Problem dx (putF "_sizes" (.ref ds) (putF "_variables" (.ref av) []))) := upd_same
    have hav4 : upd H3 p (.ins T.C_Problem dx (putF "_sizes" (.ref ds) (putF "_variables" (.ref av) []))) av = some (.lst xs) := by rw [upd_ne nvp]; exact hav3
    have hds4 : upd H3 p (.ins T.C_Problem dx (putF "_sizes" (.ref ds) (putF "_variables" (.ref av) []))) ds = some (.dK (kvL L)) := by rw [upd_ne ndp]; exact hds
    have nds0 := Same.none s2 nds
    generalize upd H3 p (.ins T.C_Problem dx (putF "_sizes" (.ref ds) (putF "_variables" (.ref av) []))) = H4 at s4 hp4 hav4 hds4
    clear s3 hp3 hav3 hds s2 hp2 hav2 nds
    -- self._places
    refine ⟨ds, _, hds4, trivial, fun od => ?_⟩
    refine ⟨_, rfl, p, _, dx, _, _, rfl, by rw [upd_ne (Ne.symm ndp)]; exact hp4, T.cl_Problem, T.na_Problem__sizes, (lookup_putF ..).trans (if_pos rfl), ds, od, kvL L, rfl, upd_same, fun dp ndp' => ?_⟩
    refine dc_it walk_enumD (fun i H' => H' dp = some (.dK (kvP (L.take i))) ∧ Same (upd H4 ds (.frz od (.dK (kvL L)))) H') ⟨upd_same, Same.new ndp'⟩ (fun i H' _ h => frz_at h.2) ?_ ?_
    · rintro i x H5 H6 hi ⟨h1, h2⟩ ⟨T', y1, y2, rfl, nT, rfl, e1, e2⟩
      have li : i < L.length := by unfold kvL at hi; rwa [List.length_map] at hi
      have eq1 : (kvL L)[i]? = some (Sum.inr L[i].1, V.int L[i].2) := by unfold kvL; rw [List.getElem?_map, List.getElem?_eq_getElem li]; rfl
      simp only [eq1, Option.map_some] at e1 e2
      cases e1
      cases e2
      have hdT : upd H5 T' (.tup [.int (i : Nat), kV (Sum.inr L[i].1)]) dp = some (.dK (kvP (L.take i))) := by rw [upd_ne (ne_of_none h1 nT)]; exact h1
      refine ⟨T', _, rfl, .inl (.inl upd_same), rfl, _, _, rfl, _, _, rfl, rfl, rfl, _, rfl, _, rfl, _, Sum.inr L[i].1, rfl, hdT, by rw [kvP_len, List.length_take, sizeLine_eq]; omega, ?_, Same.upd_p (h2.trans (Same.new nT)) ndp'⟩
      rw [upd_same, kvP_put okL.nd li]
    rintro H5 ⟨hdp, s5⟩
    have lkL : (kvL L).length = L.length := by unfold kvL; rw [List.length_map]
    rw [lkL, List.take_length] at hdp
    have ndpp : dp ≠ p := fun e => by rw [e, upd_ne (Ne.symm ndp), hp4] at ndp'; cases ndp'
    have nddd : dp ≠ ds := fun e => by rw [e, upd_same] at ndp'; cases ndp'
    have ndp0 : H0 dp = none := Same.none s4 (by rw [upd_ne nddd] at ndp'; exact ndp')
    refine ⟨frz_at s5, ?_⟩
    have s6 := Same.unlock hds4 s5
    have hdp6 : upd H5 ds (.dK (kvL L)) dp = some (.dK (kvP L)) := by rw [upd_ne nddd]; exact hdp
    generalize upd H5 ds (.dK (kvL L)) = H6 at s6 hdp6
    have hp6 := s6 _ _ hp4
    refine ⟨_, rfl, p, _, dx, _, rfl, hp6, T.cl_Problem, T.na_Problem__places, (by show 2 < 1000; decide), ?_⟩
    have s7 := same_p (o := .ins T.C_Problem dx (putF "_places" (.ref dp) (putF "_sizes" (.ref ds) (putF "_variables" (.ref av) [])))) (s4.trans s6) n0
    have hp7 : upd H6 p (.ins T.C_Problem dx (putF "_places" (.ref dp) (putF "_sizes" (.ref ds) (putF "_variables" (.ref av) [])))) p = some (.ins T.C_Problem dx (putF "_places" (.ref dp) (putF "_sizes" (.ref ds) (putF "_variables" (.ref av) [])))) := upd_same
    have hav7 : upd H6 p (.ins T.C_Problem dx (putF "_places" (.ref dp) (putF "_sizes" (.ref ds) (putF "_variables" (.ref av) [])))) av = some (.lst xs) := by rw [upd_ne nvp]; exact s6 _ _ hav4
    have hds7 : upd H6 p (.ins T.C_Problem dx (putF "_places" (.ref dp) (putF "_sizes" (.ref ds) (putF "_variables" (.ref av) [])))) ds = some (.dK (kvL L)) := by rw [upd_ne ndp]; exact s6 _ _ hds4
    have hdp7 : upd H6 p (.ins T.C_Problem dx (putF "_places" (.ref dp) (putF "_sizes" (.ref ds) (putF "_variables" (.ref av) [])))) dp = some (.dK (kvP L)) := by rw [upd_ne ndpp]; exact hdp6
    generalize upd H6 p (.ins T.C_Problem dx (putF "_places" (.ref dp) (putF "_sizes" (.ref ds) (putF "_variables" (.ref av) [])))) = H7 at s7 hp7 hav7 hds7 hdp7
    clear s6 hp6 s5 hdp s4 hp4 hav4 hds4 ndp'
    -- the check of the events
    refine ⟨_, rfl, _, rfl, p, _, dx, _, _, rfl, hp7, T.cl_Problem, T.na_Problem__sizes, (lookup_putF ..).trans ((if_neg (by decide +kernel)).trans ((lookup_putF ..).trans (if_pos rfl))), e, ds, ys, Old H0, Old H0, L, R, rfl, hE.same s7, Paired.mono (fun _ _ z => z.same s7) pdR, hds7, okL, okR, fun H8 s8 => ?_⟩
    have hp8 := s8 _ _ hp7
    have hav8 := s8 _ _ hav7
    have hds8 := s8 _ _ hds7
    have hdp8 := s8 _ _ hdp7
    replace s8 := s7.trans s8
    clear s7 hp7 hav7 hds7
    -- self._events
    refine or_walkA (fun R' h => ⟨_, rfl, h⟩) hE.sq (s8 e) fun J2 G2 w2 g2 ae nae => ?_
    have nep : ae ≠ p := (ne_of_none hp8 nae).symm
    have nae0 := Same.none s8 nae
    let F1 : Addr → Prop := fun t => H0 t = none ∧ t ≠ ae ∧ t ≠ p
    refine lc_it w2 (fun i H' => ∃ (es : List V) (E : List Ent), H' ae = some (.lst es) ∧ es.length = i ∧ Paired (isEv H' F1) es E ∧ Paired (isEnt H' F1 (Old H0)) E (R.take i) ∧ Same H8 H') ⟨[], [], upd_same, rfl, .nil, .nil, Same.new nae⟩ (fun i H' _ ⟨_, _, _, _, _, _, h⟩ => g2 H' fun o e' => h e o (s8 e o e')) ?_ ?_
    · rintro i x H9 H10 hi ⟨es, E, h1, h2, h3, h4, h5⟩ ⟨rfl, hx⟩
      obtain ⟨r, hr', t, ta, tb, bs, rfl, _, ht, la, lb, pb⟩ := pd_get pdR hx
      obtain ⟨li, er⟩ := List.getElem?_eq_some_iff.mp hr'
      have rok := okR.ok r (List.mem_of_getElem? hr')
      have s9 := s8.trans h5
      have k1 := rok.pos
      have k3 := rok.bfew
      have k4 := pb.length
      refine ⟨t, _, rfl, .inl (.inl (s9 _ _ ht)), rfl, _, _, rfl, _, _, rfl, _, _, rfl, rfl, rfl, ?_⟩
      refine ⟨_, rfl, _, rfl, ta, _, rfl, (la.s.same s9).sq, fun l nl => ?_⟩
      have sl := Same.new (o := .lst (r.2.1.map V.str)) nl
      have hl : upd H10 l (.lst (r.2.1.map V.str)) l = some (.lst (r.2.1.map V.str)) := upd_same
      have nl0 := Same.none s9 nl
      have nlae : l ≠ ae := (ne_of_none h1 nl).symm
      have nlp : l ≠ p := (ne_of_none (h5 _ _ hp8) nl).symm
      generalize upd H10 l (.lst (r.2.1.map V.str)) = H11 at sl hl
      have s11 := s9.trans sl
      have pb11 := Paired.mono (fun _ _ z => isTupI.same z s11) pb
      refine ⟨_, rfl, tb, bs, rdT H11, r.2.1.length, 6, rfl, (lb.s.same s11).sq, by omega, k1, sort_in pb11 (row_bd okL rok), fun out bq pm pw nq => ?_⟩
      obtain ⟨sr, pout⟩ := sort_out pb11 pm pw
      have sq := Same.new (o := .lst out) nq
      have hq : upd H11 bq (.lst out) bq = some (.lst out) := upd_same
      have nq0 := Same.none s11 nq
      have nqae : bq ≠ ae := (ne_of_none (sl _ _ h1) nq).symm
      have nqp : bq ≠ p := (ne_of_none (sl _ _ (h5 _ _ hp8)) nq).symm
      generalize upd H11 bq (.lst out) = H12 at sq hq
      refine ⟨lenk 3 rfl (by decide), fun u nu => ?_⟩
      have su := Same.new (o := .tup [.str r.1, .ref l, .ref bq]) nu
      have hu : upd H12 u (.tup [.str r.1, .ref l, .ref bq]) u = some (.tup [.str r.1, .ref l, .ref bq]) := upd_same
      have s12 := s11.trans sq
      have nu0 := Same.none s12 nu
      have nuae : u ≠ ae := (ne_of_none (sq _ _ (sl _ _ h1)) nu).symm
      have nup : u ≠ p := (ne_of_none (sq _ _ (sl _ _ (h5 _ _ hp8))) nu).symm
      generalize upd H12 u (.tup [.str r.1, .ref l, .ref bq]) = H13 at su hu
      have t13 := (sl.trans sq).trans su
      have mve : Mv (fun a => a = ae) H13 (upd H13 ae (.lst (es ++ [.ref u]))) := fun a o na e => by rw [upd_ne na]; exact e
      have oae : ∀ a, Old H0 a → ¬ a = ae := fun a ⟨o, ho⟩ ea => by rw [ea, nae0] at ho; cases ho
      refine ⟨es, t13 _ _ h1, by rw [h2, sizeLine_eq]; omega, es ++ [.ref u], E ++ [(r.1, l, bq)], upd_same, by rw [List.length_append, h2]; rfl, ?_, ?_, Same.upd_p (h5.trans t13) nae⟩
      · refine Paired.snoc (Paired.mono (fun _ _ z => ?_) h3) ?_
        · exact isEv.mv (isEv.mv z (Mv.of_same t13 (W := fun _ => False)) (fun _ _ z => z)) mve fun a ha => ha.2.1
        · exact ⟨u, rfl, ⟨nu0, nuae, nup⟩, by rw [upd_ne nuae]; exact hu⟩
      · rw [take_snoc li, er]
        refine Paired.snoc (Paired.mono (fun _ _ z => ?_) h4) ?_
        · exact isEnt.mv (isEnt.mv z (Mv.of_same t13 (W := fun _ => False)) (fun _ _ z => z) (fun _ _ z => z)) mve (fun a ha => ha.2.1) oae
        · refine ⟨rfl, ⟨nl0, nlae, nlp⟩, ⟨nq0, nqae, nqp⟩, by rw [upd_ne nlae]; exact su _ _ (sq _ _ hl), out, _, by rw [upd_ne nqae]; exact su _ _ hq, sr, Paired.mono (fun _ _ z => ?_) pout⟩
          exact isTupI.mv (isTupI.same z (sq.trans su)) mve oae
    rintro H9 ⟨es, E, hae, -, pev, pent, s9⟩
    rw [lys, List.take_length] at pent
    have hp9 := s9 _ _ hp8
    have hav9 := s9 _ _ hav8
    have hds9 := s9 _ _ hds8
    have hdp9 := s9 _ _ hdp8
    refine ⟨_, rfl, p, _, dx, _, rfl, hp9, T.cl_Problem, T.na_Problem__events, (by show 3 < 1000; decide), ?_⟩
    let fE := putF "_events" (.ref ae) (putF "_places" (.ref dp) (putF "_sizes" (.ref ds) (putF "_variables" (.ref av) [])))
    have s10 := same_p (o := .ins T.C_Problem dx fE) (s8.trans s9) n0
    have hp10 : upd H9 p (.ins T.C_Problem dx fE) p = some (.ins T.C_Problem dx fE) := upd_same
    have hav10 : upd H9 p (.ins T.C_Problem dx fE) av = some (.lst xs) := by rw [upd_ne nvp]; exact hav9
    have hds10 : upd H9 p (.ins T.C_Problem dx fE) ds = some (.dK (kvL L)) := by rw [upd_ne ndp]; exact hds9
    have hdp10 : upd H9 p (.ins T.C_Problem dx fE) dp = some (.dK (kvP L)) := by rw [upd_ne ndpp]; exact hdp9
    have hae10 : upd H9 p (.ins T.C_Problem dx fE) ae = some (.lst es) := by rw [upd_ne nep]; exact hae
    have mvp : Mv (fun a => a = p) H9 (upd H9 p (.ins T.C_Problem dx fE)) := fun a o na e => by rw [upd_ne na]; exact e
    have oap : ∀ a, Old H0 a → ¬ a = p := fun a ⟨o, ho⟩ ea => by rw [ea, n0] at ho; cases ho
    have pev10 := Paired.mono (fun _ _ z => isEv.mv z mvp fun a ha => ha.2.2) pev
    have pent10 := Paired.mono (fun _ _ z => isEnt.mv z mvp (fun a ha => ha.2.2) oap) pent
    generalize upd H9 p (.ins T.C_Problem dx fE) = H10 at s10 hp10 hav10 hds10 hdp10 hae10 pev10 pent10
    clear mvp hae pev pent s9 hp9 hav9 hds9 hp8 hav8 hds8 nae
    have ekeys := ent_keys pent10
    have end' : (E.map (·.1)).Nodup := by rw [ekeys]; exact okR.nd
    have lE := pent10.length
    have les := pev10.length
    -- self._scopes
    have evs : ∀ {H' : Hp} {i : Nat} {x : V}, Same H10 H' → es[i]? = some x → ∃ t, ∃ hi : i < E.length, x = .ref t ∧ H' t = some (.tup [.str E[i].1, .ref E[i].2.1, .ref E[i].2.2]) := fun s' hx => by
      obtain ⟨q, hq, t, e, _, ht⟩ := pd_get pev10 hx
      obtain ⟨li, eq⟩ := List.getElem?_eq_some_iff.mp hq
      exact ⟨t, li, e, by rw [eq]; exact s' _ _ ht⟩
    refine ⟨_, rfl, p, _, dx, _, _, rfl, hp10, T.cl_Problem, T.na_Problem__events, (lookup_putF ..).trans (if_pos rfl), ae, rfl, ⟨_, SqL.of hae10⟩, fun dsc ndsc => ?_⟩
    refine dc_it (walk_list (K := K) (a := ae) (xs := es)) (fun i H' => H' dsc = some (.dK (kvS (E.take i))) ∧ Same H10 H') ⟨upd_same, Same.new ndsc⟩ (fun i H' _ h => SqL.of (h.2 _ _ hae10)) ?_ ?_
    · rintro i x H11 H12 hi ⟨h1, h2⟩ ⟨rfl, hx⟩
      obtain ⟨t, li, rfl, ht⟩ := evs h2 hx
      refine ⟨t, _, rfl, .inl (.inl ht), rfl, _, _, rfl, _, _, rfl, _, _, rfl, rfl, rfl, _, rfl, _, rfl, _, Sum.inr E[i].1, rfl, h1, by unfold kvS; rw [List.length_map, List.length_take, sizeLine_eq]; omega, ?_, Same.upd_p h2 ndsc⟩
      rw [upd_same]
      exact congrArg (fun z => some (HO.dK z)) (ent_put (g := fun q => V.ref q.2.1) end' li)
    rintro H11 ⟨hdsc, s11⟩
    rw [les, List.take_length] at hdsc
    have hp11 := s11 _ _ hp10
    have nscp : dsc ≠ p := (ne_of_none hp10 ndsc).symm
    refine ⟨_, rfl, p, _, dx, _, rfl, hp11, T.cl_Problem, T.na_Problem__scopes, (by show 4 < 1000; decide), ?_⟩
    let fS := putF "_scopes" (.ref dsc) fE
    have mvp : Mv (fun a => a = p) H11 (upd H11 p (.ins T.C_Problem dx fS)) := fun a o na e => by rw [upd_ne na]; exact e
    have s12 := same_p (o := .ins T.C_Problem dx fS) (s10.trans s11) n0
    have hp12 : upd H11 p (.ins T.C_Problem dx fS) p = some (.ins T.C_Problem dx fS) := upd_same
    have hav12 := mvp _ _ nvp (s11 _ _ hav10)
    have hds12 := mvp _ _ ndp (s11 _ _ hds10)
    have hdp12 := mvp _ _ ndpp (s11 _ _ hdp10)
    have hae12 := mvp _ _ nep (s11 _ _ hae10)
    have hdsc12 := mvp _ _ nscp hdsc
    have pev12 := Paired.mono (fun _ _ z => isEv.mv (isEv.mv z (Mv.of_same s11 (W := fun _ => False)) (fun _ _ z => z)) mvp fun a ha => ha.2.2) pev10
    have pent12 := Paired.mono (fun _ _ z => isEnt.mv (isEnt.mv z (Mv.of_same s11 (W := fun _ => False)) (fun _ _ z => z) (fun _ _ z => z)) mvp (fun a ha => ha.2.2) oap) pent10
    have nsc0 := Same.none s10 ndsc
    generalize upd H11 p (.ins T.C_Problem dx fS) = H12 at mvp s12 hp12 hav12 hds12 hdp12 hae12 hdsc12 pev12 pent12
    clear mvp hdsc s11 hp11 pev10 pent10 hp10 hav10 hds10 hae10 s10 ndsc evs
    -- self._bad_tuples
    have evs : ∀ {H' : Hp} {i : Nat} {x : V}, Same H12 H' → es[i]? = some x → ∃ t, ∃ hi : i < E.length, x = .ref t ∧ H' t = some (.tup [.str E[i].1, .ref E[i].2.1, .ref E[i].2.2]) := fun s' hx => by
      obtain ⟨q, hq, t, e, _, ht⟩ := pd_get pev12 hx
      obtain ⟨li, eq⟩ := List.getElem?_eq_some_iff.mp hq
      exact ⟨t, li, e, by rw [eq]; exact s' _ _ ht⟩
    refine ⟨_, rfl, p, _, dx, _, _, rfl, hp12, T.cl_Problem, T.na_Problem__events, (lookup_putF ..).trans ((if_neg (by decide +kernel)).trans ((lookup_putF ..).trans (if_pos rfl))), ae, rfl, ⟨_, SqL.of hae12⟩, fun dbt ndbt => ?_⟩
    refine dc_it (walk_list (K := K) (a := ae) (xs := es)) (fun i H' => H' dbt = some (.dK (kvB (E.take i))) ∧ Same H12 H') ⟨upd_same, Same.new ndbt⟩ (fun i H' _ h => SqL.of (h.2 _ _ hae12)) ?_ ?_
    · rintro i x H13 H14 hi ⟨h1, h2⟩ ⟨rfl, hx⟩
      obtain ⟨t, li, rfl, ht⟩ := evs h2 hx
      refine ⟨t, _, rfl, .inl (.inl ht), rfl, _, _, rfl, _, _, rfl, _, _, rfl, rfl, rfl, _, rfl, _, rfl, _, Sum.inr E[i].1, rfl, h1, by unfold kvB; rw [List.length_map, List.length_take, sizeLine_eq]; omega, ?_, Same.upd_p h2 ndbt⟩
      rw [upd_same]
      exact congrArg (fun z => some (HO.dK z)) (ent_put (g := fun q => V.ref q.2.2) end' li)
    rintro H13 ⟨hdbt, s13⟩
    rw [les, List.take_length] at hdbt
    have hp13 := s13 _ _ hp12
    have nbtp : dbt ≠ p := (ne_of_none hp12 ndbt).symm
    refine ⟨_, rfl, p, _, dx, _, rfl, hp13, T.cl_Problem, T.na_Problem__bad_tuples, (by show 5 < 1000; decide), ?_⟩
    let fB := putF "_bad_tuples" (.ref dbt) fS
    have mvp : Mv (fun a => a = p) H13 (upd H13 p (.ins T.C_Problem dx fB)) := fun a o na e => by rw [upd_ne na]; exact e
    have s14 := same_p (o := .ins T.C_Problem dx fB) (s12.trans s13) n0
    have hp14 : upd H13 p (.ins T.C_Problem dx fB) p = some (.ins T.C_Problem dx fB) := upd_same
    have hav14 := mvp _ _ nvp (s13 _ _ hav12)
    have hds14 := mvp _ _ ndp (s13 _ _ hds12)
    have hdp14 := mvp _ _ ndpp (s13 _ _ hdp12)
    have hae14 := mvp _ _ nep (s13 _ _ hae12)
    have hdsc14 := mvp _ _ nscp (s13 _ _ hdsc12)
    have hdbt14 := mvp _ _ nbtp hdbt
    have pev14 := Paired.mono (fun _ _ z => isEv.mv (isEv.mv z (Mv.of_same s13 (W := fun _ => False)) (fun _ _ z => z)) mvp fun a ha => ha.2.2) pev12
    have pent14 := Paired.mono (fun _ _ z => isEnt.mv (isEnt.mv z (Mv.of_same s13 (W := fun _ => False)) (fun _ _ z => z) (fun _ _ z => z)) mvp (fun a ha => ha.2.2) oap) pent12
    have nbt0 := Same.none s12 ndbt
    generalize upd H13 p (.ins T.C_Problem dx fB) = H14 at mvp s14 hp14 hav14 hds14 hdp14 hae14 hdsc14 hdbt14 pev14 pent14
    clear mvp hdbt s13 hp13 pev12 pent12 hp12 hav12 hds12 hae12 hdsc12 s12 ndbt evs
    -- self._neighbors
    refine ⟨dsc, _, hdsc14, trivial, fun od2 => ?_⟩
    have hpu : upd H14 dsc (.frz od2 (.dK (kvS E))) p = some (.ins T.C_Problem dx fB) := by rw [upd_ne (Ne.symm nscp)]; exact hp14
    refine ⟨_, rfl, p, _, dx, _, _, rfl, hpu, T.cl_Problem, T.na_Problem__scopes, (lookup_putF ..).trans ((if_neg (by decide +kernel)).trans ((lookup_putF ..).trans (if_pos rfl))), dsc, od2, rfl, .inl ⟨kvS E, upd_same, fun dn ndn => ?_⟩⟩
    let F2 : Addr → Prop := fun t => H0 t = none ∧ t ≠ dn ∧ t ≠ p ∧ t ≠ dsc
    have scs : ∀ {H' : Hp}, Same (upd H14 dsc (.frz od2 (.dK (kvS E)))) H' → Paired (scAt H') E R := fun s' => Paired.mono (fun q r ⟨e1, _, _, hsc, _⟩ => ⟨e1, s' _ _ (by rw [upd_ne (ne_of hsc hdsc14 (by simp))]; exact hsc)⟩) pent14
    have ndn0 : H0 dn = none := Same.none s14 (by
      by_cases e : dn = dsc
      · rw [e, upd_same] at ndn; cases ndn
      · rw [upd_ne e] at ndn; exact ndn)
    have nndp : dn ≠ p := fun e => by rw [e, hpu] at ndn; cases ndn
    refine dc_it walk_keys (fun i H' => (∃ N : List (Str × Addr), H' dn = some (.dK (kvN N)) ∧ Paired (isNb H' F2 R) N (R.take i)) ∧ Same (upd H14 dsc (.frz od2 (.dK (kvS E)))) H') ⟨⟨[], upd_same, .nil⟩, Same.new ndn⟩ (fun i H' _ h => frz_at h.2) ?_ ?_
    · rintro i x H15 H16 hi ⟨⟨N, h1, hN⟩, h2⟩ ⟨rfl, k, v, hk, rfl⟩
      have li : i < E.length := by unfold kvS at hi; rwa [List.length_map] at hi
      have liR : i < R.length := by omega
      obtain ⟨w, hw, ew, _⟩ := pd_get pent14 (List.getElem?_eq_getElem li)
      obtain ⟨_, ew2⟩ := List.getElem?_eq_some_iff.mp hw
      have mw := List.mem_of_getElem? hw
      have eq1 : (kvS E)[i]? = some (Sum.inr w.1, V.ref E[i].2.1) := by unfold kvS; rw [List.getElem?_map, List.getElem?_eq_getElem li, ← ew]; rfl
      rw [eq1] at hk
      cases hk
      refine ⟨rfl, _, rfl, _, rfl, _, rfl, p, _, dx, _, _, rfl, h2 _ _ hpu, T.cl_Problem, T.na_Problem__scopes, (lookup_putF ..).trans ((if_neg (by decide +kernel)).trans ((lookup_putF ..).trans (if_pos rfl))), ?_⟩
      refine ⟨dsc, od2, E, R, w, rfl, frz_at h2, r8, okR.nd, mw, scs h2, fun r hr => (okR.ok r hr).few, fun p' H17 s17 np' hp' => ?_⟩
      have kN : N.map (·.1) = (R.take i).map (·.1) := by
        clear h1
        revert hN
        generalize R.take i = R'
        intro hN
        induction hN with
        | nil => rfl
        | cons r t ih => rw [List.map_cons, List.map_cons, r.1, ih]
      have hn := val_none (l := N) (f := fun q => q.1) (g := fun q => V.ref q.2) (x := w.1) (by
        rw [kN, List.map_take, ← ew2]
        have h := not_mem_take okR.nd (i := i) (by rw [List.length_map]; exact liR)
        rw [List.getElem_map] at h
        exact h)
      have lN := hN.length
      have np0 : H0 p' = none := Same.none s14 (by
        have := Same.none h2 np'
        by_cases e : p' = dsc
        · rw [e, upd_same] at this; cases this
        · rw [upd_ne e] at this; exact this)
      have nd1 : p' ≠ dn := fun e => by rw [e, h1] at np'; cases np'
      have nd2 : p' ≠ p := fun e => by rw [e, h2 _ _ hpu] at np'; cases np'
      have nd3 : p' ≠ dsc := fun e => by rw [e, frz_at h2] at np'; cases np'
      refine ⟨kvN N, Sum.inr w.1, rfl, s17 _ _ h1, by unfold kvN; rw [List.length_map, lN, List.length_take, sizeLine_eq]; omega, ⟨N ++ [(w.1, p')], ?_, ?_⟩, Same.upd_p (h2.trans s17) ndn⟩
      · rw [upd_same]; unfold kvN; rw [putK_new _ hn, List.map_append]; rfl
      · have mdn : Mv (fun a => a = dn) H17 (upd H17 dn (.dK (putK (kvN N) (Sum.inr w.1) (.ref p')))) := fun a o na e => by rw [upd_ne na]; exact e
        rw [take_snoc liR, ew2]
        refine Paired.snoc (Paired.mono (fun _ _ z => isNb.mv (isNb.mv z (Mv.of_same s17 (W := fun _ => False)) fun _ _ z => z) mdn fun a ha => ha.2.1) hN) ?_
        exact ⟨rfl, ⟨np0, nd1, nd2, nd3⟩, mdn _ _ nd1 hp'⟩
    rintro H15 ⟨⟨N, hdn, hN⟩, s15⟩
    have lkE : (kvS E).length = R.length := by unfold kvS; rw [List.length_map, lE]
    rw [lkE, List.take_length] at hN
    refine ⟨frz_at s15, ?_⟩
    have s16 := Same.unlock hdsc14 s15
    have mdsc : Mv (fun a => a = dsc) H15 (upd H15 dsc (.dK (kvS E))) := fun a o na e => by rw [upd_ne na]; exact e
    have nndsc : dn ≠ dsc := fun e => by rw [e, upd_same] at ndn; cases ndn
    have hdn16 := mdsc _ _ nndsc hdn
    have hN16 := Paired.mono (fun _ _ z => isNb.mv z mdsc fun a ha => ha.2.2.2) hN
    generalize upd H15 dsc (.dK (kvS E)) = H16 at s16 mdsc hdn16 hN16
    have hp16 := s16 _ _ hp14
    refine ⟨_, rfl, p, _, dx, _, rfl, hp16, T.cl_Problem, T.na_Problem__neighbors, (by show 6 < 1000; decide), ?_⟩
    have mvp : Mv (fun a => a = p) H16 (upd H16 p (.ins T.C_Problem dx (pfl av ds dp ae dsc dbt dn))) := fun a o na e => by rw [upd_ne na]; exact e
    have ms := Mv.of_same s16 (W := fun _ => False)
    refine q _ (same_p (s14.trans s16) n0) ⟨dx, av, ds, dp, ae, dsc, dbt, dn, E, xs, es, upd_same, ⟨n0, nav0, nds0, nae0, nsc0, nbt0, ⟨N, ndn0, mvp _ _ nndp hdn16, Paired.mono (fun _ _ z => ?_) hN16⟩, ndp0, mvp _ _ ndpp (ms _ _ id hdp14)⟩, ⟨mvp _ _ nvp (ms _ _ id hav14), ?_⟩, mvp _ _ ndp (ms _ _ id hds14), ⟨mvp _ _ nep (ms _ _ id hae14), ?_, ?_⟩, mvp _ _ nscp (ms _ _ id hdsc14), mvp _ _ nbtp (ms _ _ id hdbt14)⟩
    · obtain ⟨z1, z2, z3⟩ := isNb.mv z mvp fun a ha => ha.2.2.1
      exact ⟨z1, z2.1, z3⟩
    · exact Paired.mono (fun _ _ z => isPair.same z (same_p (s14.trans s16) n0)) pdL
    · exact Paired.mono (fun _ _ z => isEv.wk (isEv.mv (isEv.mv z ms (fun _ _ z => z)) mvp fun a ha => ha.2.2) fun a ha => ha.1) pev14
    · exact Paired.mono (fun _ _ z => isEnt.wk (isEnt.mv (isEnt.mv z ms (fun _ _ z => z) (fun _ _ z => z)) mvp (fun a ha => ha.2.2) oap) fun a ha => ha.1) pent14

end K09
namespace K09
open PySem PySem.Spec PyProof.Rows L2 TL
/-! ### what a problem tells -/
theorem pfl_no {m : Str} (av ds dp ae dsc dbt dn : Addr) (h : ([("_neighbors" : Str), "_bad_tuples", "_scopes", "_events", "_places", "_sizes", "_variables"].all fun k => decide (¬ m = k)) = true) : (pfl av ds dp ae dsc dbt dn).lookup m = none := by
  simp only [List.all_cons, List.all_nil, Bool.and_eq_true, decide_eq_true_eq] at h
  obtain ⟨h1, h2, h3, h4, h5, h6, h7, _⟩ := h
  unfold pfl
  exact (lookup_putF ..).trans ((if_neg h1).trans ((lookup_putF ..).trans ((if_neg h2).trans ((lookup_putF ..).trans ((if_neg h3).trans ((lookup_putF ..).trans ((if_neg h4).trans ((lookup_putF ..).trans ((if_neg h5).trans ((lookup_putF ..).trans ((if_neg h6).trans ((lookup_putF ..).trans ((if_neg h7).trans rfl)))))))))))))
theorem ent_of {H : Hp} {F G : Addr → Prop} {E : List Ent} {R : List Row} (h : Paired (isEnt H F G) E R) (nd : (R.map (·.1)).Nodup) {r : Row} (hr : r ∈ R) : ∃ q : Ent, q ∈ E ∧ isEnt H F G q r ∧ valV (kvS E) (Sum.inr r.1) = some (.ref q.2.1) ∧ valV (kvB E) (Sum.inr r.1) = some (.ref q.2.2) := by
  have nde : (E.map (·.1)).Nodup := by rw [ent_keys h]; exact nd
  obtain ⟨i, hi⟩ := List.getElem?_of_mem hr
  obtain ⟨q, hq, f⟩ := pd_get' h hi
  have mq := List.mem_of_getElem? hq
  have e := f.1
  refine ⟨q, mq, f, ?_, ?_⟩
  · rw [← e]; exact val_map (fun q => q.1) (fun q => V.ref q.2.1) nde mq
  · rw [← e]; exact val_map (fun q => q.1) (fun q => V.ref q.2.2) nde mq

end K09
namespace K09
open PySem PySem.Spec PyProof.Rows L2 TL
/-! ### equal problems, and a problem's text -/
theorem dp_strs {K : PySem.W.Frag} {H : Hp} : ∀ ns : List Str, DpAll K H (ns.map V.str) (ns.map PyData.str)
  | [] => .nil
  | n :: r => .cons (.str n) (dp_strs r)
def pairD (q : Str × Int) : PyData := .tuple [.str q.1, .int q.2]
def rowD (r : Row) : PyData := .tuple [.str r.1, .list (r.2.1.map PyData.str), .list (r.2.2.map tupD)]
theorem dp_pair {K : PySem.W.Frag} {H : Hp} {G : Addr → Prop} {x : V} {q : Str × Int} (h : isPair H G x q) : Dp K H x (pairD q) := by
  obtain ⟨t, rfl, _, h⟩ := h
  exact .tup (.inl (.inl h)) (.cons (.str _) (.cons (.int _) .nil))
theorem eqvAll_refl : ∀ {ds : List PyData}, (∀ d ∈ ds, PyData.eqv d d = true) → PyData.eqvAll ds ds = true
  | [], _ => by simp [PyData.eqvAll]
  | d :: r, h => by
    simp only [PyData.eqvAll]
    rw [h d List.mem_cons_self, eqvAll_refl fun x hx => h x (List.mem_cons_of_mem _ hx)]; rfl
theorem eqv_str (s : Str) : PyData.eqv (.str s) (.str s) = true := by simp [PyData.eqv]
theorem eqv_int (s : Int) : PyData.eqv (.int s) (.int s) = true := by simp [PyData.eqv]
theorem eqv_lst {ds : List PyData} (h : ∀ d ∈ ds, PyData.eqv d d = true) : PyData.eqv (.list ds) (.list ds) = true := by
  simp only [PyData.eqv]; exact eqvAll_refl h
theorem eqv_tp {ds : List PyData} (h : ∀ d ∈ ds, PyData.eqv d d = true) : PyData.eqv (.tuple ds) (.tuple ds) = true := by
  simp only [PyData.eqv]; exact eqvAll_refl h
theorem eqv_pair (q : Str × Int) : PyData.eqv (pairD q) (pairD q) = true := eqv_tp (allC (eqv_str _) (all1 (eqv_int _)))
theorem eqv_tupD (ns : List Int) : PyData.eqv (tupD ns) (tupD ns) = true := by rw [eqv_tup]; exact decide_eq_true rfl
theorem eqv_row (r : Row) : PyData.eqv (rowD r) (rowD r) = true := eqv_tp (allC (eqv_str _) (allC (eqv_lst fun d hd => by
  obtain ⟨s, _, rfl⟩ := List.mem_map.mp hd; exact eqv_str s) (all1 (eqv_lst fun d hd => by
  obtain ⟨s, _, rfl⟩ := List.mem_map.mp hd; exact eqv_tupD s))))
theorem eqv_map {α : Type} (f : α → PyData) (h : ∀ x, PyData.eqv (f x) (f x) = true) (l : List α) : PyData.eqv (.list (l.map f)) (.list (l.map f)) = true := eqv_lst fun d hd => by
  obtain ⟨s, _, rfl⟩ := List.mem_map.mp hd; exact h s
theorem shd_le {k j : Nat} {d : PyData} (h : Shd k d) (l : k ≤ j) : Shd j d := ⟨h.1, Nat.le_trans h.2 l⟩
theorem shd_pair {q : Str × Int} (h : NameOk q.1) : Shd 1 (pairD q) := Shd.tuple (allC (Shd.str h) (all1 (Shd.int _)))
theorem shd_vars {L : List (Str × Int)} (h : VarsOk L) : Shd 2 (.list (L.map pairD)) := Shd.list fun d hd => by
  obtain ⟨q, hq, rfl⟩ := List.mem_map.mp hd
  exact shd_pair (h.nm q hq)
theorem sub_nm {L : List (Str × Int)} (h : VarsOk L) {x : Str} (hx : x ∈ L.map (·.1)) : NameOk x := by
  obtain ⟨q, hq, rfl⟩ := List.mem_map.mp hx
  exact h.nm q hq
theorem shd_row {L : List (Str × Int)} (h : VarsOk L) {r : Row} (hr : RowOk L r) : Shd 3 (rowD r) := Shd.tuple (allC (shd_le (Shd.str hr.nm) (by decide)) (allC (shd_le (Shd.list (k := 0) fun d hd => by
  obtain ⟨s, hs, rfl⟩ := List.mem_map.mp hd; exact Shd.str (sub_nm h (hr.sub s hs))) (by decide)) (all1 (shd_tups _))))
theorem shd_rows {L : List (Str × Int)} (h : VarsOk L) {R : List Row} (hr : ∀ r ∈ R, RowOk L r) : Shd 4 (.list (R.map rowD)) := Shd.list fun d hd => by
  obtain ⟨r, hm, rfl⟩ := List.mem_map.mp hd
  exact shd_row h (hr r hm)
/-- the rows with their bad tuples in order -/
def SrtR (r s : Row) : Prop := s.1 = r.1 ∧ s.2.1 = r.2.1 ∧ Srt r.2.2 s.2.2
theorem RowOk.srt {L : List (Str × Int)} {r s : Row} (h : RowOk L r) (q : SrtR r s) : RowOk L s := by
  obtain ⟨x, sc, out⟩ := s
  obtain ⟨e1, e2, pm, _⟩ := q
  simp only at e1 e2 pm
  subst e1 e2
  exact ⟨h.nm, h.pos, h.few, h.sub, h.nd, by rw [pm.length_eq]; exact h.bfew, pm.nodup_iff.mpr h.bnd, fun ns hns => h.bl ns (pm.mem_iff.mp hns), fun ns hns => h.bv ns (pm.mem_iff.mp hns)⟩
theorem srtR_uniq {L : List (Str × Int)} (ok : VarsOk L) : ∀ {R S S' : List Row}, (∀ r ∈ R, RowOk L r) → Paired SrtR R S → Paired SrtR R S' → S = S'
  | _, _, _, _, .nil, .nil => rfl
  | r :: _, s :: _, s' :: _, h, .cons a t, .cons a' t' => by
    obtain ⟨x, sc, out⟩ := s
    obtain ⟨x', sc', out'⟩ := s'
    obtain ⟨e1, e2, e3⟩ := a
    obtain ⟨f1, f2, f3⟩ := a'
    simp only at e1 e2 e3 f1 f2 f3
    rw [e1, e2, f1, f2, Srt.uniq (row_bd ok (h r List.mem_cons_self)) e3 f3, srtR_uniq ok (fun q hq => h q (List.mem_cons_of_mem _ hq)) t t']
theorem ev_rows {H : Hp} {F G : Addr → Prop} : ∀ {es : List V} {E : List Ent} {R : List Row}, Paired (isEv H F) es E → Paired (isEnt H F G) E R → ∃ S : List Row, Paired SrtR R S ∧ Paired (isRow H F G) es S
  | _, _, _, .nil, .nil => ⟨[], .nil, .nil⟩
  | _, q :: _, r :: _, .cons ⟨t, e, f, ht⟩ u, .cons ⟨e1, f1, f2, hsc, ys, out, hys, hs, hpd⟩ u' => by
    obtain ⟨S, p1, p2⟩ := ev_rows u u'
    exact ⟨(r.1, r.2.1, out) :: S, .cons ⟨rfl, rfl, hs⟩ p1, .cons ⟨t, q.2.1, q.2.2, ys, e, f, by rw [← e1]; exact ht, ⟨f1, .inl hsc⟩, ⟨f2, .inl hys⟩, hpd⟩ p2⟩
/-- a row of lists -/
def isRowL (H : Hp) (F G : Addr → Prop) (x : V) (r : Row) : Prop := ∃ p a b ys, x = .ref p ∧ H p = some (.tup [.str r.1, .ref a, .ref b]) ∧ H a = some (.lst (r.2.1.map V.str)) ∧ H b = some (.lst ys) ∧ Paired (isTupI H G) ys r.2.2
theorem ev_rowsL {H : Hp} {F G : Addr → Prop} : ∀ {es : List V} {E : List Ent} {R : List Row}, Paired (isEv H F) es E → Paired (isEnt H F G) E R → ∃ S : List Row, Paired SrtR R S ∧ Paired (isRowL H F G) es S
  | _, _, _, .nil, .nil => ⟨[], .nil, .nil⟩
  | _, q :: _, r :: _, .cons ⟨t, e, f, ht⟩ u, .cons ⟨e1, f1, f2, hsc, ys, out, hys, hs, hpd⟩ u' => by
    obtain ⟨S, p1, p2⟩ := ev_rowsL u u'
    exact ⟨(r.1, r.2.1, out) :: S, .cons ⟨rfl, rfl, hs⟩ p1, .cons ⟨t, q.2.1, q.2.2, ys, e, by rw [← e1]; exact ht, hsc, hys, hpd⟩ p2⟩
theorem dp_row {K : PySem.W.Frag} {H : Hp} {F G : Addr → Prop} {x : V} {r : Row} (h : isRowL H F G x r) : Dp K H x (rowD r) := by
  obtain ⟨p, a, b, ys, rfl, hp, ha, hb, hpd⟩ := h
  exact .tup (.inl (.inl hp)) (.cons (.str _) (.cons (.lst (SqL.of ha) (dp_strs _)) (.cons (.lst (SqL.of hb) (dp_all (fun _ _ z => dp_tup z) hpd)) .nil)))
/-! ### equality of problems -/
theorem eqvAll_mapI {α : Type} [DecidableEq α] (f : α → PyData) (hf : ∀ x y, PyData.eqv (f x) (f y) = decide (x = y)) : ∀ l l' : List α, PyData.eqvAll (l.map f) (l'.map f) = decide (l = l')
  | [], [] => by simp [PyData.eqvAll]
  | [], _ :: _ => by simp [PyData.eqvAll]
  | _ :: _, [] => by simp [PyData.eqvAll]
  | x :: l, y :: l' => by
    simp only [List.map_cons, PyData.eqvAll]
    rw [hf x y, eqvAll_mapI f hf l l']
    by_cases h : x = y
    · subst h; simp
    · rw [decide_eq_false h, Bool.false_and]
      symm
      exact decide_eq_false fun e => h (List.cons.inj e).1
theorem eqv_mapI {α : Type} [DecidableEq α] (f : α → PyData) (hf : ∀ x y, PyData.eqv (f x) (f y) = decide (x = y)) (l l' : List α) : PyData.eqv (.list (l.map f)) (.list (l'.map f)) = decide (l = l') := by
  simp only [PyData.eqv]
  exact eqvAll_mapI f hf l l'
theorem eqv_s2 (a b : Str) : PyData.eqv (.str a) (.str b) = decide (a = b) := by
  simp only [PyData.eqv]
  by_cases h : a = b
  · subst h; simp
  · rw [decide_eq_false h]; simpa using h
theorem eqv_i2 (a b : Int) : PyData.eqv (.int a) (.int b) = decide (a = b) := by
  simp only [PyData.eqv]
  by_cases h : a = b
  · subst h; simp
  · rw [decide_eq_false h]; simpa using h
theorem eqv_pair2 (q q' : Str × Int) : PyData.eqv (pairD q) (pairD q') = decide (q = q') := by
  obtain ⟨a, i⟩ := q
  obtain ⟨b, j⟩ := q'
  unfold pairD
  rw [show PyData.eqv (.tuple [.str a, .int i]) (.tuple [.str b, .int j]) = (PyData.eqv (.str a) (.str b) && (PyData.eqv (.int i) (.int j) && true)) from rfl, eqv_s2, eqv_i2, Bool.and_true]
  by_cases h1 : a = b
  · by_cases h2 : i = j
    · subst h1 h2; simp
    · rw [decide_eq_false h2, Bool.and_false]; symm; exact decide_eq_false fun e => h2 (Prod.mk.inj e).2
  · rw [decide_eq_false h1, Bool.false_and]; symm; exact decide_eq_false fun e => h1 (Prod.mk.inj e).1
theorem eqv_row2 (r r' : Row) : PyData.eqv (rowD r) (rowD r') = decide (r = r') := by
  obtain ⟨a, s, b⟩ := r
  obtain ⟨a', s', b'⟩ := r'
  unfold rowD
  rw [show ∀ x y z x' y' z' : PyData, PyData.eqv (.tuple [x, y, z]) (.tuple [x', y', z']) = (PyData.eqv x x' && (PyData.eqv y y' && (PyData.eqv z z' && true))) from fun _ _ _ _ _ _ => rfl, eqv_s2, eqv_mapI PyData.str eqv_s2, eqv_mapI tupD eqv_tup, Bool.and_true]
  by_cases h1 : a = a'
  · by_cases h2 : s = s'
    · by_cases h3 : b = b'
      · subst h1 h2 h3; simp
      · rw [decide_eq_false h3, Bool.and_false, Bool.and_false]; symm; exact decide_eq_false fun e => h3 (Prod.mk.inj (Prod.mk.inj e).2).2
    · rw [decide_eq_false h2, Bool.false_and, Bool.and_false]; symm; exact decide_eq_false fun e => h2 (Prod.mk.inj (Prod.mk.inj e).2).1
  · rw [decide_eq_false h1, Bool.false_and]; symm; exact decide_eq_false fun e => h1 (Prod.mk.inj e).1
theorem okS {L : List (Str × Int)} {R S : List Row} (o : EvsOk L R) (k : Paired SrtR R S) : ∀ s ∈ S, RowOk L s := fun s hs => by
  obtain ⟨i, hi⟩ := List.getElem?_of_mem hs
  obtain ⟨r, hr', z⟩ := pd_get' k hi
  exact (o.ok r (List.mem_of_getElem? hr')).srt z
def sp_peq (K : PySem.W.Frag) (C : Addr) : Sp := fun vs H Q _ => ∃ (p : Addr) (y : V) (F G : Addr → Prop) (L : List (Str × Int)) (R S : List Row), vs = [.ref p, y] ∧ IsP C H F G p L R ∧ VarsOk L ∧ EvsOk L R ∧ Paired SrtR R S ∧
  ((∃ (p' : Addr) (F' G' : Addr → Prop) (L' : List (Str × Int)) (R' S' : List Row), y = .ref p' ∧ IsP C H F' G' p' L' R' ∧ VarsOk L' ∧ EvsOk L' R' ∧ Paired SrtR R' S' ∧ Q (.bl (decide (L = L') && decide (S = S'))) H) ∨
   (∃ t, TyX K H y t ∧ PySem.W.kitOne K t (.ref C) = some false ∧ Q (.bl false) H))
theorem ok_Problem_eq {P : Program} {w : World} {K : PySem.W.Frag} {mg : Str → Option Value} {base : Heap} (T : Txt P K mg) : FnOk P w K mg base CX0 1 T.f_Problem_eq T.fd_Problem_eq ["self", "other"] (sp_peq K T.C_Problem) := by
  refine T.F_Problem_eq.ok sc_Problem_eq (fun vs H Q E h => ?_) (fun cdv A outer s H vs Q E hr h => ?_)
  · obtain ⟨_, _, _, _, _, _, _, rfl, _⟩ := h; rfl
  · obtain ⟨p, y, F, G, L, R, S, rfl, ⟨dx, av, ds, dp, ae, dsc, dbt, dn, E1, xs, es, hp, _, ⟨h1, h2⟩, _, ⟨h4, h5, h6⟩, _⟩, okL, okR, hS, q⟩ := h
    refine ⟨_, PSs.nox (pss_one (ps_ret (pe_and (pe_callB (show CallR _ _ (rIsi K) from call_isi) (by rfl) T.n_isinstance (by decide +kernel) (pa_cons (pv 1) (pa_cons (pe_glob (v := .ref T.C_Problem) (by rfl) T.g_Problem rfl) pa_nil))) (pe_and (pe_cmpR (show OpR _ (compareOp .Eq) (rEqD K) from op_eqD hr.units) (show PE _ _ (tFld K _ _) from pe_fld (pv 0) rfl) (show PE _ _ (tFld K _ _) from pe_fld (pv 1) rfl) (nomark _)) (pe_one (pe_cmpR (show OpR _ (compareOp .Eq) (rEqD K) from op_eqD hr.units) (show PE _ _ (tFld K _ _) from pe_fld (pv 0) rfl) (show PE _ _ (tFld K _ _) from pe_fld (pv 1) rfl) (nomark _))))))), ?_⟩
    rcases q with ⟨p', F', G', L', R', S', rfl, ⟨dx', av', ds', dp', ae', dsc', dbt', dn', E1', xs', es', hp', _, ⟨h1', h2'⟩, _, ⟨h4', h5', h6'⟩, _⟩, okL', okR', hS', q⟩ | ⟨t, ty, k, q⟩
    · refine ⟨_, rfl, _, _, _, _, _, rfl, .own _, T.ow_Problem.ty hp', T.ow_Problem.me, _, rfl, ?_⟩
      refine ⟨_, rfl, p, _, dx, _, _, rfl, hp, T.cl_Problem, T.na_Problem__variables, pfl_variables .., _, rfl, p', _, dx', _, _, rfl, hp', T.cl_Problem, T.na_Problem__variables, pfl_variables .., .list (L.map pairD), .list (L'.map pairD), .lst (SqL.of h1) (dp_all (fun _ _ z => dp_pair z) h2), .lst (SqL.of h1') (dp_all (fun _ _ z => dp_pair z) h2'), (shd_vars okL).shaped (by decide), (shd_vars okL').shaped (by decide), _, rfl, ?_⟩
      rw [eqv_mapI pairD eqv_pair2]
      obtain ⟨T1, k1, k2⟩ := ev_rowsL h5 h6
      obtain ⟨T2, k1', k2'⟩ := ev_rowsL h5' h6'
      have e1 := srtR_uniq okL okR.ok k1 hS
      have e2 := srtR_uniq okL' okR'.ok k1' hS'
      subst e1 e2
      by_cases hL : L = L'
      · rw [decide_eq_true hL] at q ⊢
        refine iteT ⟨_, rfl, p, _, dx, _, _, rfl, hp, T.cl_Problem, T.na_Problem__events, pfl_events .., _, rfl, p', _, dx', _, _, rfl, hp', T.cl_Problem, T.na_Problem__events, pfl_events .., .list (T1.map rowD), .list (T2.map rowD), .lst (SqL.of h4) (dp_all (fun _ _ z => dp_row z) k2), .lst (SqL.of h4') (dp_all (fun _ _ z => dp_row z) k2'), (shd_rows okL (okS okR k1)).shaped (by decide), (shd_rows okL' (okS okR' k1')).shaped (by decide), ?_⟩
        rw [eqv_mapI rowD eqv_row2]
        rw [Bool.true_and] at q
        exact q
      · rw [decide_eq_false hL] at q ⊢
        refine iteF ?_
        rw [Bool.false_and] at q
        exact q
    · exact ⟨_, rfl, _, _, t, _, _, rfl, .own _, ty, k, _, rfl, q⟩
def sp_pvars (C : Addr) : Sp := fun vs H Q _ => ∃ (p : Addr) (F G : Addr → Prop) (L : List (Str × Int)) (R : List Row), vs = [.ref p] ∧ IsP C H F G p L R ∧ ∀ l H', Same H H' → H l = none → (∃ xs, H' l = some (.lst xs)) → Q (.ref l) H'
theorem ok_Problem_variables {P : Program} {w : World} {K : PySem.W.Frag} {mg : Str → Option Value} {base : Heap} (T : Txt P K mg) : FnOk P w K mg base CX0 1 T.f_Problem_variables T.fd_Problem_variables ["self"] (sp_pvars T.C_Problem) := by
  refine T.F_Problem_variables.ok sc_Problem_variables (fun vs H Q E h => ?_) (fun cdv A outer s H vs Q E hr h => ?_)
  · obtain ⟨_, _, _, _, _, rfl, _⟩ := h; rfl
  · obtain ⟨p, F, G, L, R, rfl, ⟨dx, av, ds, dp, ae, dsc, dbt, dn, E1, xs, es, hp, _, ⟨h1, h2⟩, _⟩, q⟩ := h
    refine ⟨_, PSs.nox (pss_one (ps_ret (pe_callTy (show CallR _ _ (rListOf K) from call_list_of) (by rfl) T.n_list (by decide +kernel) (pa_cons (show PE _ _ (tFld K _ _) from pe_fld (pv 0) rfl) pa_nil)))), ?_⟩
    refine ⟨_, rfl, p, _, dx, _, _, rfl, hp, T.cl_Problem, T.na_Problem__variables, pfl_variables .., av, xs, rfl, .inl (SqL.of h1), fun l nl => ?_⟩
    exact q l _ (Same.new nl) nl ⟨xs, upd_same⟩
/-! ### texts of data -/
theorem cp_name {x : Str} (h : NameOk x) : CpOk x := fun c hc => by
  have := (h.2.2 c hc).2
  exact Nat.lt_of_le_of_lt this (by decide)
theorem okd_name {x : Str} (h : NameOk x) : OkD 82 0 (.str x) := okd_str (n := 8) (cp_name h) (by rw [len_tl]; exact h.2.1)
theorem dx_map {K : PySem.W.Frag} {H : Hp} {α : Type} {F : V → α → Prop} {B k : Nat} : ∀ {xs : List V} {ys : List α}, Paired F xs ys → (∀ x y, F x y → y ∈ ys → ∃ d, Dx K H x d ∧ OkD B k d) → ∃ ds, DxAll K H xs ds ∧ ∀ d ∈ ds, OkD B k d
  | _, _, .nil, _ => ⟨[], .nil, fun _ h => by cases h⟩
  | _, _, .cons r t, h => by
    obtain ⟨d, h1, h2⟩ := h _ _ r List.mem_cons_self
    obtain ⟨ds, h3, h4⟩ := dx_map t fun x y f hy => h x y f (List.mem_cons_of_mem _ hy)
    exact ⟨d :: ds, .cons h1 h3, allC h2 h4⟩
theorem dxAll_len {K : PySem.W.Frag} {H : Hp} : ∀ {xs : List V} {ds : List PyData}, DxAll K H xs ds → ds.length = xs.length
  | _, _, .nil => rfl
  | _, _, .cons _ t => congrArg (· + 1) (dxAll_len t)
theorem dx_lt {K : PySem.W.Frag} {H : Hp} {a : Addr} {xs : List V} {ds : List PyData} {B k m : Nat} (h : H a = some (.lst xs) ∨ H a = some (.tup xs)) (hd : DxAll K H xs ds) (ho : ∀ d ∈ ds, OkD B k d) (l : xs.length ≤ m) :
    ∃ d, Dx K H (.ref a) d ∧ OkD (m * (B + 2) + 3) (k + 1) d := by
  have le : ds.length ≤ m := by rw [dxAll_len hd]; exact l
  rcases h with h | h
  · exact ⟨_, .lst (SqL.of h) hd, okd_list ho le⟩
  · exact ⟨_, .tup (.inl (.inl h)) hd, okd_tuple ho le⟩
theorem dx_pair {K : PySem.W.Frag} {H : Hp} {G : Addr → Prop} {x : V} {q : Str × Int} (h : isPair H G x q) (n : NameOk q.1) (i : 1 ≤ q.2 ∧ q.2 ≤ 6) : ∃ d, Dx K H x d ∧ OkD 1009 1 d := by
  obtain ⟨t, rfl, _, h⟩ := h
  exact ⟨_, .tup (.inl (.inl h)) (.cons (.str _) (.cons (.int _) .nil)), okd_tuple (B := 501) (k := 0) (m := 2) (allC ((okd_name n).mono (by decide) (by decide)) (all1 (okd_int (by omega)))) (Nat.le_refl _)⟩
theorem dx_tup {K : PySem.W.Frag} {H : Hp} {G : Addr → Prop} {x : V} {ns : List Int} (h : isTupI H G x ns) (l : ns.length ≤ 4) (b : TS.Bd 6 ns) : ∃ d, Dx K H x d ∧ OkD 2015 1 d := by
  obtain ⟨t, rfl, _, h⟩ := h
  obtain ⟨ds, h1, h2⟩ := dx_map (K := K) (H := H) (F := fun v (i : Int) => v = .int i) (B := 501) (k := 0) (pd_map V.int (l := ns) fun _ _ => rfl) fun x i e hi => by
    subst e
    have := b i hi
    exact ⟨_, .int i, okd_int (by omega)⟩
  exact dx_lt (.inr h) h1 h2 (by rw [List.length_map]; exact l)
theorem dx_row {K : PySem.W.Frag} {L : List (Str × Int)} {H : Hp} {F G : Addr → Prop} {x : V} {r : Row} (ok : VarsOk L) (h : isRow H F G x r) (hr : RowOk L r) : ∃ d, Dx K H x d ∧ OkD 72630 3 d := by
  obtain ⟨p, a, b, ys, rfl, _, hp, ⟨_, la⟩, ⟨_, lb⟩, pd⟩ := h
  have x4 := hr.few
  have x12 := hr.bfew
  obtain ⟨ds, h1, h2⟩ := dx_map (K := K) (H := H) (F := fun v (i : Str) => v = .str i) (B := 82) (k := 0) (pd_map V.str (l := r.2.1) fun _ _ => rfl) fun x i e hi => by
    subst e
    exact ⟨_, .str i, okd_name (sub_nm ok (hr.sub i hi))⟩
  obtain ⟨d1, u1, v1⟩ := dx_lt la h1 h2 (m := 4) (by rw [List.length_map]; exact x4)
  obtain ⟨ds2, h3, h4⟩ := dx_map (K := K) (H := H) (B := 2015) (k := 1) pd fun x ns z hz => by
    obtain ⟨l, bd⟩ := row_bd ok hr ns hz
    exact dx_tup z (by omega) bd
  obtain ⟨d2, u2, v2⟩ := dx_lt lb h3 h4 (m := 12) (by rw [pd.length]; exact x12)
  exact ⟨_, .tup (.inl (.inl hp)) (.cons (.str _) (.cons u1 (.cons u2 .nil))), okd_tuple (B := 24207) (k := 2) (m := 3) (allC ((okd_name hr.nm).mono (by decide) (by decide)) (allC (v1.mono (by decide) (by decide)) (all1 (v2.mono (by decide) (by decide))))) (Nat.le_refl _)⟩
theorem dx_vars {K : PySem.W.Frag} {L : List (Str × Int)} {H : Hp} {G : Addr → Prop} {a : Addr} {xs : List V} (ok : VarsOk L) (h : H a = some (.lst xs) ∨ H a = some (.tup xs)) (pd : Paired (isPair H G) xs L) : ∃ d, Dx K H (.ref a) d ∧ OkD 8091 2 d := by
  obtain ⟨ds, h1, h2⟩ := dx_map (K := K) pd fun x q z hz => dx_pair z (ok.nm q hz) (ok.sz q hz)
  exact dx_lt h h1 h2 (m := 8) (by rw [pd.length]; exact ok.few)
theorem dx_evs {K : PySem.W.Frag} {L : List (Str × Int)} {H : Hp} {F G : Addr → Prop} {a : Addr} {xs : List V} {R : List Row} (ok : VarsOk L) (h : H a = some (.lst xs) ∨ H a = some (.tup xs)) (pd : Paired (isRow H F G) xs R) (n : R.length ≤ 8) (okR : ∀ r ∈ R, RowOk L r) : ∃ d, Dx K H (.ref a) d ∧ OkD 581059 4 d := by
  obtain ⟨ds, h1, h2⟩ := dx_map (K := K) pd fun x q z hz => dx_row ok z (okR q hz)
  exact dx_lt h h1 h2 (m := 8) (by rw [pd.length]; exact n)

end K09
namespace K09
open PySem PySem.Spec PyProof.Rows L2 TL
/-! ### the parts, as equality reads them -/
def sp_lkey (K : PySem.W.Frag) : Sp := fun vs H Q _ => ∃ (D r : Addr) (xs ys : List V) (F1 F G : Addr → Prop) (L : List (Str × Int)) (R : List Row), vs = [.ref D, .ref r] ∧ H D = some (.lst xs) ∧ Paired (isPair H F1) xs L ∧ H r = some (.lst ys) ∧ Paired (isRowS H F G) ys R ∧ VarsOk L ∧ EvsOk L R ∧
  ∀ l k es (S : List Row) H', Same H H' → H l = none → H' l = some (.lst [.ref D, .ref k]) → H' k = some (.lst es) → Paired (isRowL H' (fun _ => True) (fun _ => True)) es S → Paired SrtR R S → Q (.ref l) H'
theorem ok_l_key {P : Program} {w : World} {K : PySem.W.Frag} {mg : Str → Option Value} {base : Heap} (T : Txt P K mg) : FnOk P w K mg base CX0 1 T.f_l_key T.fd_l_key ["_law_sizes", "_law_rows"] (sp_lkey K) := by
  refine T.F_l_key.ok sc_l_key (fun vs H Q E h => ?_) (fun cdv A outer s H vs Q E hr h => ?_)
  · obtain ⟨_, _, _, _, _, _, _, _, _, rfl, _⟩ := h; rfl
  · obtain ⟨D, r, xs, ys, F1, F, G, L, R, rfl, hD, pdL, hr', pdR, okL, okR, q⟩ := h
    refine ⟨_, PSs.nox (pss_one (ps_ret (pe_lst (pa_cons (pv 0) (pa_cons (pe_lc (own := [("_law_title", 2), ("_law_scope_here", 3), ("_law_bad", 4)]) (g := gTup K 3 (gCons (gName 2) (gCons (gName 3) (gCons (gName 4) gNil)))) rfl sc_l_key.nd (pi_list (pv 1)) (blkOk_by (own := [("_law_title", 2), ("_law_scope_here", 3), ("_law_bad", 4)]) (N := N_l_key) (sc := defScope s_l_key) (by decide +kernel)) (fun _ _ _ _ _ => (pg_tup rfl (pgs_cons (pg_name (i := 2) sc_l_key.nd rfl (Or.inl rfl)) (pgs_cons (pg_name (i := 3) sc_l_key.nd rfl (Or.inl rfl)) (pgs_cons (pg_name (i := 4) sc_l_key.nd rfl (Or.inl rfl)) pgs_nil))))) (fun _ _ _ _ _ => pts_nil) (fun _ _ _ _ _ => (pe_tup (pa_cons (pv 2) (pa_cons (pe_callTy (show CallR _ _ (rListOf K) from call_list_of) (by rfl) T.n_list (by decide +kernel) (pa_cons (pv 3) pa_nil)) (pa_cons (pe_callB (show CallR _ _ (rSortTT K) from cr_sortTT) (by rfl) T.n_sorted (by decide +kernel) (pa_cons (pv 4) pa_nil)) pa_nil)))))) pa_nil))))), ?_⟩
    have lys := pdR.length
    have r8 := okR.few
    refine ⟨_, rfl, _, rfl, r, rfl, ⟨_, SqL.of hr'⟩, fun kc nkc => ?_⟩
    let NK : Addr → Prop := fun a => a ≠ kc
    refine lc_it (walk_list (K := K) (a := r) (xs := ys)) (fun i H' => ∃ (es : List V) (S : List Row), H' kc = some (.lst es) ∧ es.length = i ∧ Paired (isRowS H' NK NK) es S ∧ Paired SrtR (R.take i) S ∧ Same H H') ⟨[], [], upd_same, rfl, .nil, .nil, Same.new nkc⟩ (fun i H' _ ⟨_, _, _, _, _, _, h⟩ => SqL.of (h _ _ hr')) ?_ ?_
    · rintro i x Hx H10 hi ⟨es, S, h1, h2, h3, h4, h5⟩ ⟨rfl, hx⟩
      obtain ⟨w, hw, t, ta, tb, bs, rfl, _, ht, ⟨_, hta⟩, ⟨_, htb⟩, pb⟩ := pd_get pdR hx
      obtain ⟨li, er⟩ := List.getElem?_eq_some_iff.mp hw
      have rok := okR.ok w (List.mem_of_getElem? hw)
      have k1 := rok.pos
      have k3 := rok.bfew
      have k4 := pb.length
      refine ⟨t, _, rfl, .inl (.inl (h5 _ _ ht)), rfl, _, _, rfl, _, _, rfl, _, _, rfl, rfl, rfl, ?_⟩
      refine ⟨_, rfl, _, rfl, ta, _, rfl, .inl (SqL.of (h5 _ _ hta)), fun l nl => ?_⟩
      have sl := Same.new (o := .lst (w.2.1.map V.str)) nl
      have hl : upd H10 l (.lst (w.2.1.map V.str)) l = some (.lst (w.2.1.map V.str)) := upd_same
      have nlk : l ≠ kc := (ne_of_none h1 nl).symm
      generalize upd H10 l (.lst (w.2.1.map V.str)) = H11 at sl hl
      have s11 := h5.trans sl
      have pb11 := Paired.mono (fun _ _ z => isTupI.same (isTupI.old z) s11) pb
      refine ⟨_, rfl, tb, bs, rdT H11, w.2.1.length, 6, rfl, .inl (SqL.of (s11 _ _ htb)), by omega, k1, sort_in pb11 (row_bd okL rok), fun out bq pm pw nq => ?_⟩
      obtain ⟨sr, pout⟩ := sort_out pb11 pm pw
      have sq := Same.new (o := .lst out) nq
      have hq : upd H11 bq (.lst out) bq = some (.lst out) := upd_same
      have nqk : bq ≠ kc := (ne_of_none (sl _ _ h1) nq).symm
      generalize upd H11 bq (.lst out) = H12 at sq hq
      refine ⟨lenk 3 rfl (by decide), fun u nu => ?_⟩
      have su := Same.new (o := .tup [.str w.1, .ref l, .ref bq]) nu
      have hu : upd H12 u (.tup [.str w.1, .ref l, .ref bq]) u = some (.tup [.str w.1, .ref l, .ref bq]) := upd_same
      have nuk : u ≠ kc := (ne_of_none (sq _ _ (sl _ _ h1)) nu).symm
      generalize upd H12 u (.tup [.str w.1, .ref l, .ref bq]) = H13 at su hu
      have t13 := (sl.trans sq).trans su
      have mve : Mv (fun a => a = kc) H13 (upd H13 kc (.lst (es ++ [.ref u]))) := fun a o na e => by rw [upd_ne na]; exact e
      have ok0 : ∀ a, Old H a → ¬ a = kc := fun a ⟨o, ho⟩ ea => by rw [ea, nkc] at ho; cases ho
      obtain ⟨sv, ssv, esv⟩ : ∃ sv : List (List Int), Srt w.2.2 sv ∧ Paired (isTupI H11 (Old H)) out sv := ⟨_, sr, pout⟩
      refine ⟨es, t13 _ _ h1, by rw [h2, sizeLine_eq]; omega, es ++ [.ref u], S ++ [(w.1, w.2.1, sv)], upd_same, by rw [List.length_append, h2]; rfl, ?_, ?_, Same.upd_p (h5.trans t13) nkc⟩
      · refine Paired.snoc (Paired.mono (fun _ _ z => ?_) h3) ?_
        · exact isRowS.mv (isRowS.same z t13) mve (fun a ha => ha) fun a ha => ha
        · refine ⟨u, l, bq, out, rfl, nuk, by rw [upd_ne nuk]; exact hu, ⟨nlk, by rw [upd_ne nlk]; exact su _ _ (sq _ _ hl)⟩, ⟨nqk, by rw [upd_ne nqk]; exact su _ _ hq⟩, Paired.mono (fun _ _ z => ?_) esv⟩
          exact isTupI.wk (isTupI.mv (isTupI.same z (sq.trans su)) mve ok0) ok0
      · rw [take_snoc li, er]
        exact Paired.snoc h4 ⟨rfl, rfl, ssv⟩
    rintro H1 ⟨es, S, hk, _, pS, sS, s1⟩
    rw [lys, List.take_length] at sS
    refine ⟨lenk 2 rfl (by decide), fun l nl => ?_⟩
    have s2 := Same.new (o := .lst [.ref D, .ref kc]) nl
    exact q l kc es S _ (s1.trans s2) (Same.none s1 nl) upd_same (s2 _ _ hk) (Paired.mono (fun x y z => by
      obtain ⟨p, a, c, ys, e, _, h, ⟨_, l2⟩, ⟨_, l4⟩, hp⟩ := isRowS.same z s2
      exact ⟨p, a, c, ys, e, h, l2, l4, Paired.mono (fun _ _ z => isTupI.wk z fun _ _ => trivial) hp⟩) pS) sS

end K09
namespace K09
open PySem PySem.Spec PyProof.Rows L2 TL
/-! ### a fresh name -/
def LS : List Str := (Str.ofString "abcdefghijklmnopqrstuvwxyz").cps.toList.map fun c => (⟨#[c]⟩ : Str)
theorem ls_nd : LS.Nodup := by decide +kernel
theorem ls_len : LS.length = 26 := by decide +kernel
theorem ls_ok : ∀ x ∈ LS, NameOk x := fun x hx => by
  have h : (LS.all fun x => decide (1 ≤ (tl x).length) && decide ((tl x).length ≤ 8) && (tl x).all fun c => decide (97 ≤ c) && decide (c ≤ 122)) = true := by decide +kernel
  have := List.all_eq_true.mp h x hx
  simp only [Bool.and_eq_true, decide_eq_true_eq, List.all_eq_true] at this
  exact ⟨this.1.1, this.1.2, fun c hc => this.2 c hc⟩
theorem php : ∀ {l m : List Str}, l.Nodup → (∀ x ∈ l, x ∈ m) → l.length ≤ m.length
  | [], _, _, _ => Nat.zero_le _
  | x :: t, m, nd, h => by
    rw [List.nodup_cons] at nd
    have hx := h x List.mem_cons_self
    have := php (l := t) (m := m.erase x) nd.2 fun y hy => (List.mem_erase_of_ne (fun e => nd.1 (by rw [← e]; exact hy))).mpr (h y (List.mem_cons_of_mem _ hy))
    rw [List.length_erase_of_mem hx] at this
    have hp := List.length_pos_of_mem hx
    rw [List.length_cons]
    omega
def sp_lfresh (K : PySem.W.Frag) : Sp := fun vs H Q _ => ∃ (a : Addr) (nms : List Str), vs = [.ref a] ∧ H a = some (.lst (nms.map V.str)) ∧ nms.length ≤ 8 ∧ ∀ x H', Same H H' → NameOk x → x ∉ nms → Q (.str x) H'
theorem ok_l_fresh {P : Program} {w : World} {K : PySem.W.Frag} {mg : Str → Option Value} {base : Heap} (T : Txt P K mg) : FnOk P w K mg base CX0 1 T.f_l_fresh T.fd_l_fresh ["_law_names_here"] (sp_lfresh K) := by
  refine T.F_l_fresh.ok sc_l_fresh (fun vs H Q E h => ?_) (fun cdv A outer s H vs Q E hr h => ?_)
  · obtain ⟨_, _, rfl, _⟩ := h; rfl
  · obtain ⟨a, nms, rfl, ha, l8, q⟩ := h
    refine ⟨_, PSs.nox (pss_cons (ps_set (i := 1) sc_l_fresh.nd rfl (Or.inl rfl) pe_str)
      (pss_one (ps_ret (pe_ix (show IxR _ (rIxL K) from ix_list) (pe_lc (own := [("_law_one", 2)]) (g := gName 2) rfl sc_l_fresh.nd (pi_str (pv 1)) (blkOk_by (own := [("_law_one", 2)]) (N := N_l_fresh) (sc := defScope s_l_fresh) (by decide +kernel)) (fun _ _ _ _ _ => (pg_name (i := 2) sc_l_fresh.nd rfl (Or.inl rfl))) (fun _ _ _ _ _ => pts_one (pt_cmpR (show OpR _ (compareOp .NotIn) (rIn K true) from op_notIn_seq) (pv 2) (pv 0) (by first | rfl | with_unfolding_all rfl))) (fun _ _ _ _ _ => (pv 2))) pe_int (fun _ _ => rfl))))), ?_⟩
    refine ⟨_, rfl, _, rfl, fun D nD => ?_⟩
    refine lc_it walk_str (fun i H' => H' D = some (.lst (((LS.take i).filter fun x => !decide (x ∈ nms)).map V.str)) ∧ Same H H') ⟨upd_same, Same.new nD⟩ (fun _ _ _ _ => trivial) ?_ ?_
    · rintro i x Hx H1 hi ⟨h1, s1⟩ ⟨rfl, c, hc, rfl⟩
      have hL : LS[i]? = some ⟨#[c]⟩ := by
        unfold LS
        rw [List.getElem?_map, Array.getElem?_toList, hc]; rfl
      obtain ⟨li, eL⟩ := List.getElem?_eq_some_iff.mp hL
      refine ⟨rfl, ?_⟩
      refine ⟨_, rfl, _, rfl, a, _, rfl, .inl (SqL.of (s1 _ _ ha)), rfl, flat_str _, _, rfl, ?_⟩
      rw [inV_str]
      have sn : ((LS.take (i + 1)).filter fun x => !decide (x ∈ nms)) = ((LS.take i).filter fun x => !decide (x ∈ nms)) ++ (if (!decide ((⟨#[c]⟩ : Str) ∈ nms)) = true then [⟨#[c]⟩] else []) := by
        rw [take_snoc li, List.filter_append, eL, List.filter_cons]
        congr 1
      have l26 : ((LS.take i).filter fun x => !decide (x ∈ nms)).length ≤ 26 := Nat.le_trans (List.length_filter_le _ _) (by rw [List.length_take, ls_len]; omega)
      by_cases hm : (⟨#[c]⟩ : Str) ∈ nms
      · rw [decide_eq_true hm] at sn ⊢
        refine iteF ⟨?_, s1⟩
        rw [sn, if_neg (by simp), List.append_nil]
        exact h1
      · rw [decide_eq_false hm] at sn ⊢
        refine iteT ⟨_, rfl, _, h1, by rw [List.length_map, sizeLine_eq]; omega, ?_, Same.upd_p s1 nD⟩
        rw [upd_same, sn, if_pos (show (!false) = true from rfl), List.map_append]; rfl
    rintro H1 ⟨h1, s1⟩
    have e26 : (Str.ofString "abcdefghijklmnopqrstuvwxyz").cps.size = LS.length := by rw [ls_len]; decide +kernel
    rw [e26, List.take_length] at h1
    have ne : (LS.filter fun x => !decide (x ∈ nms)) ≠ [] := fun e => by
      have := php ls_nd (m := nms) fun x hx => by
        by_cases h : x ∈ nms
        · exact h
        · have : x ∈ LS.filter fun x => !decide (x ∈ nms) := List.mem_filter.mpr ⟨hx, by simpa using h⟩
          rw [e] at this
          cases this
      rw [ls_len] at this
      omega
    obtain ⟨x, t, ex⟩ := List.exists_cons_of_ne_nil ne
    have hx : x ∈ LS.filter fun x => !decide (x ∈ nms) := by rw [ex]; exact List.mem_cons_self
    obtain ⟨m1, m2⟩ := List.mem_filter.mp hx
    rw [ex] at h1
    refine ⟨D, _, (0 : Int), .str x, rfl, rfl, SqL.of h1, atI_nat (j := 0) rfl, ?_⟩
    exact q x H1 s1 (ls_ok x m1) (by simpa using m2)

end K09
namespace K09
open PySem PySem.Spec PyProof.Rows L2 TL
/-! ### parts that are changed stay valid -/
/-- a row's validity hangs on the names and their sizes alone -/
theorem RowOk.of {L L' : List (Str × Int)} {r : Row} (h : RowOk L r) (hs : ∀ x ∈ r.2.1, x ∈ L'.map (·.1)) (hz : ∀ x ∈ r.2.1, sizeOf L x ≤ sizeOf L' x) : RowOk L' r :=
  ⟨h.nm, h.pos, h.few, hs, h.nd, h.bfew, h.bnd, h.bl, fun ns hns i x v h1 h2 => by
    obtain ⟨a, b⟩ := h.bv ns hns i x v h1 h2
    exact ⟨a, Int.lt_of_lt_of_le b (hz x (List.mem_of_getElem? h1))⟩⟩
/-- other bad tuples -/
theorem RowOk.bad {L : List (Str × Int)} {r : Row} (h : RowOk L r) {bad : List (List Int)} (l : bad.length ≤ 12) (nd : bad.Nodup) (sub : ∀ ns ∈ bad, ns ∈ r.2.2) : RowOk L (r.1, r.2.1, bad) :=
  ⟨h.nm, h.pos, h.few, h.sub, h.nd, l, nd, fun ns hns => h.bl ns (sub ns hns), fun ns hns => h.bv ns (sub ns hns)⟩
theorem RowOk.none {L : List (Str × Int)} {r : Row} (h : RowOk L r) : RowOk L (r.1, r.2.1, []) := h.bad (Nat.zero_le _) .nil fun _ z => by cases z
theorem sizeOf_mem {L : List (Str × Int)} (nd : (L.map (·.1)).Nodup) {q : Str × Int} (h : q ∈ L) : sizeOf L q.1 = q.2 := by
  obtain ⟨q', hq', e1, e2⟩ := find_mem (List.mem_map.mpr ⟨q, h, rfl⟩)
  have e : q' = q := by
    clear e2
    induction L with
    | nil => cases h
    | cons x L ih =>
      rw [List.map_cons, List.nodup_cons] at nd
      rcases List.mem_cons.mp h with h1 | h1 <;> rcases List.mem_cons.mp hq' with h2 | h2
      · rw [h1, h2]
      · exact absurd (List.mem_map.mpr ⟨q', h2, by rw [e1, h1]⟩) nd.1
      · exact absurd (List.mem_map.mpr ⟨q, h1, by rw [← e1, h2]⟩) nd.1
      · exact ih nd.2 h1 h2
  unfold sizeOf
  rw [e2, e]; rfl
/-- variables in another order -/
theorem VarsOk.perm {L L' : List (Str × Int)} (h : VarsOk L) (p : L'.Perm L) : VarsOk L' :=
  ⟨by rw [p.length_eq]; exact h.pos, by rw [p.length_eq]; exact h.few, fun q hq => h.nm q (p.mem_iff.mp hq), fun q hq => h.sz q (p.mem_iff.mp hq), (p.map (·.1)).nodup_iff.mpr h.nd⟩
theorem sizeOf_perm {L L' : List (Str × Int)} (nd : (L.map (·.1)).Nodup) (p : L'.Perm L) {x : Str} (hx : x ∈ L.map (·.1)) : sizeOf L' x = sizeOf L x := by
  obtain ⟨q, hq, rfl⟩ := List.mem_map.mp hx
  rw [sizeOf_mem nd hq, sizeOf_mem ((p.map (·.1)).nodup_iff.mpr nd) (p.mem_iff.mpr hq)]
theorem EvsOk.perm {L L' : List (Str × Int)} {R : List Row} (ok : VarsOk L) (h : EvsOk L R) (p : L'.Perm L) : EvsOk L' R :=
  ⟨h.few, fun r hr => (h.ok r hr).of (fun x hx => (p.map (·.1)).mem_iff.mpr ((h.ok r hr).sub x hx)) fun x hx => Int.le_of_eq (sizeOf_perm ok.nd p ((h.ok r hr).sub x hx)).symm, h.nd⟩
/-- events in another order, or fewer -/
theorem EvsOk.sub {L : List (Str × Int)} {R R' : List Row} (h : EvsOk L R) (hm : ∀ r ∈ R', r ∈ R) (nd : (R'.map (·.1)).Nodup) (l : R'.length ≤ 8) : EvsOk L R' := ⟨l, fun r hr => h.ok r (hm r hr), nd⟩
/-- one more variable -/
theorem VarsOk.more {L : List (Str × Int)} (h : VarsOk L) {q : Str × Int} (l : L.length < 8) (n : NameOk q.1) (f : q.1 ∉ L.map (·.1)) (z : 1 ≤ q.2 ∧ q.2 ≤ 6) : VarsOk (L ++ [q]) := by
  refine ⟨by rw [List.length_append]; have := h.pos; omega, by rw [List.length_append]; show _ + 1 ≤ 8; omega, fun p hp => ?_, fun p hp => ?_, ?_⟩
  · rcases List.mem_append.mp hp with h1 | h1
    · exact h.nm p h1
    · rw [List.mem_singleton.mp h1]; exact n
  · rcases List.mem_append.mp hp with h1 | h1
    · exact h.sz p h1
    · rw [List.mem_singleton.mp h1]; exact z
  · rw [List.map_append, List.nodup_append]
    exact ⟨h.nd, by simp, fun a ha b hb e => f (by rw [List.map_cons, List.map_nil, List.mem_singleton] at hb; rw [← hb, ← e]; exact ha)⟩
theorem EvsOk.more {L : List (Str × Int)} {R : List Row} (ok : VarsOk L) (h : EvsOk L R) {q : Str × Int} (ok' : VarsOk (L ++ [q])) : EvsOk (L ++ [q]) R :=
  ⟨h.few, fun r hr => (h.ok r hr).of (fun x hx => by rw [List.map_append]; exact List.mem_append_left _ ((h.ok r hr).sub x hx)) fun x hx => by
    obtain ⟨p, hp, rfl⟩ := List.mem_map.mp ((h.ok r hr).sub x hx)
    rw [sizeOf_mem ok.nd hp, sizeOf_mem ok'.nd (List.mem_append_left _ hp)]; exact Int.le_refl _, h.nd⟩
/-- one entry of the variables is another one -/
theorem set_map {α β : Type} (f : α → β) : ∀ (l : List α) (i : Nat) (y : α), (l.set i y).map f = (l.map f).set i (f y)
  | [], _, _ => rfl
  | _ :: _, 0, _ => rfl
  | a :: l, i + 1, y => by rw [List.set_cons_succ, List.map_cons, List.map_cons, List.set_cons_succ, set_map f l i y]
theorem set_nodup : ∀ {l : List Str} {i : Nat} {y : Str}, l.Nodup → (∀ j z, l[j]? = some z → j ≠ i → z ≠ y) → (l.set i y).Nodup
  | [], _, _, _, _ => .nil
  | a :: l, 0, y, nd, h => by
    rw [List.nodup_cons] at nd
    rw [List.set_cons_zero, List.nodup_cons]
    refine ⟨fun hm => ?_, nd.2⟩
    obtain ⟨j, hj⟩ := List.mem_iff_getElem?.mp hm
    exact h (j + 1) y (by simpa using hj) (by omega) rfl
  | a :: l, i + 1, y, nd, h => by
    rw [List.nodup_cons] at nd
    rw [List.set_cons_succ, List.nodup_cons]
    refine ⟨fun hm => ?_, set_nodup nd.2 fun j z hj hne => h (j + 1) z (by simpa using hj) (by omega)⟩
    rcases List.mem_or_eq_of_mem_set hm with h1 | h1
    · exact nd.1 h1
    · exact h 0 a rfl (by omega) h1
theorem VarsOk.set {L : List (Str × Int)} (h : VarsOk L) {i : Nat} {y : Str × Int} (n : NameOk y.1) (z : 1 ≤ y.2 ∧ y.2 ≤ 6) (f : ∀ j q, L[j]? = some q → j ≠ i → q.1 ≠ y.1) : VarsOk (L.set i y) := by
  refine ⟨by rw [List.length_set]; exact h.pos, by rw [List.length_set]; exact h.few, fun q hq => ?_, fun q hq => ?_, ?_⟩
  · rcases List.mem_or_eq_of_mem_set hq with h1 | h1
    · exact h.nm q h1
    · rw [h1]; exact n
  · rcases List.mem_or_eq_of_mem_set hq with h1 | h1
    · exact h.sz q h1
    · rw [h1]; exact z
  · rw [set_map]
    refine set_nodup h.nd fun j z hj hne => ?_
    rw [List.getElem?_map] at hj
    cases e : L[j]? with
    | none => rw [e] at hj; cases hj
    | some q => rw [e] at hj; cases hj; exact f j q e hne
theorem mem_set_other {L : List (Str × Int)} (nd : (L.map (·.1)).Nodup) {i : Nat} {q y : Str × Int} (hq : L[i]? = some q) {p : Str × Int} (hp : p ∈ L) (ne : p.1 ≠ q.1) : p ∈ L.set i y := by
  obtain ⟨j, hj⟩ := List.mem_iff_getElem?.mp hp
  have hne : i ≠ j := fun e => by rw [e, hj] at hq; cases hq; exact ne rfl
  exact List.mem_iff_getElem?.mpr ⟨j, by rw [List.getElem?_set_ne hne]; exact hj⟩
theorem mem_set_self' {L : List (Str × Int)} {i : Nat} {q y : Str × Int} (hq : L[i]? = some q) : y ∈ L.set i y := by
  have li := (List.getElem?_eq_some_iff.mp hq).1
  exact List.mem_iff_getElem?.mpr ⟨i, by rw [List.getElem?_set_self li]⟩
/-- a variable of another size: events that don't fit lose their bad tuples -/
theorem EvsOk.resize {L : List (Str × Int)} {R : List Row} (ok : VarsOk L) (h : EvsOk L R) {i : Nat} {q : Str × Int} (hq : L[i]? = some q) {s : Int} (hs : 1 ≤ s ∧ s ≤ 6) (big : Bool) (hb : big = false → q.2 ≤ s) :
    VarsOk (L.set i (q.1, s)) ∧ EvsOk (L.set i (q.1, s)) (R.map fun r => (r.1, r.2.1, if (big && decide (q.1 ∈ r.2.1)) = true then [] else r.2.2)) := by
  have mq := List.mem_of_getElem? hq
  have vk : VarsOk (L.set i (q.1, s)) := ok.set (ok.nm q mq) hs fun j p hj hne e => hne (by
    have a : (L.map (·.1))[j]? = some q.1 := by rw [List.getElem?_map, hj, ← e]; rfl
    have b : (L.map (·.1))[i]? = some q.1 := by rw [List.getElem?_map, hq]; rfl
    obtain ⟨la, ea⟩ := List.getElem?_eq_some_iff.mp a
    obtain ⟨lb, eb⟩ := List.getElem?_eq_some_iff.mp b
    have p := List.pairwise_iff_getElem.mp (List.nodup_iff_pairwise_ne.mp ok.nd)
    rcases Nat.lt_trichotomy j i with h | h | h
    · exact absurd (ea.trans eb.symm) (p j i la lb h)
    · exact h
    · exact absurd (eb.trans ea.symm) (p i j lb la h))
  refine ⟨vk, by rw [List.length_map]; exact h.few, fun r' hr' => ?_, by rw [List.map_map]; exact h.nd⟩
  obtain ⟨r, hr, rfl⟩ := List.mem_map.mp hr'
  have rok := h.ok r hr
  have sub : ∀ x ∈ r.2.1, x ∈ (L.set i (q.1, s)).map (·.1) := fun x hx => by
    obtain ⟨p, hp, rfl⟩ := List.mem_map.mp (rok.sub x hx)
    by_cases e : p.1 = q.1
    · exact List.mem_map.mpr ⟨(q.1, s), mem_set_self' hq, e.symm⟩
    · exact List.mem_map.mpr ⟨p, mem_set_other ok.nd hq hp e, rfl⟩
  by_cases c : (big && decide (q.1 ∈ r.2.1)) = true
  · rw [if_pos c]
    exact ⟨rok.nm, rok.pos, rok.few, sub, rok.nd, Nat.zero_le _, .nil, (fun _ z => by cases z), fun _ z => by cases z⟩
  · rw [if_neg c]
    refine rok.of sub fun x hx => ?_
    obtain ⟨p, hp, rfl⟩ := List.mem_map.mp (rok.sub x hx)
    rw [sizeOf_mem ok.nd hp]
    by_cases e : p.1 = q.1
    · have hbig : big = false := by
        cases big with
        | false => rfl
        | true => exact absurd (by rw [Bool.true_and]; exact decide_eq_true (e ▸ hx)) c
      have e2 : p = q := by
        have h1 := sizeOf_mem ok.nd hp
        have h2 := sizeOf_mem ok.nd mq
        rw [e, h2] at h1
        exact Prod.ext e h1.symm
      have := sizeOf_mem vk.nd (mem_set_self' (L := L) (y := (q.1, s)) hq)
      rw [e, show sizeOf (L.set i (q.1, s)) q.1 = s from this, e2]
      exact hb hbig
    · rw [sizeOf_mem vk.nd (mem_set_other ok.nd hq hp e)]
      exact Int.le_refl _

end K09
namespace K09
open PySem PySem.Spec PyProof.Rows L2 TL
/-! ### a variable of another name -/
def rn (a f x : Str) : Str := if x = a then f else x
theorem nd_at {l : List Str} (nd : l.Nodup) {i j : Nat} {x : Str} (hi : l[i]? = some x) (hj : l[j]? = some x) : i = j := by
  obtain ⟨la, ea⟩ := List.getElem?_eq_some_iff.mp hi
  obtain ⟨lb, eb⟩ := List.getElem?_eq_some_iff.mp hj
  have p := List.pairwise_iff_getElem.mp (List.nodup_iff_pairwise_ne.mp nd)
  rcases Nat.lt_trichotomy i j with h | h | h
  · exact absurd (ea.trans eb.symm) (p i j la lb h)
  · exact h
  · exact absurd (eb.trans ea.symm) (p j i lb la h)
theorem key_at {L : List (Str × Int)} {i : Nat} {q : Str × Int} (h : L[i]? = some q) : (L.map (·.1))[i]? = some q.1 := by
  rw [List.getElem?_map, h]; rfl
theorem rn_inj {a f x y : Str} (hx : x ≠ f) (hy : y ≠ f) (e : rn a f x = rn a f y) : x = y := by
  unfold rn at e
  by_cases h1 : x = a <;> by_cases h2 : y = a
  · rw [h1, h2]
  · rw [if_pos h1, if_neg h2] at e; exact absurd e.symm hy
  · rw [if_neg h1, if_pos h2] at e; exact absurd e hx
  · rwa [if_neg h1, if_neg h2] at e
theorem map_nodup_on {f : Str → Str} : ∀ {l : List Str}, l.Nodup → (∀ x ∈ l, ∀ y ∈ l, f x = f y → x = y) → (l.map f).Nodup
  | [], _, _ => .nil
  | a :: l, nd, h => by
    rw [List.nodup_cons] at nd
    rw [List.map_cons, List.nodup_cons]
    refine ⟨fun hm => ?_, map_nodup_on nd.2 fun x hx y hy => h x (List.mem_cons_of_mem _ hx) y (List.mem_cons_of_mem _ hy)⟩
    obtain ⟨y, hy, e⟩ := List.mem_map.mp hm
    have := h y (List.mem_cons_of_mem _ hy) a List.mem_cons_self e
    rw [this] at hy
    exact nd.1 hy
theorem EvsOk.rename {L : List (Str × Int)} {R : List Row} (ok : VarsOk L) (h : EvsOk L R) {i : Nat} {q : Str × Int} (hq : L[i]? = some q) {f : Str} (nf : NameOk f) (hf : f ∉ L.map (·.1)) :
    VarsOk (L.set i (f, q.2)) ∧ EvsOk (L.set i (f, q.2)) (R.map fun r => (r.1, r.2.1.map (rn q.1 f), r.2.2)) := by
  have mq := List.mem_of_getElem? hq
  have vk : VarsOk (L.set i (f, q.2)) := ok.set nf (ok.sz q mq) fun j p hj _ e => hf (List.mem_map.mpr ⟨p, List.mem_of_getElem? hj, e⟩)
  have ne : ∀ x ∈ L.map (·.1), x ≠ f := fun x hx e => hf (by rw [← e]; exact hx)
  have to : ∀ p ∈ L, (rn q.1 f p.1, p.2) ∈ L.set i (f, q.2) := fun p hp => by
    unfold rn
    by_cases e : p.1 = q.1
    · rw [if_pos e]
      have e2 : p = q := by
        have h1 := sizeOf_mem ok.nd hp
        have h2 := sizeOf_mem ok.nd mq
        rw [e, h2] at h1
        exact Prod.ext e h1.symm
      rw [e2]
      exact mem_set_self' hq
    · rw [if_neg e]
      exact mem_set_other ok.nd hq hp e
  refine ⟨vk, by rw [List.length_map]; exact h.few, fun r' hr' => ?_, by rw [List.map_map]; exact h.nd⟩
  obtain ⟨r, hr, rfl⟩ := List.mem_map.mp hr'
  have rok := h.ok r hr
  refine ⟨rok.nm, by rw [List.length_map]; exact rok.pos, by rw [List.length_map]; exact rok.few, fun x hx => ?_, ?_, rok.bfew, rok.bnd, fun ns hns => by rw [List.length_map]; exact rok.bl ns hns, fun ns hns j x v h1 h2 => ?_⟩
  · obtain ⟨y, hy, rfl⟩ := List.mem_map.mp hx
    obtain ⟨p, hp, rfl⟩ := List.mem_map.mp (rok.sub y hy)
    exact List.mem_map.mpr ⟨_, to p hp, rfl⟩
  · exact map_nodup_on rok.nd fun x hx y hy e => rn_inj (ne x (rok.sub x hx)) (ne y (rok.sub y hy)) e
  · rw [List.getElem?_map] at h1
    obtain ⟨y, hy, rfl⟩ := Option.map_eq_some_iff.mp h1
    obtain ⟨p, hp, rfl⟩ := List.mem_map.mp (rok.sub y (List.mem_of_getElem? hy))
    have := rok.bv ns hns j p.1 v hy h2
    rw [sizeOf_mem ok.nd hp] at this
    have e := sizeOf_mem vk.nd (to p hp)
    rw [show sizeOf (L.set i (f, q.2)) (rn q.1 f p.1) = p.2 from e]
    exact this
/-! ### parts that stand beside the bag -/
def PV (b : Addr) (H : Hp) (D : Addr) (L : List (Str × Int)) : Prop := D ≠ b ∧ ∃ xs, H D = some (.lst xs) ∧ Paired (isPair H fun a => a ≠ b) xs L
def PR (b : Addr) (H : Hp) (r : Addr) (R : List Row) : Prop := r ≠ b ∧ ∃ ys, H r = some (.lst ys) ∧ Paired (isRowS H (fun a => a ≠ b) fun a => a ≠ b) ys R
theorem PV.fr {b : Addr} {H H' : Hp} {D : Addr} {L : List (Str × Int)} (h : PV b H D L) (f : Fr b H H') : PV b H' D L := by
  obtain ⟨n, xs, h1, h2⟩ := h
  exact ⟨n, xs, f _ _ n h1, Paired.mono (fun _ _ z => isPair.mv z (Mv.of_fr f) fun a ha e => ha e) h2⟩
theorem PR.fr {b : Addr} {H H' : Hp} {D : Addr} {R : List Row} (h : PR b H D R) (f : Fr b H H') : PR b H' D R := by
  obtain ⟨n, xs, h1, h2⟩ := h
  exact ⟨n, xs, f _ _ n h1, Paired.mono (fun _ _ z => isRowS.mv z (Mv.of_fr f) (fun a ha e => ha e) fun a ha e => ha e) h2⟩
theorem PV.same {b : Addr} {H H' : Hp} {D : Addr} {L : List (Str × Int)} (h : PV b H D L) (f : Same H H') : PV b H' D L := h.fr (Fr.of_same f)
theorem PR.same {b : Addr} {H H' : Hp} {D : Addr} {R : List Row} (h : PR b H D R) (f : Same H H') : PR b H' D R := h.fr (Fr.of_same f)
theorem pd_set {α β : Type} {F : α → β → Prop} : ∀ {l : List α} {m : List β} {i : Nat} {x : α} {y : β}, Paired F l m → F x y → Paired F (l.set i x) (m.set i y)
  | _, _, _, _, _, .nil, _ => .nil
  | _, _, 0, _, _, .cons _ t, h => .cons h t
  | _, _, i + 1, _, _, .cons r t, h => .cons r (pd_set t h)
/-- the sampled pair's place, and the two at once -/
theorem swap_perm {α : Type} {l : List α} {i j : Nat} {x y : α} (hi : l[i]? = some x) (hj : l[j]? = some y) : ((l.set i y).set j x).Perm l := by
  obtain ⟨li, ei⟩ := List.getElem?_eq_some_iff.mp hi
  obtain ⟨lj, ej⟩ := List.getElem?_eq_some_iff.mp hj
  rw [← ei, ← ej]
  exact List.set_set_perm li lj
/-! ### rows that are put at the end of a list under construction -/
abbrev NB (b D : Addr) : Addr → Prop := fun a => a ≠ b ∧ a ≠ D
theorem tup_nb {Hs : Hp} {b D : Addr} (nD : Hs D = none) {x : V} {ns : List Int} (h : isTupI Hs (fun a => a ≠ b) x ns) : isTupI Hs (NB b D) x ns := by
  obtain ⟨t, e, n, h⟩ := h
  exact ⟨t, e, ⟨n, ne_of_none h nD⟩, h⟩
theorem row_nb {Hs : Hp} {b D : Addr} (nD : Hs D = none) {x : V} {r : Row} (h : isRowS Hs (fun a => a ≠ b) (fun a => a ≠ b) x r) : isRowS Hs (NB b D) (NB b D) x r := by
  obtain ⟨p, a, c, ys, e, f, h, la, lb, hp⟩ := h
  exact ⟨p, a, c, ys, e, ⟨f, ne_of_none h nD⟩, h, ⟨⟨la.1, ne_of_none la.2 nD⟩, la.2⟩, ⟨⟨lb.1, ne_of_none lb.2 nD⟩, lb.2⟩, Paired.mono (fun _ _ z => tup_nb nD z) hp⟩
theorem row_put {b D : Addr} {H : Hp} {zs bs : List V} {S : List Row} {t a v : Addr} {nm : Str} {sc : List Str} {bad : List (List Int)} (pz : Paired (isRowS H (NB b D) (NB b D)) zs S) (ht : H t = some (.tup [.str nm, .ref a, .ref v])) (nt : NB b D t)
    (ha : H a = some (.lst (sc.map V.str))) (na : NB b D a) (hv : H v = some (.lst bs)) (nv : NB b D v) (pb : Paired (isTupI H (NB b D)) bs bad) :
    Paired (isRowS (upd H D (.lst (zs ++ [.ref t]))) (NB b D) (NB b D)) (zs ++ [.ref t]) (S ++ [(nm, sc, bad)]) := by
  have mvD : Mv (fun a => a = D) H (upd H D (.lst (zs ++ [.ref t]))) := fun a o na e => by rw [upd_ne na]; exact e
  exact Paired.snoc (Paired.mono (fun _ _ z => isRowS.mv z mvD (fun a ha => ha.2) fun a ha => ha.2) pz) (isRowS.mv ⟨t, a, v, bs, rfl, nt, ht, ⟨na, ha⟩, ⟨nv, hv⟩, pb⟩ mvD (fun a ha => ha.2) fun a ha => ha.2)
theorem rows_out {b D : Addr} {H : Hp} {zs : List V} {S : List Row} (h : Paired (isRowS H (NB b D) (NB b D)) zs S) : Paired (isRowS H (fun a => a ≠ b) fun a => a ≠ b) zs S :=
  Paired.mono (fun _ _ z => isRowS.wk z (fun _ ha => ha.1) fun _ ha => ha.1) h
theorem eqv_nil (us : List Str) : PyData.eqv (.list (us.map PyData.str)) (.list []) = decide (us = []) := by
  have h := eqv_mapI PyData.str eqv_s2 us []
  rw [List.map_nil] at h
  exact h
theorem map_snoc {α β : Type} (f : α → β) {l : List α} {i : Nat} (h : i < l.length) : (l.take (i + 1)).map f = (l.take i).map f ++ [f l[i]] := by
  rw [take_snoc h, List.map_append]; rfl

end K09
namespace K09
open PySem PySem.Spec PyProof.Rows L2 TL
/-! ### other variables -/
def sp_lov (K : PySem.W.Frag) : Sp := fun vs H Q _ => ∃ (b D r : Addr) (n : Nat) (L : List (Str × Int)) (R : List Row), vs = [.ref b, .ref D, .ref r] ∧ Bag H b n ∧ n + 10 ≤ 1000000 ∧ PV b H D L ∧ PR b H r R ∧ VarsOk L ∧ EvsOk L R ∧
  ∀ p a r' L' R' H', Fr b H H' → H' p = some (.tup [.ref a, .ref r']) → PV b H' a L' → PR b H' r' R' → VarsOk L' → EvsOk L' R' → Bag H' b (n + 10) → Q (.ref p) H'
theorem wipe_at {σ : L2.St} {i : Nat} {x : Option L2.V} : ∀ L : List Nat, (L2.wipe (σ.set i x) L).set i none = (L2.wipe σ L).set i none
  | [] => by rw [L2.wipe, L2.wipe, List.set_set]
  | a :: L => by
    rw [L2.wipe, L2.wipe]
    by_cases e : a = i
    · rw [e, List.set_set, List.set_set]; exact wipe_at L
    · rw [List.set_comm _ _ e, List.set_comm _ _ e, wipe_at L]
theorem wipe_in {σ : L2.St} {i : Nat} {x : Option L2.V} : ∀ {L : List Nat}, i ∈ L → L2.wipe (σ.set i x) L = L2.wipe σ L
  | [], h => by cases h
  | a :: L, h => by
    rw [L2.wipe, L2.wipe]
    by_cases e : i = a
    · rw [← e]; exact wipe_at L
    · rw [wipe_in (List.mem_of_ne_of_mem e h)]
theorem ixn {m i : Nat} (h : i < m) : ixN m (i : Int) = some i := by
  unfold ixN
  rw [if_pos (by omega), if_pos (by omega)]
  show some (i : Int).toNat = some i
  rw [Int.toNat_natCast]
theorem ok_l_other_variables {P : Program} {w : World} {K : PySem.W.Frag} {mg : Str → Option Value} {base : Heap} (T : Txt P K mg) : FnOk P w K mg base CX0 2 T.f_l_other_variables T.fd_l_other_variables ["_law_bag_here", "_law_sizes", "_law_rows"] (sp_lov K) := by
  refine T.F_l_other_variables.ok sc_l_other_variables (fun vs H Q E h => ?_) (fun cdv A outer s H vs Q E hr h => ?_)
  · obtain ⟨_, _, _, _, _, _, rfl, _⟩ := h; rfl
  · obtain ⟨b, D, r, n, L, R, rfl, hB, hn, hV, hR, okL, okR, q⟩ := h
    refine ⟨_, PSs.nox (pss_cons (ps_set (i := 3) sc_l_other_variables.nd rfl (Or.inl rfl) (pe_callTy (show CallR _ _ (rListOf K) from call_list_of) (by rfl) T.n_list (by decide +kernel) (pa_cons (pv 1) pa_nil)))
      (pss_cons (ps_par3 (i := 4) (j := 5) (l := 6) (by rfl) sc_l_other_variables.nd rfl rfl rfl (by decide) (by decide) (by decide) rfl rfl rfl (pa_cons (pe_call (ok_l_take T) (hr.mono (by decide)) (by rfl) T.g_l_take T.F_l_take.kp (b_l_take T) .nil pass0 (pa_cons (pv 0) (pa_cons (pe_callB (show CallR _ _ (rLenSeq K) from call_len_seq) (by rfl) T.n_len (by decide +kernel) (pa_cons (pv 3) pa_nil)) pa_nil))) (pa_cons (pe_call (ok_l_take T) (hr.mono (by decide)) (by rfl) T.g_l_take T.F_l_take.kp (b_l_take T) .nil pass0 (pa_cons (pv 0) (pa_cons (pe_callB (show CallR _ _ (rLenSeq K) from call_len_seq) (by rfl) T.n_len (by decide +kernel) (pa_cons (pv 3) pa_nil)) pa_nil))) (pa_cons (pe_call (ok_l_take T) (hr.mono (by decide)) (by rfl) T.g_l_take T.F_l_take.kp (b_l_take T) .nil pass0 (pa_cons (pv 0) (pa_cons pe_int pa_nil))) pa_nil))) (by rfl))
      (pss_cons (ps_asg (pe_ix (show IxR _ (rIxL K) from ix_list) (pv 3) (pv 4) (fun _ _ => rfl)) (pg_tup rfl (pgs_cons (pg_name (i := 7) sc_l_other_variables.nd rfl (Or.inr rfl)) (pgs_cons (pg_name (i := 8) sc_l_other_variables.nd rfl (Or.inr rfl)) pgs_nil))))
      (pss_cons (ps_setLc (i := 9) (own := [("_law_one", 12), ("_law_many", 13)]) (g := gTup K 2 (gCons (gName 12) (gCons (gName 13) gNil))) rfl sc_l_other_variables.nd rfl rfl (sw_true rfl rfl rfl (by decide +kernel)) (pi_list (pv 1)) (blkOk_by (own := [("_law_one", 12), ("_law_many", 13)]) (N := N_l_other_variables) (sc := defScope s_l_other_variables) (by decide +kernel)) (fun _ _ _ _ _ => (pg_tup rfl (pgs_cons (pg_name (i := 12) sc_l_other_variables.nd rfl (Or.inl rfl)) (pgs_cons (pg_name (i := 13) sc_l_other_variables.nd rfl (Or.inl rfl)) pgs_nil)))) (fun _ _ _ _ _ => pts_nil) (fun _ _ _ _ _ => (pv 12)))
      (pss_cons (ps_if (pt_cmpR op_eq (pv 6) pe_int (nomark _)) (pss_cons (ps_asg (pe_tup (pa_cons (pv 7) (pa_cons (pe_op op_add (pe_op op_mod (pv 8) pe_int) pe_int) pa_nil))) (pg_sub (pv 3) (pv 4) set_list))
      (pss_cons (ps_set (i := 10) sc_l_other_variables.nd rfl (Or.inr rfl) (pe_lc (own := [("_law_one", 12), ("_law_many", 13)]) (g := gTup K 2 (gCons (gName 12) (gCons (gName 13) gNil))) rfl sc_l_other_variables.nd (pi_list (pv 1)) (blkOk_by (own := [("_law_one", 12), ("_law_many", 13)]) (N := N_l_other_variables) (sc := defScope s_l_other_variables) (by decide +kernel)) (fun _ _ _ _ _ => (pg_tup rfl (pgs_cons (pg_name (i := 12) sc_l_other_variables.nd rfl (Or.inl rfl)) (pgs_cons (pg_name (i := 13) sc_l_other_variables.nd rfl (Or.inl rfl)) pgs_nil)))) (fun _ _ _ _ _ => pts_one (PW.pt (pw_and (pt_cmpR op_gt (pv 13) pe_int (nomark _)) (pw_and (pt_cmpR op_eq (pv 12) (pv 7) (nomark _)) (pw_and1 (pt_cmpR op_eq (pv 8) pe_int (nomark _))))))) (fun _ _ _ _ _ => (pv 12))))
      (pss_one (ps_ret (pe_tup (pa_cons (pv 3) (pa_cons (pe_lc (own := [("_law_title", 14), ("_law_scope_here", 15), ("_law_bad", 16)]) (g := gTup K 3 (gCons (gName 14) (gCons (gName 15) (gCons (gName 16) gNil)))) rfl sc_l_other_variables.nd (pi_list (pv 2)) (blkOk_by (own := [("_law_title", 14), ("_law_scope_here", 15), ("_law_bad", 16)]) (N := N_l_other_variables) (sc := defScope s_l_other_variables) (by decide +kernel)) (fun _ _ _ _ _ => (pg_tup rfl (pgs_cons (pg_name (i := 14) sc_l_other_variables.nd rfl (Or.inl rfl)) (pgs_cons (pg_name (i := 15) sc_l_other_variables.nd rfl (Or.inl rfl)) (pgs_cons (pg_name (i := 16) sc_l_other_variables.nd rfl (Or.inl rfl)) pgs_nil))))) (fun _ _ _ _ _ => pts_nil) (fun _ _ _ _ _ => (pe_tup (pa_cons (pv 14) (pa_cons (pv 15) (pa_cons (pe_ifExp (PW.pt (pw_and (pt_cmpR (show OpR _ (compareOp .NotEq) (rNeD K) from op_neD hr.units) (pv 10) (pe_lst pa_nil) (nomark _)) (pw_and1 (pt_cmpR (show OpR _ (compareOp .In) (rIn K false) from op_in_seq) (pv 7) (pv 15) (by first | rfl | with_unfolding_all rfl))))) (pe_lst pa_nil) (pv 16)) pa_nil)))))) pa_nil))))))) pss_nil)
      (pss_cons (ps_if (pt_cmpR op_eq (pv 6) pe_int (nomark _)) (pss_cons (ps_set (i := 11) sc_l_other_variables.nd rfl (Or.inr rfl) (pe_call (ok_l_fresh T) (hr.mono (by decide)) (by rfl) T.g_l_fresh T.F_l_fresh.kp (b_l_fresh T) .nil pass0 (pa_cons (pv 9) pa_nil)))
      (pss_cons (ps_asg (pe_tup (pa_cons (pv 11) (pa_cons (pv 8) pa_nil))) (pg_sub (pv 3) (pv 4) set_list))
      (pss_one (ps_ret (pe_tup (pa_cons (pv 3) (pa_cons (pe_lc (own := [("_law_title", 14), ("_law_scope_here", 15), ("_law_bad", 16)]) (g := gTup K 3 (gCons (gName 14) (gCons (gName 15) (gCons (gName 16) gNil)))) rfl sc_l_other_variables.nd (pi_list (pv 2)) (blkOk_by (own := [("_law_title", 14), ("_law_scope_here", 15), ("_law_bad", 16)]) (N := N_l_other_variables) (sc := defScope s_l_other_variables) (by decide +kernel)) (fun _ _ _ _ _ => (pg_tup rfl (pgs_cons (pg_name (i := 14) sc_l_other_variables.nd rfl (Or.inl rfl)) (pgs_cons (pg_name (i := 15) sc_l_other_variables.nd rfl (Or.inl rfl)) (pgs_cons (pg_name (i := 16) sc_l_other_variables.nd rfl (Or.inl rfl)) pgs_nil))))) (fun _ _ _ _ _ => pts_nil) (fun _ _ _ _ _ => (pe_tup (pa_cons (pv 14) (pa_cons (pe_lc (own := [("_law_one", 12)]) (g := gName 12) rfl sc_l_other_variables.nd (show PI _ _ _ (iList K _) from (pi_list (pv 15))) (blkOk_by (own := [("_law_one", 12)]) (N := N_l_other_variables) (sc := relS _ (defScope s_l_other_variables)) (by decide +kernel)) (fun _ _ _ _ _ => (pg_name (i := 12) sc_l_other_variables.nd rfl (Or.inl rfl))) (fun _ _ _ _ _ => pts_nil) (fun _ _ _ _ _ => (pe_ifExp (pt_cmpR op_eq (pv 12) (pv 7) (nomark _)) (pv 11) (pv 12)))) (pa_cons (pv 16) pa_nil)))))) pa_nil))))))) pss_nil)
      (pss_cons (ps_if (pt_cmpR op_eq (pv 6) pe_int (nomark _)) (pss_cons (ps_asg (pe_tup (pa_cons (pe_ix (show IxR _ (rIxL K) from ix_list) (pv 3) (pv 5) (fun _ _ => rfl)) (pa_cons (pe_ix (show IxR _ (rIxL K) from ix_list) (pv 3) (pv 4) (fun _ _ => rfl)) pa_nil))) (pg_tup rfl (pgs_cons (pg_sub (pv 3) (pv 4) set_list) (pgs_cons (pg_sub (pv 3) (pv 5) set_list) pgs_nil))))
      (pss_one (ps_ret (pe_tup (pa_cons (pv 3) (pa_cons (pv 2) pa_nil)))))) pss_nil)
      (pss_one (ps_ret (pe_tup (pa_cons (pe_slice (show SlR _ (rSlL K) from sl_list) (pe_op op_cat (pv 3) (pe_lst (pa_cons (pe_tup (pa_cons (pe_call (ok_l_fresh T) (hr.mono (by decide)) (by rfl) T.g_l_fresh T.F_l_fresh.kp (b_l_fresh T) .nil pass0 (pa_cons (pv 9) pa_nil)) (pa_cons pe_int pa_nil))) pa_nil))) po_none (po_some pe_int)) (pa_cons (pv 2) pa_nil)))))))))))), ?_⟩
    have hV0 := hV
    obtain ⟨nDb, xs, hD, pdL⟩ := hV0
    have l8 := okL.few
    have l1 := okL.pos
    have r8 := okR.few
    have lxs := pdL.length
    refine ⟨_, rfl, D, _, rfl, .inl (SqL.of hD), fun F nF => ?_⟩
    have nbF := hB.ne nF
    have s1 := Same.new (o := .lst xs) nF
    have hF : upd H F (.lst xs) F = some (.lst xs) := upd_same
    have b1 := hB.same s1
    generalize upd H F (.lst xs) = H1 at s1 hF b1
    refine ⟨_, rfl, _, rfl, F, _, rfl, .inl (SqL.of hF), b, n, _, rfl, b1, by omega, by omega, by omega, fun at' H2 f2 b2 a0 a1 => ?_⟩
    have hF2 := f2 F _ (Ne.symm nbF) hF
    refine ⟨_, rfl, _, rfl, F, _, rfl, .inl (SqL.of hF2), b, _, _, rfl, b2, by omega, by omega, by omega, fun to' H3 f3 b3 t0 t1 => ?_⟩
    refine ⟨_, rfl, b, _, _, rfl, b3, by omega, by decide, by decide, fun way H4 f4 b4 w0 w1 => ?_⟩
    have f14 := (f2.trans f3).trans f4
    have hF4 := f14 F _ (Ne.symm nbF) hF
    have F4 : Fr b H H4 := (Fr.of_same s1).trans f14
    clear hF hF2 s1 b1 b2 b3 f2 f3 f4 f14
    obtain ⟨k, rfl⟩ : ∃ k : Nat, at' = (k : Int) := ⟨at'.toNat, (Int.toNat_of_nonneg a0).symm⟩
    obtain ⟨j, rfl⟩ : ∃ k : Nat, to' = (k : Int) := ⟨to'.toNat, (Int.toNat_of_nonneg t0).symm⟩
    have lk : k < xs.length := by omega
    have lj : j < xs.length := by omega
    obtain ⟨w, hw, tw, ew, nw, htw⟩ := pd_get pdL (List.getElem?_eq_getElem lk)
    have hxk : xs[k]? = some (.ref tw) := by rw [List.getElem?_eq_getElem lk, ew]
    have mw := List.mem_of_getElem? hw
    have sw := okL.sz w mw
    refine ⟨_, _, _, rfl, ?_⟩
    refine ⟨_, rfl, _, rfl, F, _, _, _, rfl, rfl, SqL.of hF4, atI_nat hxk, ?_⟩
    refine ⟨tw, _, rfl, .inl (.inl (F4 tw _ nw htw)), rfl, _, _, rfl, _, _, rfl, rfl, ?_⟩
    -- the names in use
    refine ⟨_, rfl, D, rfl, ⟨_, SqL.of (F4 D _ nDb hD)⟩, fun U nU => ?_⟩
    refine lc_it (walk_list (K := K) (a := D) (xs := xs)) (fun i H' => H' U = some (.lst (((L.take i).map (·.1)).map V.str)) ∧ Same H4 H') ⟨upd_same, Same.new nU⟩ (fun i H' _ h => SqL.of (h.2 _ _ (F4 D _ nDb hD))) ?_ ?_
    · rintro i x Hx H6 hi ⟨k1, k2⟩ ⟨rfl, hx⟩
      obtain ⟨v, hv, tp, rfl, ntp, htp⟩ := pd_get pdL hx
      obtain ⟨lv, ev⟩ := List.getElem?_eq_some_iff.mp hv
      refine ⟨tp, _, rfl, .inl (.inl (k2 _ _ (F4 _ _ ntp htp))), rfl, _, _, rfl, _, _, rfl, rfl, rfl, ?_⟩
      refine ⟨_, rfl, _, k1, by rw [List.length_map, List.length_map, List.length_take, sizeLine_eq]; omega, ?_, Same.upd_p k2 nU⟩
      rw [upd_same, map_snoc _ lv, ev, List.map_append]; rfl
    rintro H5 ⟨hU, s45⟩
    rw [lxs, List.take_length] at hU
    have F5 := F4.trans (Fr.of_same s45)
    have b5 := b4.same s45
    have hF5 := s45 _ _ hF4
    clear hF4 F4 b4 s45 nU
    have hV5 := hV.fr F5
    have hR5 := hR.fr F5
    obtain ⟨-, ys, hr5, pdR5⟩ := hR5
    have nrb := hR.1
    have lys := pdR5.length
    have hxj : ∃ v tv, L[j]? = some v ∧ xs[j]? = some (.ref tv) ∧ isPair H (fun a => a ≠ b) (.ref tv) v := by
      obtain ⟨v, hv, tv, ev, nv, htv⟩ := pd_get pdL (List.getElem?_eq_getElem lj)
      exact ⟨v, tv, hv, by rw [List.getElem?_eq_getElem lj, ev], ⟨tv, rfl, nv, htv⟩⟩
    obtain ⟨v, tv, hv, hxj, pv⟩ := hxj
    have pw : isPair H (fun a => a ≠ b) (.ref tw) w := ⟨tw, rfl, nw, htw⟩
    have nFb : F ≠ b := Ne.symm nbF
    have k00 : ∀ {y : Addr} {o : HO}, y ≠ b → H y = some o → H5 y = some o := fun n h => F5 _ _ n h
    have hR0 := hR
    obtain ⟨-, ys', hr0, pdR0⟩ := hR0
    have ey : ys' = ys := by have := k00 nrb hr0; rw [hr5] at this; cases this; rfl
    rw [ey] at pdR0 hr0
    clear ey ys'
    have lys0 := lys
    -- what holds after the copy has changed
    have k0 : ∀ {y : Addr} {o : HO}, y ≠ b → H y = some o → H5 y = some o := fun n h => F5 _ _ n h
    have offF : ∀ {y : Addr} {o : HO}, H y = some o → y ≠ F := fun h e => by rw [e, nF] at h; cases h
    have pvG : ∀ {G : Hp}, (∀ y o, y ≠ b → H y = some o → G y = some o) → ∀ {x : V} {q : Str × Int}, isPair H (fun a => a ≠ b) x q → isPair G (fun a => a ≠ b) x q := fun m _ _ ⟨t, e, n, h⟩ => ⟨t, e, n, m t _ n h⟩
    have prG : ∀ {G : Hp}, (∀ y o, y ≠ b → H y = some o → G y = some o) → PR b G r R := fun m => hR.fr m
    have fin : ∀ {G : Hp} {a r' : Addr} {zs : List V} {L' : List (Str × Int)} {R' : List Row} {m : Nat}, (∀ y o, y ≠ b → H y = some o → G y = some o) → a ≠ b → G a = some (.lst zs) → Paired (isPair G fun a => a ≠ b) zs L' → PR b G r' R' → VarsOk L' → EvsOk L' R' → Bag G b m → m ≤ n + 10 → ∀ p, G p = none → Q (.ref p) (upd G p (.tup [.ref a, .ref r'])) :=
      fun {G a r' zs L' R' m} mm na ga pz pr okL' okR' bG lm p np => q p a r' L' R' _ (fun y o ny h => Same.new np y o (mm y o ny h)) upd_same (PV.same ⟨na, zs, ga, pz⟩ (Same.new np)) (PR.same pr (Same.new np)) okL' okR' ((bG.same (Same.new np)).mono lm)
    repeat (first | refine ⟨_, rfl, ?_⟩ | refine ⟨_, _, rfl, rfl, ?_⟩ | refine ⟨_, _, rfl, ?_⟩ | refine ⟨rfl, ?_⟩)
    refine ite2 (fun _ => ?_) (fun _ => ?_)
    · generalize hσ : ((((((((L2.start N_l_other_variables [V.ref b, V.ref D, V.ref r]).set 3 (some (V.ref F))).set 4 (some (V.int (k : Int)))).set 5 (some (V.int (j : Int)))).set 6 (some (V.int way))).set 7 (some (V.str w.1))).set 8 (some (V.int w.2))).set 9 (some (V.ref U))) = σ
      obtain rfl : σ = [some (V.ref b), some (V.ref D), some (V.ref r), some (V.ref F), some (V.int (k : Int)), some (V.int (j : Int)), some (V.int way), some (V.str w.1), some (V.int w.2), some (V.ref U), none, none, none, none, none, none, none] := hσ.symm.trans rfl
      clear hσ
      repeat (first | refine ⟨_, rfl, ?_⟩ | refine ⟨_, _, rfl, rfl, ?_⟩ | refine ⟨_, _, rfl, ?_⟩ | refine ⟨rfl, ?_⟩)
      refine ⟨by show (0 : Int) < 6; decide, ?_⟩
      repeat (first | refine ⟨_, rfl, ?_⟩ | refine ⟨_, _, rfl, rfl, ?_⟩ | refine ⟨_, _, rfl, ?_⟩ | refine ⟨rfl, ?_⟩)
      refine ⟨lenk 2 rfl (by decide), fun t1 nt1 => ?_⟩
      have s6 := Same.new (o := .tup [.str w.1, .int (w.2 % 6 + 1)]) nt1
      have h6 : upd H5 t1 (.tup [.str w.1, .int (w.2 % 6 + 1)]) t1 = some (.tup [.str w.1, .int (w.2 % 6 + 1)]) := upd_same
      have nt1b : t1 ≠ b := (ne_of_none (b5.some).choose_spec nt1).symm
      generalize upd H5 t1 (.tup [.str w.1, .int (w.2 % 6 + 1)]) = H6 at s6 h6
      have hF6 := s6 _ _ hF5
      repeat (first | refine ⟨_, rfl, ?_⟩ | refine ⟨_, _, rfl, rfl, ?_⟩ | refine ⟨_, _, rfl, ?_⟩ | refine ⟨rfl, ?_⟩)
      refine ⟨F, xs, _, k, rfl, rfl, hF6, ixn lk, ?_⟩
      have m8 : ∀ y o, y ≠ b → H y = some o → upd H6 F (.lst (xs.set k (.ref t1))) y = some o := fun y o ny h => by
        rw [upd_ne (offF h)]
        exact s6 _ _ (k0 ny h)
      have h8 : upd H6 F (.lst (xs.set k (.ref t1))) F = some (.lst (xs.set k (.ref t1))) := upd_same
      have b8 : Bag (upd H6 F (.lst (xs.set k (.ref t1)))) b (n + 3) := ((b5.same s6).upd nFb.symm).mono (by omega)
      have p8 : isPair (upd H6 F (.lst (xs.set k (.ref t1)))) (fun a => a ≠ b) (.ref t1) (w.1, w.2 % 6 + 1) := ⟨t1, rfl, nt1b, by rw [upd_ne (fun e => by rw [e] at h6; rw [h6] at hF6; cases hF6)]; exact h6⟩
      generalize upd H6 F (.lst (xs.set k (.ref t1))) = H8 at m8 h8 b8 p8
      obtain ⟨okL', okR'⟩ := okR.resize okL hw (s := w.2 % 6 + 1) (by omega) (decide (w.2 = 6)) (fun e => by have := of_decide_eq_false e; omega)
      repeat (first | refine ⟨_, rfl, ?_⟩ | refine ⟨_, _, rfl, rfl, ?_⟩ | refine ⟨_, _, rfl, ?_⟩ | refine ⟨rfl, ?_⟩)
      refine ⟨⟨_, SqL.of (m8 _ _ nDb hD)⟩, fun V0 nV0 => ?_⟩
      refine lc_it (walk_list (K := K) (a := D) (xs := xs)) (fun i H' => H' V0 = some (.lst ((((L.take i).filter fun q => decide (q.1 = w.1) && decide (w.2 = 6)).map (·.1)).map V.str)) ∧ Same H8 H') ⟨upd_same, Same.new nV0⟩ (fun i H' _ h => SqL.of (h.2 _ _ (m8 _ _ nDb hD))) ?_ ?_
      · rintro i x Hx G hi ⟨k1, k2⟩ ⟨rfl, hx⟩
        obtain ⟨v', hv', tp, rfl, ntp, htp⟩ := pd_get pdL hx
        obtain ⟨lv, ev⟩ := List.getElem?_eq_some_iff.mp hv'
        have sz := okL.sz v' (List.mem_of_getElem? hv')
        refine ⟨tp, _, rfl, .inl (.inl (k2 _ _ (m8 _ _ ntp htp))), rfl, _, _, rfl, _, _, rfl, rfl, rfl, ?_⟩
        repeat (first | refine ⟨_, rfl, ?_⟩ | refine ⟨_, _, rfl, rfl, ?_⟩ | refine ⟨_, _, rfl, ?_⟩ | refine ⟨rfl, ?_⟩)
        refine ite2 (fun _ => ?_) (fun c => absurd (decide_eq_true (show 0 < v'.2 by omega)) c)
        have no : (decide (v'.1 = w.1) && decide (w.2 = 6)) = false → (G V0 = some (.lst ((((L.take (i + 1)).filter fun q => decide (q.1 = w.1) && decide (w.2 = 6)).map (·.1)).map V.str)) ∧ Same H8 G) := fun e => ⟨by rw [take_snoc lv, List.filter_append, ev, List.filter_cons, if_neg (by rw [e]; simp), List.filter_nil, List.append_nil]; exact k1, k2⟩
        repeat (first | refine ⟨_, rfl, ?_⟩ | refine ⟨_, _, rfl, rfl, ?_⟩ | refine ⟨_, _, rfl, ?_⟩ | refine ⟨rfl, ?_⟩)
        refine ite2 (fun c1 => ?_) (fun c1 => ?_)
        · have e1 := V.str.inj (of_decide_eq_true c1)
          repeat (first | refine ⟨_, rfl, ?_⟩ | refine ⟨_, _, rfl, rfl, ?_⟩ | refine ⟨_, _, rfl, ?_⟩ | refine ⟨rfl, ?_⟩)
          refine ite2 (fun c2 => ?_) (fun c2 => ?_)
          · have e2 := V.int.inj (of_decide_eq_true c2)
            refine ⟨_, rfl, _, k1, by rw [List.length_map, List.length_map, sizeLine_eq]; have := List.length_filter_le (fun q : Str × Int => decide (q.1 = w.1) && decide (w.2 = 6)) (L.take i); rw [List.length_take] at this; omega, ?_, Same.upd_p k2 nV0⟩
            rw [upd_same, take_snoc lv, List.filter_append, ev, List.filter_cons, if_pos (by rw [decide_eq_true e1, decide_eq_true e2]; rfl), List.map_append, List.map_append]; rfl
          · exact no (by rw [decide_eq_false (fun e => c2 (decide_eq_true (congrArg V.int e))), Bool.and_false])
        · exact no (by rw [decide_eq_false (fun e => c1 (decide_eq_true (congrArg V.str e)))]; rfl)
      · rintro G ⟨hV0, sG⟩
        rw [lxs, List.take_length] at hV0
        have m9 : ∀ y o, y ≠ b → H y = some o → G y = some o := fun y o ny h => sG _ _ (m8 y o ny h)
        have b9 := b8.same sG
        have h9 := sG _ _ h8
        have p9 := p8.same sG
        have bigE : (!decide ((L.filter fun q => decide (q.1 = w.1) && decide (w.2 = 6)).map (·.1) = [])) = decide (w.2 = 6) := by
          by_cases e : w.2 = 6
          · have : w ∈ L.filter fun q => decide (q.1 = w.1) && decide (w.2 = 6) := List.mem_filter.mpr ⟨mw, by simp [e]⟩
            exact (congrArg (fun z => !z) (decide_eq_false fun z => List.ne_nil_of_mem this (List.map_eq_nil_iff.mp z))).trans (decide_eq_true e).symm
          · refine (congrArg (fun z => !z) (decide_eq_true ?_)).trans (decide_eq_false e).symm
            rw [List.map_eq_nil_iff, List.filter_eq_nil_iff]
            intro q _ hq
            simp [e] at hq
        have nmB : ∀ s ∈ (L.filter fun q => decide (q.1 = w.1) && decide (w.2 = 6)).map (·.1), NameOk s := fun s hs => by
          obtain ⟨q, hq, rfl⟩ := List.mem_map.mp hs
          exact okL.nm q (List.mem_filter.mp hq).1
        generalize (L.filter fun q => decide (q.1 = w.1) && decide (w.2 = 6)).map (·.1) = us at hV0 bigE nmB
        repeat (first | refine ⟨_, rfl, ?_⟩ | refine ⟨_, _, rfl, rfl, ?_⟩ | refine ⟨_, _, rfl, ?_⟩ | refine ⟨rfl, ?_⟩)
        refine ⟨⟨_, SqL.of (m9 _ _ nrb hr0)⟩, fun B0 nB0 => ?_⟩
        refine lc_it (walk_list (K := K) (a := r) (xs := ys)) (fun i H' => ∃ zs, H' B0 = some (.lst zs) ∧ Paired (isRowS H' (NB b B0) (NB b B0)) zs ((R.take i).map fun (r : Row) => (r.1, r.2.1, if (decide (w.2 = 6) && decide (w.1 ∈ r.2.1)) = true then [] else r.2.2)) ∧ Same G H') ⟨[], upd_same, .nil, Same.new nB0⟩ (fun i H' _ ⟨_, _, _, h⟩ => SqL.of (h _ _ (m9 _ _ nrb hr0))) ?_ ?_
        · rintro i y Gw G1 hi ⟨zs, hB0, pz, s1⟩ ⟨rfl, hy⟩
          obtain ⟨u, hu, t, a, c, bs, rfl, nt, ht, ⟨na, ha⟩, ⟨nc, hc⟩, pts⟩ := pd_get pdR0 hy
          obtain ⟨lu, eu⟩ := List.getElem?_eq_some_iff.mp hu
          have uok := okR.ok u (List.mem_of_getElem? hu)
          have haG := s1 _ _ (m9 _ _ na ha)
          have hcG := s1 _ _ (m9 _ _ nc hc)
          refine ⟨t, _, rfl, .inl (.inl (s1 _ _ (m9 _ _ nt ht))), rfl, _, _, rfl, _, _, rfl, _, _, rfl, rfl, rfl, ?_⟩
          repeat (first | refine ⟨_, rfl, ?_⟩ | refine ⟨_, _, rfl, rfl, ?_⟩ | refine ⟨_, _, rfl, ?_⟩ | refine ⟨rfl, ?_⟩)
          have put : ∀ {G2 : Hp} {v : Addr} {bs' : List V} {bad : List (List Int)}, Same G1 G2 → G2 v = some (.lst bs') → NB b B0 v → Paired (isTupI G2 (NB b B0)) bs' bad → (if (decide (w.2 = 6) && decide (w.1 ∈ u.2.1)) = true then [] else u.2.2) = bad → ∀ t1', G2 t1' = none →
              ∃ acc, upd G2 t1' (.tup [.str u.1, .ref a, .ref v]) B0 = some (.lst acc) ∧ acc.length < sizeLine ∧ ∃ zs, upd (upd G2 t1' (.tup [.str u.1, .ref a, .ref v])) B0 (.lst (acc ++ [.ref t1'])) B0 = some (.lst zs) ∧
                Paired (isRowS (upd (upd G2 t1' (.tup [.str u.1, .ref a, .ref v])) B0 (.lst (acc ++ [.ref t1']))) (NB b B0) (NB b B0)) zs ((R.take (i + 1)).map fun (r : Row) => (r.1, r.2.1, if (decide (w.2 = 6) && decide (w.1 ∈ r.2.1)) = true then [] else r.2.2)) ∧
                Same G (upd (upd G2 t1' (.tup [.str u.1, .ref a, .ref v])) B0 (.lst (acc ++ [.ref t1']))) := fun {G2 v bs' bad} s2 hv nv pb eb t1' nt1' => by
            have j3 := Same.new (o := .tup [.str u.1, .ref a, .ref v]) nt1'
            have ht1 : upd G2 t1' (.tup [.str u.1, .ref a, .ref v]) t1' = some (.tup [.str u.1, .ref a, .ref v]) := upd_same
            have nb1 : t1' ≠ b := (ne_of_none ((((b9.same s1).same s2).some).choose_spec) nt1').symm
            have nB1 : t1' ≠ B0 := (ne_of_none (s2 _ _ hB0) nt1').symm
            generalize upd G2 t1' (.tup [.str u.1, .ref a, .ref v]) = G3 at j3 ht1
            have s3 := s2.trans j3
            have lz := pz.length
            rw [List.length_map, List.length_take] at lz
            refine ⟨zs, s3 _ _ hB0, by rw [sizeLine_eq]; omega, zs ++ [.ref t1'], upd_same, ?_, Same.upd_p (s1.trans s3) nB0⟩
            rw [map_snoc _ lu, eu]
            show Paired _ _ (_ ++ [(u.1, u.2.1, if (decide (w.2 = 6) && decide (w.1 ∈ u.2.1)) = true then [] else u.2.2)])
            rw [eb]
            exact row_put (sc := u.2.1) (Paired.mono (fun _ _ z => isRowS.same z s3) pz) ht1 ⟨nb1, nB1⟩ (s3 _ _ haG) ⟨na, ne_of_none (m9 _ _ na ha) nB0⟩ (j3 _ _ hv) nv (Paired.mono (fun _ _ z => isTupI.same z j3) pb)
          have ptG : ∀ {G2 : Hp}, Same G1 G2 → Paired (isTupI G2 (NB b B0)) bs u.2.2 := fun s2 => Paired.mono (fun _ _ z => isTupI.same (tup_nb nB0 (by obtain ⟨t, e, n, h⟩ := z; exact ⟨t, e, n, m9 t _ n h⟩)) (s1.trans s2)) pts
          have ncB : NB b B0 c := ⟨nc, ne_of_none (m9 _ _ nc hc) nB0⟩
          refine ⟨Nat.zero_le _, fun e1 ne1 => ?_⟩
          have k1 := Same.new (o := .lst []) ne1
          have h1 : upd G1 e1 (.lst []) e1 = some (.lst []) := upd_same
          generalize upd G1 e1 (.lst []) = G2 at k1 h1
          refine ⟨.list (us.map PyData.str), .list [], .lst (SqL.of ((s1.trans k1) _ _ hV0)) (dp_strs _), .lst (SqL.of h1) .nil, (Shd.list (k := 0) fun d hd => by
            obtain ⟨s, hs, rfl⟩ := List.mem_map.mp hd
            exact Shd.str (nmB s hs)).shaped (by decide), (Shd.list (k := 0) all0).shaped (by decide), ?_⟩
          rw [eqv_nil, bigE]
          refine ⟨_, rfl, ite2 (fun c1 => ?_) (fun c1 => ?_)⟩
          · repeat (first | refine ⟨_, rfl, ?_⟩ | refine ⟨_, _, rfl, rfl, ?_⟩ | refine ⟨_, _, rfl, ?_⟩ | refine ⟨rfl, ?_⟩)
            refine ⟨a, _, rfl, .inl (SqL.of (k1 _ _ haG)), rfl, flat_str _, ?_⟩
            rw [inV_str]
            refine ⟨_, rfl, ite2 (fun c2 => ?_) (fun c2 => ?_)⟩
            · refine ⟨Nat.zero_le _, fun v1 nv1 => ?_⟩
              have k2 := Same.new (o := .lst []) nv1
              refine ⟨lenk 3 rfl (by decide), fun t1' nt1' => ?_⟩
              exact put (k1.trans k2) upd_same ⟨(ne_of_none (((((b9.same s1).same k1).some).choose_spec)) nv1).symm, (ne_of_none (k1 _ _ hB0) nv1).symm⟩ .nil (if_pos (by have c2' : decide (w.1 ∈ u.2.1) = true := c2; rw [c1, c2']; rfl)) t1' nt1'
            · repeat (first | refine ⟨_, rfl, ?_⟩ | refine ⟨_, _, rfl, rfl, ?_⟩ | refine ⟨_, _, rfl, ?_⟩ | refine ⟨rfl, ?_⟩)
              refine ⟨lenk 3 rfl (by decide), fun t1' nt1' => ?_⟩
              exact put k1 (k1 _ _ hcG) ncB (ptG k1) (if_neg (by have c2' : ¬ decide (w.1 ∈ u.2.1) = true := c2; rw [Bool.eq_false_iff.mpr c2', Bool.and_false]; simp)) t1' nt1'
          · repeat (first | refine ⟨_, rfl, ?_⟩ | refine ⟨_, _, rfl, rfl, ?_⟩ | refine ⟨_, _, rfl, ?_⟩ | refine ⟨rfl, ?_⟩)
            refine ⟨lenk 3 rfl (by decide), fun t1' nt1' => ?_⟩
            exact put k1 (k1 _ _ hcG) ncB (ptG k1) (if_neg (by rw [Bool.eq_false_iff.mpr c1]; simp)) t1' nt1'
        · rintro G1 ⟨zs, hB0, pz, s1⟩
          rw [lys0, List.take_length] at pz
          refine ⟨lenk 2 rfl (by decide), fun p np => ?_⟩
          have m10 : ∀ y o, y ≠ b → H y = some o → G1 y = some o := fun y o ny h => s1 _ _ (m9 y o ny h)
          have nB0b : B0 ≠ b := (ne_of_none (b9.some).choose_spec nB0).symm
          exact fin (m := n + 3) m10 nFb (s1 _ _ h9) (pd_set (Paired.mono (fun _ _ z => pvG m10 z) pdL) (p9.same s1)) ⟨nB0b, zs, hB0, rows_out pz⟩ okL' okR' (b9.same s1) (by omega) p np
    · repeat (first | refine ⟨_, rfl, ?_⟩ | refine ⟨_, _, rfl, rfl, ?_⟩ | refine ⟨_, _, rfl, ?_⟩ | refine ⟨rfl, ?_⟩)
      refine ite2 (fun _ => ?_) (fun _ => ?_)
      · generalize hσ : ((((((((L2.start N_l_other_variables [V.ref b, V.ref D, V.ref r]).set 3 (some (V.ref F))).set 4 (some (V.int (k : Int)))).set 5 (some (V.int (j : Int)))).set 6 (some (V.int way))).set 7 (some (V.str w.1))).set 8 (some (V.int w.2))).set 9 (some (V.ref U))) = σ
        obtain rfl : σ = [some (V.ref b), some (V.ref D), some (V.ref r), some (V.ref F), some (V.int (k : Int)), some (V.int (j : Int)), some (V.int way), some (V.str w.1), some (V.int w.2), some (V.ref U), none, none, none, none, none, none, none] := hσ.symm.trans rfl
        clear hσ
        repeat (first | refine ⟨_, rfl, ?_⟩ | refine ⟨_, _, rfl, rfl, ?_⟩ | refine ⟨_, _, rfl, ?_⟩ | refine ⟨rfl, ?_⟩)
        refine ⟨U, L.map (·.1), rfl, hU, by rw [List.length_map]; omega, fun x H6 s6 nx fx => ?_⟩
        repeat (first | refine ⟨_, rfl, ?_⟩ | refine ⟨_, _, rfl, rfl, ?_⟩ | refine ⟨_, _, rfl, ?_⟩ | refine ⟨rfl, ?_⟩)
        refine ⟨lenk 2 rfl (by decide), fun t1 nt1 => ?_⟩
        have s7 := Same.new (o := .tup [.str x, .int w.2]) nt1
        have h7 : upd H6 t1 (.tup [.str x, .int w.2]) t1 = some (.tup [.str x, .int w.2]) := upd_same
        have nt1b : t1 ≠ b := (ne_of_none ((b5.same s6).some).choose_spec nt1).symm
        generalize upd H6 t1 (.tup [.str x, .int w.2]) = H7 at s7 h7
        have s57 := s6.trans s7
        have hF7 := s57 _ _ hF5
        repeat (first | refine ⟨_, rfl, ?_⟩ | refine ⟨_, _, rfl, rfl, ?_⟩ | refine ⟨_, _, rfl, ?_⟩ | refine ⟨rfl, ?_⟩)
        refine ⟨F, xs, _, k, rfl, rfl, hF7, ixn lk, ?_⟩
        have m8 : ∀ y o, y ≠ b → H y = some o → upd H7 F (.lst (xs.set k (.ref t1))) y = some o := fun y o ny h => by
          rw [upd_ne (offF h)]
          exact s57 _ _ (k0 ny h)
        have h8 : upd H7 F (.lst (xs.set k (.ref t1))) F = some (.lst (xs.set k (.ref t1))) := upd_same
        have b8 : Bag (upd H7 F (.lst (xs.set k (.ref t1)))) b (n + 3) := ((b5.same s57).upd nFb.symm).mono (by omega)
        have p8 : isPair (upd H7 F (.lst (xs.set k (.ref t1)))) (fun a => a ≠ b) (.ref t1) (x, w.2) := ⟨t1, rfl, nt1b, by rw [upd_ne (fun e => by rw [e] at h7; rw [h7] at hF7; cases hF7)]; exact h7⟩
        generalize upd H7 F (.lst (xs.set k (.ref t1))) = H8 at m8 h8 b8 p8
        obtain ⟨okL', okR'⟩ := okR.rename okL hw nx fx
        repeat (first | refine ⟨_, rfl, ?_⟩ | refine ⟨_, _, rfl, rfl, ?_⟩ | refine ⟨_, _, rfl, ?_⟩ | refine ⟨rfl, ?_⟩)
        refine ⟨⟨_, SqL.of (m8 _ _ nrb hr0)⟩, fun B0 nB0 => ?_⟩
        refine lc_it (walk_list (K := K) (a := r) (xs := ys)) (fun i H' => ∃ zs, H' B0 = some (.lst zs) ∧ Paired (isRowS H' (NB b B0) (NB b B0)) zs ((R.take i).map fun r => (r.1, r.2.1.map (rn w.1 x), r.2.2)) ∧ Same H8 H') ⟨[], upd_same, .nil, Same.new nB0⟩ (fun i H' _ ⟨_, _, _, h⟩ => SqL.of (h _ _ (m8 _ _ nrb hr0))) ?_ ?_
        · rintro i y Gw G hi ⟨zs, hB0, pz, sG⟩ ⟨rfl, hy⟩
          obtain ⟨u, hu, t, a, c, bs, rfl, nt, ht, ⟨na, ha⟩, ⟨nc, hc⟩, pts⟩ := pd_get pdR0 hy
          obtain ⟨lu, eu⟩ := List.getElem?_eq_some_iff.mp hu
          have uok := okR.ok u (List.mem_of_getElem? hu)
          have htG := sG _ _ (m8 _ _ nt ht)
          have haG := sG _ _ (m8 _ _ na ha)
          have hcG := sG _ _ (m8 _ _ nc hc)
          have u4 := uok.few
          refine ⟨t, _, rfl, .inl (.inl htG), rfl, _, _, rfl, _, _, rfl, _, _, rfl, rfl, (wipe_in (by decide)).trans ((wipe_in (by decide)).trans (wipe_in (by decide))), ?_⟩
          repeat (first | refine ⟨_, rfl, ?_⟩ | refine ⟨_, _, rfl, rfl, ?_⟩ | refine ⟨_, _, rfl, ?_⟩ | refine ⟨rfl, ?_⟩)
          refine ⟨⟨_, SqL.of haG⟩, fun A0 nA0 => ?_⟩
          refine lc_it (walk_list (K := K) (a := a) (xs := u.2.1.map V.str)) (fun e H' => H' A0 = some (.lst (((u.2.1.take e).map (rn w.1 x)).map V.str)) ∧ Same G H') ⟨upd_same, Same.new nA0⟩ (fun e H' _ h => SqL.of (h.2 _ _ haG)) ?_ ?_
          · rintro e z Gv G1 he ⟨h1, s1⟩ ⟨rfl, hz⟩
            obtain ⟨le, rfl⟩ := str_at' hz
            refine ⟨wipe_in (by decide), ?_⟩
            repeat (first | refine ⟨_, rfl, ?_⟩ | refine ⟨_, _, rfl, rfl, ?_⟩ | refine ⟨_, _, rfl, ?_⟩ | refine ⟨rfl, ?_⟩)
            have put : ∀ z : Str, z = rn w.1 x u.2.1[e] → (∃ xs, G1 A0 = some (.lst xs) ∧ xs.length + 1 ≤ sizeLine ∧ (upd G1 A0 (.lst (xs ++ [V.str z]))) A0 = some (.lst (((u.2.1.take (e + 1)).map (rn w.1 x)).map V.str)) ∧ Same G (upd G1 A0 (.lst (xs ++ [V.str z])))) := fun z hz => ⟨_, h1, by rw [List.length_map, List.length_map, List.length_take, sizeLine_eq]; omega, by rw [upd_same, map_snoc _ le, List.map_append, hz]; rfl, Same.upd_p s1 nA0⟩
            refine ite2 (fun c => ⟨_, rfl, put x (by unfold rn; rw [if_pos (V.str.inj (of_decide_eq_true c))])⟩) (fun c => ⟨_, rfl, put _ (by unfold rn; rw [if_neg fun e => c (decide_eq_true (congrArg V.str e))])⟩)
          · rintro G1 ⟨hA0, s1⟩
            rw [List.length_map, List.take_length] at hA0
            repeat (first | refine ⟨_, rfl, ?_⟩ | refine ⟨_, _, rfl, rfl, ?_⟩ | refine ⟨_, _, rfl, ?_⟩ | refine ⟨rfl, ?_⟩)
            refine ⟨lenk 3 rfl (by decide), fun t1' nt1' => ?_⟩
            have j3 := Same.new (o := .tup [.str u.1, .ref A0, .ref c]) nt1'
            have ht1 : upd G1 t1' (.tup [.str u.1, .ref A0, .ref c]) t1' = some (.tup [.str u.1, .ref A0, .ref c]) := upd_same
            have nb1 : t1' ≠ b := (ne_of_none ((((b8.same sG).same s1).some).choose_spec) nt1').symm
            have nB1 : t1' ≠ B0 := (ne_of_none (s1 _ _ hB0) nt1').symm
            generalize upd G1 t1' (.tup [.str u.1, .ref A0, .ref c]) = G2 at j3 ht1
            have s2 := s1.trans j3
            have hB2 := s2 _ _ hB0
            have lz := pz.length
            rw [List.length_map, List.length_take] at lz
            have r8' := okR.few
            refine ⟨zs, hB2, by rw [sizeLine_eq]; omega, zs ++ [.ref t1'], upd_same, ?_, Same.upd_p (sG.trans s2) nB0⟩
            rw [map_snoc _ lu, eu]
            exact row_put (sc := u.2.1.map (rn w.1 x)) (Paired.mono (fun _ _ z => isRowS.same z s2) pz) ht1 ⟨nb1, nB1⟩ (j3 _ _ hA0) ⟨(ne_of_none (((b8.same sG).some).choose_spec) nA0).symm, (ne_of_none hB0 nA0).symm⟩ (s2 _ _ hcG) ⟨nc, ne_of_none (m8 _ _ nc hc) nB0⟩
              (Paired.mono (fun _ _ z => isTupI.same (tup_nb nB0 (by obtain ⟨t, e, n, h⟩ := z; exact ⟨t, e, n, m8 t _ n h⟩)) (sG.trans s2)) pts)
        · rintro G ⟨zs, hB0, pz, sG⟩
          rw [lys0, List.take_length] at pz
          refine ⟨lenk 2 rfl (by decide), fun p np => ?_⟩
          have m9 : ∀ y o, y ≠ b → H y = some o → G y = some o := fun y o ny h => sG _ _ (m8 y o ny h)
          have nB0b : B0 ≠ b := (ne_of_none (b8.some).choose_spec nB0).symm
          exact fin (m := n + 3) m9 nFb (sG _ _ h8) (pd_set (Paired.mono (fun _ _ z => pvG m9 z) pdL) (p8.same sG)) ⟨nB0b, zs, hB0, rows_out pz⟩ okL' okR' (b8.same sG) (by omega) p np
      · repeat (first | refine ⟨_, rfl, ?_⟩ | refine ⟨_, _, rfl, rfl, ?_⟩ | refine ⟨_, _, rfl, ?_⟩ | refine ⟨rfl, ?_⟩)
        refine ite2 (fun _ => ?_) (fun _ => ?_)
        · repeat (first | refine ⟨_, rfl, ?_⟩ | refine ⟨_, _, rfl, rfl, ?_⟩ | refine ⟨_, _, rfl, ?_⟩ | refine ⟨rfl, ?_⟩)
          refine ⟨F, _, _, _, rfl, rfl, SqL.of hF5, atI_nat hxj, ?_⟩
          repeat (first | refine ⟨_, rfl, ?_⟩ | refine ⟨_, _, rfl, rfl, ?_⟩ | refine ⟨_, _, rfl, ?_⟩ | refine ⟨rfl, ?_⟩)
          refine ⟨F, _, _, _, rfl, rfl, SqL.of hF5, atI_nat hxk, ?_⟩
          repeat (first | refine ⟨_, rfl, ?_⟩ | refine ⟨_, _, rfl, rfl, ?_⟩ | refine ⟨_, _, rfl, ?_⟩ | refine ⟨rfl, ?_⟩)
          refine ⟨lenk 2 rfl (by decide), fun t1 nt1 => ?_⟩
          have s6 := Same.new (o := .tup [.ref tv, .ref tw]) nt1
          have h6 : upd H5 t1 (.tup [.ref tv, .ref tw]) t1 = some (.tup [.ref tv, .ref tw]) := upd_same
          have b6 := b5.same s6
          generalize upd H5 t1 (.tup [.ref tv, .ref tw]) = H6 at s6 h6 b6
          have hF6 := s6 _ _ hF5
          refine ⟨t1, _, rfl, .inl (.inl h6), rfl, _, _, rfl, ?_⟩
          repeat (first | refine ⟨_, rfl, ?_⟩ | refine ⟨_, _, rfl, rfl, ?_⟩ | refine ⟨_, _, rfl, ?_⟩ | refine ⟨rfl, ?_⟩)
          refine ⟨F, xs, _, k, rfl, rfl, hF6, ixn lk, ?_⟩
          refine ⟨_, _, rfl, ?_⟩
          repeat (first | refine ⟨_, rfl, ?_⟩ | refine ⟨_, _, rfl, rfl, ?_⟩ | refine ⟨_, _, rfl, ?_⟩ | refine ⟨rfl, ?_⟩)
          refine ⟨F, xs.set k (.ref tv), _, j, rfl, rfl, upd_same, ixn (by rw [List.length_set]; exact lj), ?_⟩
          refine ⟨rfl, ?_⟩
          repeat (first | refine ⟨_, rfl, ?_⟩ | refine ⟨_, _, rfl, rfl, ?_⟩ | refine ⟨_, _, rfl, ?_⟩ | refine ⟨rfl, ?_⟩)
          refine ⟨lenk 2 rfl (by decide), fun p np => ?_⟩
          have m7 : ∀ y o, y ≠ b → H y = some o → upd (upd H6 F (.lst (xs.set k (.ref tv)))) F (.lst ((xs.set k (.ref tv)).set j (.ref tw))) y = some o := fun y o ny h => by
            have := offF h
            rw [upd_ne this, upd_ne this]
            exact s6 _ _ (k0 ny h)
          exact fin (m := n + 3) m7 nFb upd_same (pd_set (pd_set (Paired.mono (fun _ _ z => pvG m7 z) pdL) (pvG m7 pv)) (pvG m7 pw)) (prG m7) (okL.perm (swap_perm hw hv)) (okR.perm okL (swap_perm hw hv)) (((b6.upd nFb.symm).upd nFb.symm).mono (by omega)) (by omega) p np
        · repeat (first | refine ⟨_, rfl, ?_⟩ | refine ⟨_, _, rfl, rfl, ?_⟩ | refine ⟨_, _, rfl, ?_⟩ | refine ⟨rfl, ?_⟩)
          refine ⟨U, L.map (·.1), rfl, hU, by rw [List.length_map]; omega, fun x H6 s6 nx fx => ?_⟩
          repeat (first | refine ⟨_, rfl, ?_⟩ | refine ⟨_, _, rfl, rfl, ?_⟩ | refine ⟨_, _, rfl, ?_⟩ | refine ⟨rfl, ?_⟩)
          refine ⟨lenk 2 rfl (by decide), fun t1 nt1 => ?_⟩
          have s7 := Same.new (o := .tup [.str x, .int 2]) nt1
          have h7 : upd H6 t1 (.tup [.str x, .int 2]) t1 = some (.tup [.str x, .int 2]) := upd_same
          generalize upd H6 t1 (.tup [.str x, .int 2]) = H7 at s7 h7
          repeat (first | refine ⟨_, rfl, ?_⟩ | refine ⟨_, _, rfl, rfl, ?_⟩ | refine ⟨_, _, rfl, ?_⟩ | refine ⟨rfl, ?_⟩)
          refine ⟨lenk 1 rfl (by decide), fun l1 nl1 => ?_⟩
          have s8 := Same.new (o := .lst [.ref t1]) nl1
          have h8 : upd H7 l1 (.lst [.ref t1]) l1 = some (.lst [.ref t1]) := upd_same
          generalize upd H7 l1 (.lst [.ref t1]) = H8 at s8 h8
          have s58 := (s6.trans s7).trans s8
          refine ⟨F, l1, xs, _, rfl, rfl, s58 _ _ hF5, h8, by rw [sizeLine_eq]; simp; omega, fun c nc => ?_⟩
          have s9 := Same.new (o := .lst (xs ++ [.ref t1])) nc
          have h9 : upd H8 c (.lst (xs ++ [.ref t1])) c = some (.lst (xs ++ [.ref t1])) := upd_same
          generalize upd H8 c (.lst (xs ++ [.ref t1])) = H9 at s9 h9
          repeat (first | refine ⟨_, rfl, ?_⟩ | refine ⟨_, _, rfl, rfl, ?_⟩ | refine ⟨_, _, rfl, ?_⟩ | refine ⟨rfl, ?_⟩)
          refine ⟨c, _, rfl, SqL.of h9, fun d nd => ?_⟩
          have s10 := Same.new (o := .lst (cutV (xs ++ [.ref t1]) none (some 8))) nd
          have h10 : upd H9 d (.lst (cutV (xs ++ [.ref t1]) none (some 8))) d = some (.lst ((xs ++ [V.ref t1]).take 8)) := by rw [upd_same, show (8 : Int) = ((8 : Nat) : Int) from rfl, cutV0]
          generalize upd H9 d (.lst (cutV (xs ++ [.ref t1]) none (some 8))) = H10 at s10 h10
          have s510 := (s58.trans s9).trans s10
          have m10 : ∀ y o, y ≠ b → H y = some o → H10 y = some o := fun y o ny h => s510 _ _ (k0 ny h)
          have b10 := b5.same s510
          have ndb : d ≠ b := (ne_of_none (((b5.same s58).same s9).some).choose_spec nd).symm
          have nt1b : t1 ≠ b := (ne_of_none ((b5.same s6).some).choose_spec nt1).symm
          repeat (first | refine ⟨_, rfl, ?_⟩ | refine ⟨_, _, rfl, rfl, ?_⟩ | refine ⟨_, _, rfl, ?_⟩ | refine ⟨rfl, ?_⟩)
          refine ⟨lenk 2 rfl (by decide), fun p np => ?_⟩
          by_cases l7 : L.length < 8
          · have okL' := okL.more (q := (x, 2)) l7 nx fx (by omega)
            have e1 : (xs ++ [V.ref t1]).take 8 = xs ++ [V.ref t1] := List.take_of_length_le (by simp; omega)
            rw [e1] at h10
            exact fin (m := n + 3) m10 ndb h10 (Paired.snoc (Paired.mono (fun _ _ z => pvG m10 z) pdL) ⟨t1, rfl, nt1b, (s8.trans (s9.trans s10)) _ _ h7⟩) (prG m10) okL' (okR.more okL okL') (b10.mono (by omega)) (by omega) p np
          · have e1 : (xs ++ [V.ref t1]).take 8 = xs := by rw [List.take_append_of_le_length (by omega), List.take_of_length_le (by omega)]
            rw [e1] at h10
            exact fin (m := n + 3) m10 ndb h10 (Paired.mono (fun _ _ z => pvG m10 z) pdL) (prG m10) okL okR (b10.mono (by omega)) (by omega) p np

end K09
namespace K09
open PySem PySem.Spec PyProof.Rows L2 TL
/-! ### as shapes -/
abbrev sVar : Sh (Str × Int) := sP sStr sInt
abbrev sBad : Sh (List (List Int)) := sL (sT sInt)
abbrev sRow : Sh Row := s3 sStr (sL sStr) sBad
theorem mem1 {a b : Addr} : a ∉ [b] ↔ a ≠ b := by simp
theorem PV.to {b D : Addr} {H : Hp} {L : List (Str × Int)} (h : PV b H D L) : (sL sVar).at [b] H (.ref D) L := by
  obtain ⟨n, xs, h, pd⟩ := h
  exact ⟨D, xs, rfl, mem1.mpr n, h, Paired.mono (fun x q ⟨t, e, n, h⟩ => ⟨t, .str q.1, .int q.2, e, mem1.mpr n, h, rfl, rfl⟩) pd⟩
theorem PR.to {b r : Addr} {H : Hp} {R : List Row} (h : PR b H r R) : (sL sRow).at [b] H (.ref r) R := by
  obtain ⟨n, xs, h, pd⟩ := h
  exact ⟨r, xs, rfl, mem1.mpr n, h, Paired.mono (fun x q ⟨t, a, c, ys, e, n, h, ⟨na, ha⟩, ⟨nc, hc⟩, p⟩ => ⟨t, .str q.1, .ref a, .ref c, e, mem1.mpr n, h, rfl, ⟨a, _, rfl, mem1.mpr na, ha, pd_strs⟩,
    ⟨c, ys, rfl, mem1.mpr nc, hc, Paired.mono (fun x q ⟨t, e, n, h⟩ => ⟨t, _, e, mem1.mpr n, h, pd_ints⟩) p⟩⟩) pd⟩
theorem PR.of {b r : Addr} {H : Hp} {R : List Row} (h : (sL sRow).at [b] H (.ref r) R) : PR b H r R := by
  obtain ⟨r', xs, e, n, h, pd⟩ := h
  cases e
  refine ⟨mem1.mp n, xs, h, Paired.mono (fun x q ⟨t, i, j, l, e, n, h, h1, h2, h3⟩ => ?_) pd⟩
  cases h1
  obtain ⟨a, ea, na, ha⟩ := Sh.strs h2
  obtain ⟨c, ys, ec, nc, hc, p⟩ := h3
  subst ea ec
  refine ⟨t, a, c, ys, e, mem1.mp n, h, ⟨mem1.mp na, ha⟩, ⟨mem1.mp nc, hc⟩, Paired.mono (fun x q z => ?_) p⟩
  obtain ⟨t, e, n, h⟩ := Sh.tints z
  exact ⟨t, e, mem1.mp n, h⟩
theorem Fr.stp {b : Addr} {H H' : Hp} (f : Fr b H H') (h : ∃ o, H' b = some o) : Stp [b] H H' := fun a o e => by
  by_cases eb : a = b
  · subst eb; exact ⟨h, fun n => absurd List.mem_cons_self n⟩
  · exact ⟨⟨o, f a o eb e⟩, fun _ => f a o eb e⟩
theorem frS {b : Addr} {H H' : Hp} (f : Stp [b] H H') : Fr b H H' := fun a o n e => f.at e (mem1.mpr n)
theorem Bag.off {b : Addr} {n : Nat} {H H' : Hp} (h : Bag H b n) (k : ∀ o, H b = Option.some o → H' b = Option.some o) : Bag H' b n := by
  obtain ⟨x, y, z, e, r⟩ := h
  exact ⟨x, y, z, k _ e, r⟩
theorem Bag.stp {b : Addr} {m : List Addr} {n : Nat} {H H' : Hp} (h : Bag H b n) (s : Stp m H H') (nb : b ∉ m) : Bag H' b n := Bag.off h fun o e => s.at e nb
/-! ### other events stay valid -/
theorem RowOk.nmd {L : List (Str × Int)} {r : Row} (h : RowOk L r) {x : Str} (n : NameOk x) : RowOk L (x, r.2.1, r.2.2) := ⟨n, h.pos, h.few, h.sub, h.nd, h.bfew, h.bnd, h.bl, h.bv⟩
theorem EvsOk.put {L : List (Str × Int)} {R : List Row} (h : EvsOk L R) {i : Nat} {r r' : Row} (hi : R[i]? = some r) (ok : RowOk L r') (nm : r'.1 = r.1 ∨ r'.1 ∉ R.map (·.1)) : EvsOk L (R.set i r') := by
  refine ⟨by rw [List.length_set]; exact h.few, fun q hq => ?_, ?_⟩
  · rcases List.mem_or_eq_of_mem_set hq with h1 | h1
    · exact h.ok q h1
    · rw [h1]; exact ok
  · have e : (R.set i r').map (·.1) = (R.map (·.1)).set i r'.1 := by
      clear h ok nm hi
      induction R generalizing i with
      | nil => rfl
      | cons a R ih =>
        cases i with
        | zero => rfl
        | succ i => rw [List.set_cons_succ, List.map_cons, List.map_cons, List.set_cons_succ, ih]
    rw [e]
    have hk : (R.map (·.1))[i]? = some r.1 := by rw [List.getElem?_map, hi]; rfl
    refine set_nodup h.nd fun j z hj hne => ?_
    rcases nm with e | e
    · intro ez
      rw [ez, e] at hj
      exact hne (nd_at h.nd hj hk)
    · intro ez
      rw [ez] at hj
      exact e (List.mem_of_getElem? hj)
theorem EvsOk.perm' {L : List (Str × Int)} {R R' : List Row} (h : EvsOk L R) (p : R'.Perm R) : EvsOk L R' := ⟨by rw [p.length_eq]; exact h.few, fun r hr => h.ok r (p.mem_iff.mp hr), (p.map (·.1)).nodup_iff.mpr h.nd⟩
theorem EvsOk.subl {L : List (Str × Int)} {R R' : List Row} (h : EvsOk L R) (s : R'.Sublist R) : EvsOk L R' := ⟨Nat.le_trans s.length_le h.few, fun r hr => h.ok r (s.subset hr), h.nd.sublist (s.map _)⟩
theorem EvsOk.snoc {L : List (Str × Int)} {R : List Row} (h : EvsOk L R) (l : R.length < 8) {r : Row} (ok : RowOk L r) (n : r.1 ∉ R.map (·.1)) : EvsOk L (R ++ [r]) := by
  refine ⟨by rw [List.length_append]; show _ + 1 ≤ 8; omega, fun q hq => ?_, ?_⟩
  · rcases List.mem_append.mp hq with h1 | h1
    · exact h.ok q h1
    · rw [List.mem_singleton.mp h1]; exact ok
  · rw [List.map_append, List.nodup_append]
    exact ⟨h.nd, by simp, fun a ha b hb e => n (by rw [List.map_cons, List.map_nil, List.mem_singleton] at hb; rw [← hb, ← e]; exact ha)⟩
/-- the scope turned about, all sizes alike -/
theorem RowOk.rev {L : List (Str × Int)} {r : Row} (h : RowOk L r) (e : ∀ x ∈ r.2.1, ∀ y ∈ r.2.1, sizeOf L x = sizeOf L y) : RowOk L (r.1, r.2.1.reverse, r.2.2) :=
  ⟨h.nm, by rw [List.length_reverse]; exact h.pos, by rw [List.length_reverse]; exact h.few, fun x hx => h.sub x (List.mem_reverse.mp hx), (List.reverse_perm _).nodup_iff.mpr h.nd, h.bfew, h.bnd, fun ns hns => by rw [List.length_reverse]; exact h.bl ns hns, fun ns hns i x v h1 h2 => by
    have hx : x ∈ r.2.1 := List.mem_reverse.mp (List.mem_of_getElem? h1)
    have li : i < r.2.1.length := by
      have := (List.getElem?_eq_some_iff.mp h1).1
      rwa [List.length_reverse] at this
    have hb := h.bv ns hns i r.2.1[i] v (List.getElem?_eq_getElem li) h2
    rw [e x hx _ (List.getElem_mem li)]
    exact hb⟩
/-- one more bad tuple, the oldest left out beyond twelve -/
theorem RowOk.badd {L : List (Str × Int)} {r : Row} (h : RowOk L r) {v : List Int} (nv : v ∉ r.2.2) (lv : v.length = r.2.1.length) (bv : ∀ (i : Nat) (x : Str) (z : Int), r.2.1[i]? = some x → v[i]? = some z → 0 ≤ z ∧ z < sizeOf L x) (k : Nat) (hk : 12 ≤ k) :
    RowOk L (r.1, r.2.1, (r.2.2 ++ [v]).drop (r.2.2.length + 1 - 12)) := by
  have hs : ((r.2.2 ++ [v]).drop (r.2.2.length + 1 - 12)).Sublist (r.2.2 ++ [v]) := List.drop_sublist _ _
  have mem : ∀ ns ∈ (r.2.2 ++ [v]).drop (r.2.2.length + 1 - 12), ns ∈ r.2.2 ∨ ns = v := fun ns hns => (List.mem_append.mp (hs.subset hns)).imp id List.mem_singleton.mp
  refine ⟨h.nm, h.pos, h.few, h.sub, h.nd, by show ((r.2.2 ++ [v]).drop _).length ≤ 12; rw [List.length_drop, List.length_append]; show r.2.2.length + 1 - _ ≤ 12; omega, ?_, fun ns hns => ?_, fun ns hns i x z h1 h2 => ?_⟩
  · refine List.Nodup.sublist hs ?_
    rw [List.nodup_append]
    exact ⟨h.bnd, by simp, fun a ha b hb e => nv (by rw [List.mem_singleton] at hb; rw [← hb, ← e]; exact ha)⟩
  · rcases mem ns hns with h1 | h1
    · exact h.bl ns h1
    · rw [h1]; exact lv
  · rcases mem ns hns with h3 | h3
    · exact h.bv ns h3 i x z h1 h2
    · rw [h3] at h2; exact bv i x z h1 h2
/-- another variable at one place of the scope -/
theorem RowOk.swp {L : List (Str × Int)} {r : Row} (h : RowOk L r) {k : Nat} {x y : Str} (hk : r.2.1[k]? = some x) (hy : y ∈ L.map (·.1)) (ny : y ∉ r.2.1) (hs : sizeOf L x ≤ sizeOf L y) : RowOk L (r.1, r.2.1.set k y, r.2.2) := by
  refine ⟨h.nm, by rw [List.length_set]; exact h.pos, by rw [List.length_set]; exact h.few, fun z hz => ?_, set_nodup h.nd fun j z hj _ e => ny (by rw [← e]; exact List.mem_of_getElem? hj), h.bfew, h.bnd, fun ns hns => by rw [List.length_set]; exact h.bl ns hns, fun ns hns i z v h1 h2 => ?_⟩
  · rcases List.mem_or_eq_of_mem_set hz with h1 | h1
    · exact h.sub z h1
    · rw [h1]; exact hy
  · by_cases e : k = i
    · subst e
      have lk := (List.getElem?_eq_some_iff.mp hk).1
      rw [List.getElem?_set_self lk] at h1
      cases h1
      have := h.bv ns hns k x v hk h2
      exact ⟨this.1, by omega⟩
    · rw [List.getElem?_set_ne e] at h1
      exact h.bv ns hns i z v h1 h2
theorem set_cut {α : Type} {l : List α} {k : Nat} (y : α) (h : k < l.length) : l.take k ++ [y] ++ l.drop (k + 1) = l.set k y := by
  rw [List.set_eq_take_append_cons_drop, if_pos h]; simp
theorem RowOk.new {L : List (Str × Int)} (ok : VarsOk L) {q : Str × Int} (hq : q ∈ L) {x : Str} (n : NameOk x) : RowOk L (x, [q.1], []) :=
  ⟨n, Nat.le_refl 1, (by decide : 1 ≤ 4), fun y hy => (by rw [List.mem_singleton.mp hy]; exact List.mem_map.mpr ⟨q, hq, rfl⟩), (by simp), Nat.zero_le _, .nil, fun _ h => (nomatch h), fun _ h => (nomatch h)⟩

end K09
namespace K09
open PySem PySem.Spec PyProof.Rows L2 TL
/-! ### other events -/
theorem isD_row : ShD sRow rowD := ⟨fun h => (isD_3 isD_str (isD_L isD_str) (isD_L (isD_T isD_int))).dp h, fun h => (isD_3 isD_str (isD_L isD_str) (isD_L (isD_T isD_int))).dx h⟩
theorem take_map_snoc {α β : Type} (f : α → β) {l : List α} {i : Nat} {x : α} (h : l[i]? = some x) : (l.take (i + 1)).map f = (l.take i).map f ++ [f x] := by
  obtain ⟨li, e⟩ := List.getElem?_eq_some_iff.mp h
  rw [map_snoc f li, e]
def sp_loe (K : PySem.W.Frag) : Sp := fun vs H Q _ => ∃ (b D r : Addr) (n : Nat) (L : List (Str × Int)) (R : List Row), vs = [.ref b, .ref D, .ref r] ∧ Bag H b n ∧ n + 20 ≤ 1000000 ∧ PV b H D L ∧ PR b H r R ∧ VarsOk L ∧ EvsOk L R ∧
  ∀ r' R' H', Fr b H H' → PR b H' r' R' → EvsOk L R' → Bag H' b (n + 20) → Q (.ref r') H'
theorem ok_l_other_events {P : Program} {w : World} {K : PySem.W.Frag} {mg : Str → Option Value} {base : Heap} (T : Txt P K mg) : FnOk P w K mg base CX0 2 T.f_l_other_events T.fd_l_other_events ["_law_bag_here", "_law_sizes", "_law_rows"] (sp_loe K) := by
  refine T.F_l_other_events.ok sc_l_other_events (fun vs H Q E h => ?_) (fun cdv A outer s H vs Q E hr h => ?_)
  · obtain ⟨_, _, _, _, _, _, rfl, _⟩ := h; rfl
  · obtain ⟨b, D, r, n, L, R, rfl, hB, hn, hV, hR, okL, okR, q⟩ := h
    refine ⟨_, PSs.nox (pss_cons (ps_set (i := 3) sc_l_other_events.nd rfl (Or.inl rfl) (pe_callTy (show CallR _ _ (rListOf K) from call_list_of) (by rfl) T.n_list (by decide +kernel) (pa_cons (pv 2) pa_nil)))
      (pss_cons (ps_set (i := 4) sc_l_other_events.nd rfl (Or.inl rfl) (pe_call (ok_l_take T) (hr.mono (by decide)) (by rfl) T.g_l_take T.F_l_take.kp (b_l_take T) .nil pass0 (pa_cons (pv 0) (pa_cons pe_int pa_nil))))
      (pss_cons (ps_if (PW.pt (pw_or (pt_cmpR (show OpR _ (compareOp .Eq) (rEqD K) from op_eqD hr.units) (pv 2) (pe_lst pa_nil) (nomark _)) (pw_or1 (pt_cmpR op_eq (pv 4) pe_int (nomark _))))) (pss_cons (ps_set (i := 5) sc_l_other_events.nd rfl (Or.inl rfl) (pe_call (ok_l_fresh T) (hr.mono (by decide)) (by rfl) T.g_l_fresh T.F_l_fresh.kp (b_l_fresh T) .nil pass0 (pa_cons (pe_lc (own := [("_law_row", 16)]) (g := gName 16) rfl sc_l_other_events.nd (pi_list (pv 2)) (blkOk_by (own := [("_law_row", 16)]) (N := N_l_other_events) (sc := defScope s_l_other_events) (by decide +kernel)) (fun _ _ _ _ _ => (pg_name (i := 16) sc_l_other_events.nd rfl (Or.inl rfl))) (fun _ _ _ _ _ => pts_nil) (fun _ _ _ _ _ => (pe_ix (show IxR _ (rIxT K) from ix_tup) (pv 16) pe_int (fun _ _ => rfl)))) pa_nil)))
      (pss_one (ps_ret (pe_slice (show SlR _ (rSlL K) from sl_list) (pe_op op_cat (pv 3) (pe_lst (pa_cons (pe_tup (pa_cons (pv 5) (pa_cons (pe_lst (pa_cons (pe_ix (show IxR _ (rIxT K) from ix_tup) (pe_ix (show IxR _ (rIxL K) from ix_list) (pv 1) pe_int (fun _ _ => rfl)) pe_int (fun _ _ => rfl)) pa_nil)) (pa_cons (pe_lst pa_nil) pa_nil)))) pa_nil))) po_none (po_some pe_int))))) pss_nil)
      (pss_cons (ps_par (i := 6) (j := 7) (by rfl) sc_l_other_events.nd rfl rfl (by decide) rfl rfl (pa_cons (pe_call (ok_l_take T) (hr.mono (by decide)) (by rfl) T.g_l_take T.F_l_take.kp (b_l_take T) .nil pass0 (pa_cons (pv 0) (pa_cons (pe_callB (show CallR _ _ (rLenSeq K) from call_len_seq) (by rfl) T.n_len (by decide +kernel) (pa_cons (pv 3) pa_nil)) pa_nil))) (pa_cons (pe_call (ok_l_take T) (hr.mono (by decide)) (by rfl) T.g_l_take T.F_l_take.kp (b_l_take T) .nil pass0 (pa_cons (pv 0) (pa_cons (pe_callB (show CallR _ _ (rLenSeq K) from call_len_seq) (by rfl) T.n_len (by decide +kernel) (pa_cons (pv 3) pa_nil)) pa_nil))) pa_nil)) (by rfl))
      (pss_cons (ps_asg (pe_ix (show IxR _ (rIxL K) from ix_list) (pv 3) (pv 6) (fun _ _ => rfl)) (pg_tup rfl (pgs_cons (pg_name (i := 5) sc_l_other_events.nd rfl (Or.inl rfl)) (pgs_cons (pg_name (i := 8) sc_l_other_events.nd rfl (Or.inr rfl)) (pgs_cons (pg_name (i := 9) sc_l_other_events.nd rfl (Or.inl rfl)) pgs_nil)))))
      (pss_cons (ps_set (i := 10) sc_l_other_events.nd rfl (Or.inr rfl) (pe_callTy (call_dictP rfl) (by rfl) T.n_dict (by decide +kernel) (pa_cons (pv 1) pa_nil)))
      (pss_cons (ps_if (pt_cmpR op_eq (pv 4) pe_int (nomark _)) (pss_one (ps_asg (pe_tup (pa_cons (pe_ix (show IxR _ (rIxL K) from ix_list) (pv 3) (pv 7) (fun _ _ => rfl)) (pa_cons (pe_ix (show IxR _ (rIxL K) from ix_list) (pv 3) (pv 6) (fun _ _ => rfl)) pa_nil))) (pg_tup rfl (pgs_cons (pg_sub (pv 3) (pv 6) set_list) (pgs_cons (pg_sub (pv 3) (pv 7) set_list) pgs_nil))))) pss_nil)
      (pss_cons (ps_if (pt_cmpR op_eq (pv 4) pe_int (nomark _)) (pss_one (ps_asg (pe_tup (pa_cons (pe_call (ok_l_fresh T) (hr.mono (by decide)) (by rfl) T.g_l_fresh T.F_l_fresh.kp (b_l_fresh T) .nil pass0 (pa_cons (pe_lc (own := [("_law_row", 16)]) (g := gName 16) rfl sc_l_other_events.nd (pi_list (pv 2)) (blkOk_by (own := [("_law_row", 16)]) (N := N_l_other_events) (sc := defScope s_l_other_events) (by decide +kernel)) (fun _ _ _ _ _ => (pg_name (i := 16) sc_l_other_events.nd rfl (Or.inl rfl))) (fun _ _ _ _ _ => pts_nil) (fun _ _ _ _ _ => (pe_ix (show IxR _ (rIxT K) from ix_tup) (pv 16) pe_int (fun _ _ => rfl)))) pa_nil)) (pa_cons (pv 8) (pa_cons (pv 9) pa_nil)))) (pg_sub (pv 3) (pv 6) set_list))) pss_nil)
      (pss_cons (ps_if (PW.pt (pw_and (pt_cmpR op_eq (pv 4) pe_int (nomark _)) (pw_and1 (pt_cmpR op_eq (show PE _ _ (tLenSet K _) from pe_lenSet (by rfl) (by rfl) T.n_len (by decide +kernel) (by rfl) T.n_set (by decide +kernel) (pa_cons (pe_lc (own := [("_law_name", 14)]) (g := gName 14) rfl sc_l_other_events.nd (pi_list (pv 8)) (blkOk_by (own := [("_law_name", 14)]) (N := N_l_other_events) (sc := defScope s_l_other_events) (by decide +kernel)) (fun _ _ _ _ _ => (pg_name (i := 14) sc_l_other_events.nd rfl (Or.inl rfl))) (fun _ _ _ _ _ => pts_nil) (fun _ _ _ _ _ => (pe_dget (hu_of hr) (pv 10) (pv 14) (fun _ _ => rfl)))) pa_nil)) pe_int (nomark _))))) (pss_one (ps_asg (pe_tup (pa_cons (pv 5) (pa_cons (show PE _ _ (tRevL K _) from pe_revL (pv 8)) (pa_cons (pv 9) pa_nil)))) (pg_sub (pv 3) (pv 6) set_list))) pss_nil)
      (pss_cons (ps_if (pt_cmpR op_eq (pv 4) pe_int (nomark _)) (pss_one (ps_asg (pe_tup (pa_cons (pv 5) (pa_cons (pv 8) (pa_cons (pe_slice (show SlR _ (rSlL K) from sl_list) (pv 9) po_none (po_some (pe_un un_neg pe_int))) pa_nil)))) (pg_sub (pv 3) (pv 6) set_list))) pss_nil)
      (pss_cons (ps_if (pt_cmpR op_eq (pv 4) pe_int (nomark _)) (pss_cons (ps_set (i := 11) sc_l_other_events.nd rfl (Or.inl rfl) (pe_callTy (show CallR _ _ (rTupOf K) from call_tuple_of) (by rfl) T.n_tuple (by decide +kernel) (pa_cons (pe_lc (own := [("_law_name", 14)]) (g := gName 14) rfl sc_l_other_events.nd (pi_list (pv 8)) (blkOk_by (own := [("_law_name", 14)]) (N := N_l_other_events) (sc := defScope s_l_other_events) (by decide +kernel)) (fun _ _ _ _ _ => (pg_name (i := 14) sc_l_other_events.nd rfl (Or.inl rfl))) (fun _ _ _ _ _ => pts_nil) (fun _ _ _ _ _ => (pe_call (ok_l_take T) (hr.mono (by decide)) (by rfl) T.g_l_take T.F_l_take.kp (b_l_take T) .nil pass0 (pa_cons (pv 0) (pa_cons (pe_dget (hu_of hr) (pv 10) (pv 14) (fun _ _ => rfl)) pa_nil))))) pa_nil)))
      (pss_one (ps_if (pt_cmpR (show OpR _ (compareOp .NotIn) (rNotInD K) from op_notInD (hu65 hr)) (pv 11) (pv 9) (by first | rfl | with_unfolding_all rfl)) (pss_one (ps_asg (pe_tup (pa_cons (pv 5) (pa_cons (pv 8) (pa_cons (pe_slice (show SlR _ (rSlL K) from sl_list) (pe_op op_cat (pv 9) (pe_lst (pa_cons (pv 11) pa_nil))) (po_some (pe_un un_neg pe_int)) po_none) pa_nil)))) (pg_sub (pv 3) (pv 6) set_list))) pss_nil))) pss_nil)
      (pss_cons (ps_if (pt_cmpR op_eq (pv 4) pe_int (nomark _)) (pss_one (ps_set (i := 3) sc_l_other_events.nd rfl (Or.inl rfl) (pe_op op_cat (pe_slice (show SlR _ (rSlL K) from sl_list) (pv 3) po_none (po_some (pv 6))) (pe_slice (show SlR _ (rSlL K) from sl_list) (pv 3) (po_some (pe_op op_add (pv 6) pe_int)) po_none)))) pss_nil)
      (pss_cons (ps_if (pt_cmpR op_eq (pv 4) pe_int (nomark _)) (pss_cons (ps_set (i := 12) sc_l_other_events.nd rfl (Or.inr rfl) (pe_call (ok_l_take T) (hr.mono (by decide)) (by rfl) T.g_l_take T.F_l_take.kp (b_l_take T) .nil pass0 (pa_cons (pv 0) (pa_cons (pe_callB (show CallR _ _ (rLenSeq K) from call_len_seq) (by rfl) T.n_len (by decide +kernel) (pa_cons (pv 8) pa_nil)) pa_nil))))
      (pss_cons (ps_setLc (i := 13) (own := [("_law_name", 14), ("_law_size", 15)]) (g := gTup K 2 (gCons (gName 14) (gCons (gName 15) gNil))) rfl sc_l_other_events.nd rfl rfl (sw_true rfl rfl rfl (by decide +kernel)) (pi_list (pv 1)) (blkOk_by (own := [("_law_name", 14), ("_law_size", 15)]) (N := N_l_other_events) (sc := defScope s_l_other_events) (by decide +kernel)) (fun _ _ _ _ _ => (pg_tup rfl (pgs_cons (pg_name (i := 14) sc_l_other_events.nd rfl (Or.inl rfl)) (pgs_cons (pg_name (i := 15) sc_l_other_events.nd rfl (Or.inl rfl)) pgs_nil)))) (fun _ _ _ _ _ => pts_one (PW.pt (pw_and (pt_cmpR (show OpR _ (compareOp .NotIn) (rIn K true) from op_notIn_seq) (pv 14) (pv 8) (by first | rfl | with_unfolding_all rfl)) (pw_and1 (pt_cmpR op_ge (pv 15) (pe_dget (hu_of hr) (pv 10) (pe_ix (show IxR _ (rIxL K) from ix_list) (pv 8) (pv 12) (fun _ _ => rfl)) (fun _ _ => rfl)) (nomark _)))))) (fun _ _ _ _ _ => (pv 14)))
      (pss_one (ps_if (pt_cmpR (show OpR _ (compareOp .NotEq) (rNeD K) from op_neD hr.units) (pv 13) (pe_lst pa_nil) (nomark _)) (pss_one (ps_asg (pe_tup (pa_cons (pv 5) (pa_cons (pe_op op_cat (pe_op op_cat (pe_slice (show SlR _ (rSlL K) from sl_list) (pv 8) po_none (po_some (pv 12))) (pe_lst (pa_cons (pe_ix (show IxR _ (rIxL K) from ix_list) (pv 13) (pe_call (ok_l_take T) (hr.mono (by decide)) (by rfl) T.g_l_take T.F_l_take.kp (b_l_take T) .nil pass0 (pa_cons (pv 0) (pa_cons (pe_callB (show CallR _ _ (rLenSeq K) from call_len_seq) (by rfl) T.n_len (by decide +kernel) (pa_cons (pv 13) pa_nil)) pa_nil))) (fun _ _ => rfl)) pa_nil))) (pe_slice (show SlR _ (rSlL K) from sl_list) (pv 8) (po_some (pe_op op_add (pv 12) pe_int)) po_none)) (pa_cons (pv 9) pa_nil)))) (pg_sub (pv 3) (pv 6) set_list))) pss_nil)))) pss_nil)
      (pss_one (ps_ret (pv 3)))))))))))))))), ?_⟩
    have l8 := okL.few
    have l1 := okL.pos
    have r8 := okR.few
    have hR0 := hR.to
    obtain ⟨D', xs, e, nDb, hD, pdL⟩ := hV.to
    cases e
    obtain ⟨r', ys, e, nrb, hr0, pdR⟩ := hR.to
    cases e
    have lys := plen pdR
    have al : Alv [b] H := Alv.cons hB.some.choose_spec Alv.nil
    have fin : ∀ {G : Hp} {p : Addr} {R' : List Row} {m : Nat}, Stp [b] H G → (sL sRow).at [b] G (.ref p) R' → EvsOk L R' → Bag G b m → m ≤ n + 20 → Q (.ref p) G := fun st h ok bg lm => q _ _ _ (frS st) (PR.of h) ok (bg.mono lm)
    refine ⟨_, rfl, r, _, rfl, .inl (SqL.of hr0), fun F nF => ?_⟩
    have s1 : Stp [b] H (upd H F (.lst ys)) := Stp.new nF
    have hF : upd H F (.lst ys) F = some (.lst ys) := upd_same
    have nFb : F ∉ [b] := al.off nF
    have b1 := hB.upd (o := .lst ys) (hB.ne nF)
    generalize upd H F (.lst ys) = H1 at s1 hF b1
    refine ⟨_, rfl, b, _, _, rfl, b1, by omega, by decide, by decide, fun way H2 f2 b2 w0 w1 => ?_⟩
    have s2 := s1.trans (f2.stp b2.some)
    have hF2 := f2 F _ (mem1.mp nFb) hF
    clear s1 hF b1 f2
    repeat (first | refine ⟨_, rfl, ?_⟩ | refine ⟨_, _, rfl, rfl, ?_⟩ | refine ⟨_, _, rfl, ?_⟩ | refine ⟨rfl, ?_⟩)
    refine ⟨Nat.zero_le _, fun e1 ne1 => ?_⟩
    have sC : Stp [b] H (upd H2 e1 (.lst [])) := s2.trans (Stp.new ne1)
    have h1 : upd H2 e1 (.lst []) e1 = some (.lst []) := upd_same
    have hFC : upd H2 e1 (.lst []) F = some (.lst ys) := (Stp.new (m := []) ne1).at hF2 (by simp)
    have bC := b2.upd (o := .lst []) (b2.ne ne1)
    generalize upd H2 e1 (.lst []) = HC at sC h1 hFC bC
    refine ⟨.list (R.map rowD), .list [], (isD_L isD_row).dp (Sh.go hR0 sC Sb.refl Sb.refl), .lst (SqL.of h1) .nil, (shd_rows okL okR.ok).shaped (by decide), (Shd.list (k := 0) all0).shaped (by decide), ?_⟩
    rw [show PyData.eqv (.list (R.map rowD)) (.list []) = decide (R = []) from eqv_mapI rowD eqv_row2 R []]
    refine ⟨_, rfl, ?_⟩
    refine ite2 (fun _ => ?_) (fun hne => ?_)
    · repeat (first | refine ⟨_, rfl, ?_⟩ | refine ⟨_, _, rfl, rfl, ?_⟩ | refine ⟨_, _, rfl, ?_⟩ | refine ⟨rfl, ?_⟩)
      refine ⟨⟨_, SqL.of (sC.at hr0 nrb)⟩, fun U nU => ?_⟩
      refine lc_it (walk_list (K := K) (a := r) (xs := ys)) (fun i H' => ∃ zs, Acc sStr U [b] [] HC H' zs ∧ zs = (R.take i).map (·.1)) ⟨[], Acc.start (al.go sC) nU (by simp), rfl⟩ (fun i H' _ ⟨_, a, _⟩ => SqL.of (a.st.at (sC.at hr0 nrb) (by simp))) ?_ ?_
      · rintro i x Hx H6 hi ⟨zs, ac, ez⟩ ⟨rfl, hx⟩
        obtain ⟨w, hw, t, i1, i2, i3, rfl, nt, ht, e1, h2, h3⟩ := pget' pdR hx
        cases e1
        refine ⟨wipe_in (by decide), ?_⟩
        repeat (first | refine ⟨_, rfl, ?_⟩ | refine ⟨_, _, rfl, rfl, ?_⟩ | refine ⟨_, _, rfl, ?_⟩ | refine ⟨rfl, ?_⟩)
        refine ⟨t, _, (0 : Int), .str w.1, rfl, rfl, .inl (.inl ((sC.trans (ac.st.wk Sb.nil)).at ht nt)), atI_nat (j := 0) rfl, ?_⟩
        exact ac.put (y := w.1) Stp.refl rfl (by rw [ez, List.length_map, List.length_take]; omega) (by rw [take_map_snoc _ hw, ez])
      rintro H4 ⟨zs, ac, ez⟩
      rw [lys, List.take_length] at ez
      obtain ⟨U', eU, nUb, hU⟩ := Sh.strs ac.done
      cases eU
      have s4 := sC.trans (ac.st.wk Sb.nil)
      have hF4 := ac.st.at hFC (by simp)
      have b4 := bC.stp ac.st (by simp)
      refine ⟨U, zs, rfl, hU, by rw [ez, List.length_map]; exact r8, fun x H5 s5 nx fx => ?_⟩
      repeat (first | refine ⟨_, rfl, ?_⟩ | refine ⟨_, _, rfl, rfl, ?_⟩ | refine ⟨_, _, rfl, ?_⟩ | refine ⟨rfl, ?_⟩)
      obtain ⟨w0, hw0⟩ : ∃ w, L[0]? = some w := ⟨L[0], List.getElem?_eq_getElem (by omega)⟩
      obtain ⟨v0, hv0, t0, i1, i2, e0, nt0, ht0, e1, e2⟩ := pget pdL hw0
      cases e0; cases e1
      have s5' := s4.trans (Stp.of_same s5)
      refine ⟨D, _, (0 : Int), _, rfl, rfl, SqL.of (s5'.at hD nDb), atI_nat (j := 0) hv0, ?_⟩
      refine ⟨t0, _, (0 : Int), _, rfl, rfl, .inl (.inl (s5'.at ht0 nt0)), atI_nat (j := 0) rfl, ?_⟩
      refine ⟨lenk 1 rfl (by decide), fun p1 n1 => ?_⟩
      refine ⟨Nat.zero_le _, fun p2 n2 => ?_⟩
      refine ⟨lenk 3 rfl (by decide), fun p3 n3 => ?_⟩
      refine ⟨lenk 1 rfl (by decide), fun p4 n4 => ?_⟩
      have t1 := s5'.trans (Stp.new (m := [b]) (o := .lst [.str w0.1]) n1)
      have t2 := t1.trans (Stp.new (m := [b]) (o := .lst []) n2)
      have t3 := t2.trans (Stp.new (m := [b]) (o := .tup [.str x, .ref p1, .ref p2]) n3)
      have t4 := t3.trans (Stp.new (m := [b]) (o := .lst [.ref p3]) n4)
      have m1 : (sL sStr).at [b] _ (.ref p1) [w0.1] := mk_lst (s := sStr) (al.go s5') n1 (.cons rfl .nil)
      have m2 : sBad.at [b] _ (.ref p2) [] := mk_lst (s := sT sInt) (al.go t1) n2 .nil
      have m3 : sRow.at [b] _ (.ref p3) (x, [w0.1], []) := mk_3 (s := sStr) (al.go t2) n3 rfl (Sh.go m1 (Stp.new n2) Sb.nil Sb.refl) m2
      have m4 := Sh.go m3 (Stp.new (o := .lst [.ref p3]) n4) Sb.nil Sb.refl
      have hF8 := (Stp.new (m := []) (o := .lst [.ref p3]) n4).at ((Stp.new (m := []) (o := .tup [.str x, .ref p1, .ref p2]) n3).at ((Stp.new (m := []) (o := .lst []) n2).at ((Stp.new (m := []) (o := .lst [.str w0.1]) n1).at (s5 _ _ hF4) (by simp)) (by simp)) (by simp)) (by simp)
      have b8 := (((((b4.same s5).upd (o := .lst [.str w0.1]) ((b4.same s5).ne n1))).upd (o := .lst []) (al.go t1 |>.ne n2 List.mem_cons_self)).upd (o := .tup [.str x, .ref p1, .ref p2]) (al.go t2 |>.ne n3 List.mem_cons_self)).upd (o := .lst [.ref p3]) (al.go t3 |>.ne n4 List.mem_cons_self)
      have h8 : upd (upd (upd (upd H5 p1 (.lst [.str w0.1])) p2 (.lst [])) p3 (.tup [.str x, .ref p1, .ref p2])) p4 (.lst [.ref p3]) p4 = some (.lst [.ref p3]) := upd_same
      generalize upd (upd (upd (upd H5 p1 (.lst [.str w0.1])) p2 (.lst [])) p3 (.tup [.str x, .ref p1, .ref p2])) p4 (.lst [.ref p3]) = H8 at t4 m4 hF8 b8 h8
      refine ⟨F, p4, ys, _, rfl, rfl, hF8, h8, by rw [sizeLine_eq]; simp; omega, fun p5 n5 => ?_⟩
      repeat (first | refine ⟨_, rfl, ?_⟩ | refine ⟨_, _, rfl, rfl, ?_⟩ | refine ⟨_, _, rfl, ?_⟩ | refine ⟨rfl, ?_⟩)
      refine ⟨p5, _, rfl, SqL.of upd_same, fun p6 n6 => ?_⟩
      rw [show cutV (ys ++ [V.ref p3]) none (some 8) = (ys ++ [V.ref p3]).take 8 from cutV0 _ 8]
      have t5 := t4.trans (Stp.new (m := [b]) (o := .lst (ys ++ [.ref p3])) n5)
      have t6 := t5.trans (Stp.new (m := [b]) (o := .lst ((ys ++ [V.ref p3]).take 8)) n6)
      have pd9 : Paired (sRow.at [b] (upd H8 p5 (.lst (ys ++ [.ref p3])))) (ys ++ [V.ref p3]) (R ++ [(x, [w0.1], [])]) := psnoc (Sh.gos pdR t5 Sb.refl Sb.refl) (Sh.go m4 (Stp.new n5) Sb.nil Sb.refl)
      refine fin t6 (mk_lst (al.go t5) n6 (ptake pd9)) ?_ ((b8.upd (al.go t4 |>.ne n5 List.mem_cons_self)).upd (al.go t5 |>.ne n6 List.mem_cons_self)) (by omega)
      by_cases l7 : R.length < 8
      · rw [List.take_of_length_le (by simp; omega)]
        exact okR.snoc l7 (RowOk.new okL (List.mem_of_getElem? hw0) nx) (by rw [← ez]; exact fx)
      · rw [List.take_append_of_le_length (by omega), List.take_of_length_le (by omega)]
        exact okR
    repeat (first | refine ⟨_, rfl, ?_⟩ | refine ⟨_, _, rfl, rfl, ?_⟩ | refine ⟨_, _, rfl, ?_⟩ | refine ⟨rfl, ?_⟩)
    refine ite2 (fun _ => ?_) (fun hw0 => ?_)
    · repeat (first | refine ⟨_, rfl, ?_⟩ | refine ⟨_, _, rfl, rfl, ?_⟩ | refine ⟨_, _, rfl, ?_⟩ | refine ⟨rfl, ?_⟩)
      refine ⟨⟨_, SqL.of (sC.at hr0 nrb)⟩, fun U nU => ?_⟩
      refine lc_it (walk_list (K := K) (a := r) (xs := ys)) (fun i H' => ∃ zs, Acc sStr U [b] [] HC H' zs ∧ zs = (R.take i).map (·.1)) ⟨[], Acc.start (al.go sC) nU (by simp), rfl⟩ (fun i H' _ ⟨_, a, _⟩ => SqL.of (a.st.at (sC.at hr0 nrb) (by simp))) ?_ ?_
      · rintro i x Hx H6 hi ⟨zs, ac, ez⟩ ⟨rfl, hx⟩
        obtain ⟨w, hw, t, i1, i2, i3, rfl, nt, ht, e1, h2, h3⟩ := pget' pdR hx
        cases e1
        refine ⟨wipe_in (by decide), ?_⟩
        repeat (first | refine ⟨_, rfl, ?_⟩ | refine ⟨_, _, rfl, rfl, ?_⟩ | refine ⟨_, _, rfl, ?_⟩ | refine ⟨rfl, ?_⟩)
        refine ⟨t, _, (0 : Int), .str w.1, rfl, rfl, .inl (.inl ((sC.trans (ac.st.wk Sb.nil)).at ht nt)), atI_nat (j := 0) rfl, ?_⟩
        exact ac.put (y := w.1) Stp.refl rfl (by rw [ez, List.length_map, List.length_take]; omega) (by rw [take_map_snoc _ hw, ez])
      rintro H4 ⟨zs, ac, ez⟩
      rw [lys, List.take_length] at ez
      obtain ⟨U', eU, nUb, hU⟩ := Sh.strs ac.done
      cases eU
      have s4 := sC.trans (ac.st.wk Sb.nil)
      have hF4 := ac.st.at hFC (by simp)
      have b4 := bC.stp ac.st (by simp)
      refine ⟨U, zs, rfl, hU, by rw [ez, List.length_map]; exact r8, fun x H5 s5 nx fx => ?_⟩
      repeat (first | refine ⟨_, rfl, ?_⟩ | refine ⟨_, _, rfl, rfl, ?_⟩ | refine ⟨_, _, rfl, ?_⟩ | refine ⟨rfl, ?_⟩)
      obtain ⟨w0, hw0⟩ : ∃ w, L[0]? = some w := ⟨L[0], List.getElem?_eq_getElem (by omega)⟩
      obtain ⟨v0, hv0, t0, i1, i2, e0, nt0, ht0, e1, e2⟩ := pget pdL hw0
      cases e0; cases e1
      have s5' := s4.trans (Stp.of_same s5)
      refine ⟨D, _, (0 : Int), _, rfl, rfl, SqL.of (s5'.at hD nDb), atI_nat (j := 0) hv0, ?_⟩
      refine ⟨t0, _, (0 : Int), _, rfl, rfl, .inl (.inl (s5'.at ht0 nt0)), atI_nat (j := 0) rfl, ?_⟩
      refine ⟨lenk 1 rfl (by decide), fun p1 n1 => ?_⟩
      refine ⟨Nat.zero_le _, fun p2 n2 => ?_⟩
      refine ⟨lenk 3 rfl (by decide), fun p3 n3 => ?_⟩
      refine ⟨lenk 1 rfl (by decide), fun p4 n4 => ?_⟩
      have t1 := s5'.trans (Stp.new (m := [b]) (o := .lst [.str w0.1]) n1)
      have t2 := t1.trans (Stp.new (m := [b]) (o := .lst []) n2)
      have t3 := t2.trans (Stp.new (m := [b]) (o := .tup [.str x, .ref p1, .ref p2]) n3)
      have t4 := t3.trans (Stp.new (m := [b]) (o := .lst [.ref p3]) n4)
      have m1 : (sL sStr).at [b] _ (.ref p1) [w0.1] := mk_lst (s := sStr) (al.go s5') n1 (.cons rfl .nil)
      have m2 : sBad.at [b] _ (.ref p2) [] := mk_lst (s := sT sInt) (al.go t1) n2 .nil
      have m3 : sRow.at [b] _ (.ref p3) (x, [w0.1], []) := mk_3 (s := sStr) (al.go t2) n3 rfl (Sh.go m1 (Stp.new n2) Sb.nil Sb.refl) m2
      have m4 := Sh.go m3 (Stp.new (o := .lst [.ref p3]) n4) Sb.nil Sb.refl
      have hF8 := (Stp.new (m := []) (o := .lst [.ref p3]) n4).at ((Stp.new (m := []) (o := .tup [.str x, .ref p1, .ref p2]) n3).at ((Stp.new (m := []) (o := .lst []) n2).at ((Stp.new (m := []) (o := .lst [.str w0.1]) n1).at (s5 _ _ hF4) (by simp)) (by simp)) (by simp)) (by simp)
      have b8 := (((((b4.same s5).upd (o := .lst [.str w0.1]) ((b4.same s5).ne n1))).upd (o := .lst []) (al.go t1 |>.ne n2 List.mem_cons_self)).upd (o := .tup [.str x, .ref p1, .ref p2]) (al.go t2 |>.ne n3 List.mem_cons_self)).upd (o := .lst [.ref p3]) (al.go t3 |>.ne n4 List.mem_cons_self)
      have h8 : upd (upd (upd (upd H5 p1 (.lst [.str w0.1])) p2 (.lst [])) p3 (.tup [.str x, .ref p1, .ref p2])) p4 (.lst [.ref p3]) p4 = some (.lst [.ref p3]) := upd_same
      generalize upd (upd (upd (upd H5 p1 (.lst [.str w0.1])) p2 (.lst [])) p3 (.tup [.str x, .ref p1, .ref p2])) p4 (.lst [.ref p3]) = H8 at t4 m4 hF8 b8 h8
      refine ⟨F, p4, ys, _, rfl, rfl, hF8, h8, by rw [sizeLine_eq]; simp; omega, fun p5 n5 => ?_⟩
      repeat (first | refine ⟨_, rfl, ?_⟩ | refine ⟨_, _, rfl, rfl, ?_⟩ | refine ⟨_, _, rfl, ?_⟩ | refine ⟨rfl, ?_⟩)
      refine ⟨p5, _, rfl, SqL.of upd_same, fun p6 n6 => ?_⟩
      rw [show cutV (ys ++ [V.ref p3]) none (some 8) = (ys ++ [V.ref p3]).take 8 from cutV0 _ 8]
      have t5 := t4.trans (Stp.new (m := [b]) (o := .lst (ys ++ [.ref p3])) n5)
      have t6 := t5.trans (Stp.new (m := [b]) (o := .lst ((ys ++ [V.ref p3]).take 8)) n6)
      have pd9 : Paired (sRow.at [b] (upd H8 p5 (.lst (ys ++ [.ref p3])))) (ys ++ [V.ref p3]) (R ++ [(x, [w0.1], [])]) := psnoc (Sh.gos pdR t5 Sb.refl Sb.refl) (Sh.go m4 (Stp.new n5) Sb.nil Sb.refl)
      refine fin t6 (mk_lst (al.go t5) n6 (ptake pd9)) ?_ ((b8.upd (al.go t4 |>.ne n5 List.mem_cons_self)).upd (al.go t5 |>.ne n6 List.mem_cons_self)) (by omega)
      by_cases l7 : R.length < 8
      · rw [List.take_of_length_le (by simp; omega)]
        exact okR.snoc l7 (RowOk.new okL (List.mem_of_getElem? hw0) nx) (by rw [← ez]; exact fx)
      · rw [List.take_append_of_le_length (by omega), List.take_of_length_le (by omega)]
        exact okR
    have lR : 0 < R.length := Nat.pos_of_ne_zero fun e => hne (decide_eq_true (List.eq_nil_of_length_eq_zero e))
    repeat (first | refine ⟨_, rfl, ?_⟩ | refine ⟨_, _, rfl, rfl, ?_⟩ | refine ⟨_, _, rfl, ?_⟩ | refine ⟨rfl, ?_⟩)
    refine ⟨F, _, rfl, .inl (SqL.of hFC), b, _, _, rfl, bC, by omega, by omega, by omega, fun at' H3 f3 b3 a0 a1 => ?_⟩
    have s3 := sC.trans (f3.stp b3.some)
    have hF3 := f3 F _ (mem1.mp nFb) hFC
    repeat (first | refine ⟨_, rfl, ?_⟩ | refine ⟨_, _, rfl, rfl, ?_⟩ | refine ⟨_, _, rfl, ?_⟩ | refine ⟨rfl, ?_⟩)
    refine ⟨F, _, rfl, .inl (SqL.of hF3), b, _, _, rfl, b3, by omega, by omega, by omega, fun to' H4 f4 b4 t0 t1 => ?_⟩
    have s4 := s3.trans (f4.stp b4.some)
    have hF4 := f4 F _ (mem1.mp nFb) hF3
    repeat (first | refine ⟨_, rfl, ?_⟩ | refine ⟨_, _, rfl, rfl, ?_⟩ | refine ⟨_, _, rfl, ?_⟩ | refine ⟨rfl, ?_⟩)
    obtain ⟨k, rfl⟩ : ∃ k : Nat, at' = (k : Int) := ⟨at'.toNat, (Int.toNat_of_nonneg a0).symm⟩
    obtain ⟨j, rfl⟩ : ∃ k : Nat, to' = (k : Int) := ⟨to'.toNat, (Int.toNat_of_nonneg t0).symm⟩
    have lk : k < R.length := by omega
    have lj : j < R.length := by omega
    obtain ⟨w, hw⟩ : ∃ w, R[k]? = some w := ⟨R[k], List.getElem?_eq_getElem lk⟩
    obtain ⟨u, hu⟩ : ∃ w, R[j]? = some w := ⟨R[j], List.getElem?_eq_getElem lj⟩
    obtain ⟨vw, hvw, kw⟩ := pget pdR hw
    obtain ⟨vu, hvu, ku⟩ := pget pdR hu
    have kw0 := kw
    have wok := okR.ok w (List.mem_of_getElem? hw)
    obtain ⟨tw, i1, ia, ic, ev, ntw, htw, e1, ha, hc⟩ := kw
    cases ev; cases e1
    have ha0 := ha
    have hc0 := hc
    obtain ⟨a, ea, nab, haL⟩ := Sh.strs ha
    obtain ⟨c, cs, ec, ncb, hcL, pdc⟩ := hc
    subst ea ec
    repeat (first | refine ⟨_, rfl, ?_⟩ | refine ⟨_, _, rfl, rfl, ?_⟩ | refine ⟨_, _, rfl, ?_⟩ | refine ⟨rfl, ?_⟩)
    refine ⟨F, _, _, _, rfl, rfl, SqL.of hF4, atI_nat hvw, ?_⟩
    refine ⟨tw, _, rfl, .inl (.inl (s4.at htw ntw)), rfl, _, _, rfl, _, _, rfl, _, _, rfl, rfl, ?_⟩
    repeat (first | refine ⟨_, rfl, ?_⟩ | refine ⟨_, _, rfl, rfl, ?_⟩ | refine ⟨_, _, rfl, ?_⟩ | refine ⟨rfl, ?_⟩)
    obtain ⟨_, xs2, hD2, pdL2⟩ := hV
    have ex : xs2 = xs := by rw [hD] at hD2; cases hD2; rfl
    subst ex
    obtain ⟨ps, exs, pps⟩ := pair_addrs (Paired.mono (fun _ _ z => isPair.mv z (Mv.of_fr (frS s4)) fun a ha e => ha e) pdL2)
    refine ⟨D, ps, kvL L, rfl, by rw [← exs]; exact SqL.of (s4.at hD nDb), pps K, fun dd ndd => ?_⟩
    rw [merge_kvL okL]
    have sC := s4.trans (Stp.new (m := [b]) (o := .dK (kvL L)) ndd)
    have hFC := (Stp.new (m := []) (o := .dK (kvL L)) ndd).at hF4 (by simp)
    have bC := b4.upd (o := .dK (kvL L)) (b4.ne ndd)
    have hdd : upd H4 dd (.dK (kvL L)) dd = some (.dK (kvL L)) := upd_same
    have ndb : dd ∉ [b] := mem1.mpr (b4.ne ndd).symm
    have nFd : F ≠ dd := ne_of_none hF4 ndd
    generalize upd H4 dd (.dK (kvL L)) = HC at sC hFC bC hdd
    repeat (first | refine ⟨_, rfl, ?_⟩ | refine ⟨_, _, rfl, rfl, ?_⟩ | refine ⟨_, _, rfl, ?_⟩ | refine ⟨rfl, ?_⟩)
    generalize hσ : ((((((((L2.start N_l_other_events [V.ref b, V.ref D, V.ref r]).set 3 (some (V.ref F))).set 4 (some (V.int way))).set 6 (some (V.int (k : Int)))).set 7 (some (V.int (j : Int)))).set 5 (some (V.str w.1))).set 8 (some (V.ref a))).set 9 (some (V.ref c))).set 10 (some (V.ref dd)) = σ
    obtain rfl : σ = [some (V.ref b), some (V.ref D), some (V.ref r), some (V.ref F), some (V.int way), some (V.str w.1), some (V.int (k : Int)), some (V.int (j : Int)), some (V.ref a), some (V.ref c), some (V.ref dd), none, none, none, none, none, none] := hσ.symm.trans rfl
    clear hσ
    have alC := al.go sC
    have alF : Alv [F, b] HC := Alv.cons hFC alC
    have toF : ∀ {α : Type} {s : Sh α} {v : V} {x : α} {G : Hp}, s.at [b] H v x → Stp [b] H G → s.at [F, b] G v x := fun h st => Sh.go h st Sb.refl (Sb.new nF Sb.refl)
    have fin2 : ∀ {G : Hp} {t : Addr} {row' : Row} {m : Nat}, Stp [b] H G → G F = some (.lst ys) → sRow.at [F, b] G (.ref t) row' → RowOk L row' → (row'.1 = w.1 ∨ row'.1 ∉ R.map (·.1)) → Bag G b m → m ≤ n + 20 → Q (.ref F) (upd G F (.lst (ys.set k (.ref t)))) := fun st hF hz ok nm bg lm =>
      have z := set_L al nF st Sb.refl hF (Sh.gos pdR st Sb.refl (Sb.new nF Sb.refl)) hz k
      fin z.2.1 z.1 (okR.put hw ok nm) (bg.upd (mem1.mp nFb).symm) lm
    have lky : k < ys.length := by omega
    refine ite2 (fun e => ?_) (fun e1 => ?_)
    · have ew := V.int.inj (of_decide_eq_true e)
      subst ew
      repeat (first | refine ⟨_, rfl, ?_⟩ | refine ⟨_, _, rfl, rfl, ?_⟩ | refine ⟨_, _, rfl, ?_⟩ | refine ⟨rfl, ?_⟩)
      refine ⟨F, _, _, _, rfl, rfl, SqL.of hFC, atI_nat hvu, ?_⟩
      repeat (first | refine ⟨_, rfl, ?_⟩ | refine ⟨_, _, rfl, rfl, ?_⟩ | refine ⟨_, _, rfl, ?_⟩ | refine ⟨rfl, ?_⟩)
      refine ⟨F, _, _, _, rfl, rfl, SqL.of hFC, atI_nat hvw, ?_⟩
      repeat (first | refine ⟨_, rfl, ?_⟩ | refine ⟨_, _, rfl, rfl, ?_⟩ | refine ⟨_, _, rfl, ?_⟩ | refine ⟨rfl, ?_⟩)
      refine ⟨lenk 2 rfl (by decide), fun t1 nt1 => ?_⟩
      have s6 := sC.trans (Stp.new (m := [b]) (o := .tup [vu, .ref tw]) nt1)
      have h6 : upd HC t1 (.tup [vu, .ref tw]) t1 = some (.tup [vu, .ref tw]) := upd_same
      have hF6 := (Stp.new (m := []) (o := .tup [vu, .ref tw]) nt1).at hFC (by simp)
      have b6 := bC.upd (o := .tup [vu, .ref tw]) (bC.ne nt1)
      generalize upd HC t1 (.tup [vu, .ref tw]) = H6 at s6 h6 hF6 b6
      refine ⟨t1, _, rfl, .inl (.inl h6), rfl, _, _, rfl, ?_⟩
      repeat (first | refine ⟨_, rfl, ?_⟩ | refine ⟨_, _, rfl, rfl, ?_⟩ | refine ⟨_, _, rfl, ?_⟩ | refine ⟨rfl, ?_⟩)
      refine ⟨F, ys, _, k, rfl, rfl, hF6, ixn lky, ?_⟩
      refine ⟨_, _, rfl, ?_⟩
      repeat (first | refine ⟨_, rfl, ?_⟩ | refine ⟨_, _, rfl, rfl, ?_⟩ | refine ⟨_, _, rfl, ?_⟩ | refine ⟨rfl, ?_⟩)
      refine ⟨F, ys.set k vu, _, j, rfl, rfl, upd_same, ixn (by rw [List.length_set]; omega), ?_⟩
      refine ⟨rfl, ?_⟩
      repeat (first | refine iteN (by decide) ?_ | refine ⟨_, rfl, ?_⟩ | refine ⟨_, _, rfl, rfl, ?_⟩ | refine ⟨_, _, rfl, ?_⟩ | refine ⟨rfl, ?_⟩)
      have z := set_L al nF s6 Sb.refl hF6 (Sh.gos pdR s6 Sb.refl (Sb.new nF Sb.refl)) (toF ku s6) k
      have z2 := set_L al nF z.2.1 Sb.refl upd_same z.2.2 (toF kw0 z.2.1) j
      exact fin z2.2.1 z2.1 (okR.perm' (swap_perm hw hu)) ((b6.upd (mem1.mp nFb).symm).upd (mem1.mp nFb).symm) (by omega)
    repeat (first | refine ⟨_, rfl, ?_⟩ | refine ⟨_, _, rfl, rfl, ?_⟩ | refine ⟨_, _, rfl, ?_⟩ | refine ⟨rfl, ?_⟩)
    refine ite2 (fun e => ?_) (fun e2 => ?_)
    · have ew := V.int.inj (of_decide_eq_true e)
      subst ew
      repeat (first | refine ⟨_, rfl, ?_⟩ | refine ⟨_, _, rfl, rfl, ?_⟩ | refine ⟨_, _, rfl, ?_⟩ | refine ⟨rfl, ?_⟩)
      refine ⟨⟨_, SqL.of (sC.at hr0 nrb)⟩, fun U nU => ?_⟩
      refine lc_it (walk_list (K := K) (a := r) (xs := ys)) (fun i H' => ∃ zs, Acc sStr U [b] [] HC H' zs ∧ zs = (R.take i).map (·.1)) ⟨[], Acc.start (al.go sC) nU (by simp), rfl⟩ (fun i H' _ ⟨_, a, _⟩ => SqL.of (a.st.at (sC.at hr0 nrb) (by simp))) ?_ ?_
      · rintro i x Hx H6 hi ⟨zs, ac, ez⟩ ⟨rfl, hx⟩
        obtain ⟨w, hw, t, i1, i2, i3, rfl, nt, ht, e1, h2, h3⟩ := pget' pdR hx
        cases e1
        refine ⟨wipe_in (by decide), ?_⟩
        repeat (first | refine ⟨_, rfl, ?_⟩ | refine ⟨_, _, rfl, rfl, ?_⟩ | refine ⟨_, _, rfl, ?_⟩ | refine ⟨rfl, ?_⟩)
        refine ⟨t, _, (0 : Int), .str w.1, rfl, rfl, .inl (.inl ((sC.trans (ac.st.wk Sb.nil)).at ht nt)), atI_nat (j := 0) rfl, ?_⟩
        exact ac.put (y := w.1) Stp.refl rfl (by rw [ez, List.length_map, List.length_take]; omega) (by rw [take_map_snoc _ hw, ez])
      rintro H7 ⟨zs, ac, ez⟩
      rw [lys, List.take_length] at ez
      obtain ⟨U', eU, nUb, hU⟩ := Sh.strs ac.done
      cases eU
      have s7 := sC.trans (ac.st.wk Sb.nil)
      have hF7 := ac.st.at hFC (by simp)
      have b7 := bC.stp ac.st (by simp)
      refine ⟨U, zs, rfl, hU, by rw [ez, List.length_map]; exact r8, fun x H8 s8 nx fx => ?_⟩
      repeat (first | refine ⟨_, rfl, ?_⟩ | refine ⟨_, _, rfl, rfl, ?_⟩ | refine ⟨_, _, rfl, ?_⟩ | refine ⟨rfl, ?_⟩)
      refine ⟨lenk 3 rfl (by decide), fun tp ntp => ?_⟩
      repeat (first | refine ⟨_, rfl, ?_⟩ | refine ⟨_, _, rfl, rfl, ?_⟩ | refine ⟨_, _, rfl, ?_⟩ | refine ⟨rfl, ?_⟩)
      have s8' := s7.trans (Stp.of_same (m := [b]) s8)
      have m3 := mk_3 (s := sStr) (x := x) (M := [F, b]) (Alv.cons (s8 _ _ hF7) (al.go s8')) ntp rfl (toF ha0 s8') (toF hc0 s8')
      have s9 := s8'.trans (Stp.new (m := [b]) (o := .tup [.str x, .ref a, .ref c]) ntp)
      have hF9 := (Stp.new (m := []) (o := .tup [.str x, .ref a, .ref c]) ntp).at (s8 _ _ hF7) (by simp)
      have b9 := (b7.same s8).upd (o := .tup [.str x, .ref a, .ref c]) ((b7.same s8).ne ntp)
      refine ⟨F, ys, _, k, rfl, rfl, hF9, ixn lky, ?_⟩
      repeat (first | refine iteN (by decide) ?_ | refine ⟨_, rfl, ?_⟩ | refine ⟨_, _, rfl, rfl, ?_⟩ | refine ⟨_, _, rfl, ?_⟩ | refine ⟨rfl, ?_⟩)
      exact fin2 s9 hF9 m3 (wok.nmd nx) (.inr (by rw [← ez]; exact fx)) b9 (by omega)
    have fin1 : ∀ {G : Hp} {m : Nat}, Stp [b] H G → G F = some (.lst ys) → Bag G b m → m ≤ n + 20 → Q (.ref F) G := fun st hF bg lm => fin st ⟨F, ys, rfl, nFb, hF, Sh.gos pdR st Sb.refl Sb.refl⟩ okR bg lm
    have dgL : ∀ {G : Hp} {x : Str}, G dd = some (.dK (kvL L)) → x ∈ w.2.1 → DGet G dd (.str x) (some (.int (sizeOf L x))) := fun hG hx => by
      rw [← (sizes_val okL (wok.sub _ hx)).1]
      exact DGet.k (k := Sum.inr _) hG
    have s4w := wok.few
    have s1w := wok.pos
    repeat (first | refine ⟨_, rfl, ?_⟩ | refine ⟨_, _, rfl, rfl, ?_⟩ | refine ⟨_, _, rfl, ?_⟩ | refine ⟨rfl, ?_⟩)
    refine ite2 (fun e => ?_) (fun e3 => ?_)
    · have ew := V.int.inj (of_decide_eq_true e)
      subst ew
      repeat (first | refine ⟨_, rfl, ?_⟩ | refine ⟨_, _, rfl, rfl, ?_⟩ | refine ⟨_, _, rfl, ?_⟩ | refine ⟨rfl, ?_⟩)
      refine ⟨⟨_, SqL.of (sC.at haL nab)⟩, fun U nU => ?_⟩
      refine lc_it (walk_list (K := K) (a := a) (xs := w.2.1.map V.str)) (fun i H' => ∃ zs, Acc sInt U [b] [] HC H' zs ∧ zs = (w.2.1.take i).map (sizeOf L)) ⟨[], Acc.start alC nU (by simp), rfl⟩ (fun i H' _ ⟨_, a, _⟩ => SqL.of (a.st.at (sC.at haL nab) (by simp))) ?_ ?_
      · rintro i x Hx H6 hi ⟨zs, ac, ez⟩ ⟨rfl, hx⟩
        obtain ⟨le, rfl⟩ := str_at' hx
        refine ⟨wipe_in (by decide), ?_⟩
        repeat (first | refine ⟨_, rfl, ?_⟩ | refine ⟨_, _, rfl, rfl, ?_⟩ | refine ⟨_, _, rfl, ?_⟩ | refine ⟨rfl, ?_⟩)
        refine ⟨dd, _, rfl, dgL (ac.st.at hdd (by simp)) (List.getElem_mem le), ?_⟩
        exact ac.put (y := sizeOf L w.2.1[i]) Stp.refl rfl (by rw [ez, List.length_map, List.length_take]; omega) (by rw [take_map_snoc _ (List.getElem?_eq_getElem le), ez])
      rintro H7 ⟨zs, ac, ez⟩
      rw [List.length_map, List.take_length] at ez
      obtain ⟨U', eU, nUb, hU⟩ := Sh.ints ac.done
      cases eU
      have s7 := sC.trans (ac.st.wk Sb.nil)
      have hF7 := ac.st.at hFC (by simp)
      have b7 := bC.stp ac.st (by simp)
      refine ⟨U, zs, rfl, SqL.of hU, by rw [ez, List.length_map]; omega, fun nn hnn => ?_⟩
      repeat (first | refine ⟨_, rfl, ?_⟩ | refine ⟨_, _, rfl, rfl, ?_⟩ | refine ⟨_, _, rfl, ?_⟩ | refine ⟨rfl, ?_⟩)
      refine ite2 (fun e1 => ?_) (fun e1 => ?_)
      · repeat (first | refine ⟨_, rfl, ?_⟩ | refine ⟨_, _, rfl, rfl, ?_⟩ | refine ⟨_, _, rfl, ?_⟩ | refine ⟨rfl, ?_⟩)
        refine ⟨a, _, rfl, SqL.of (s7.at haL nab), fun v nv => ?_⟩
        repeat (first | refine ⟨_, rfl, ?_⟩ | refine ⟨_, _, rfl, rfl, ?_⟩ | refine ⟨_, _, rfl, ?_⟩ | refine ⟨rfl, ?_⟩)
        refine ⟨lenk 3 rfl (by decide), fun tp ntp => ?_⟩
        repeat (first | refine ⟨_, rfl, ?_⟩ | refine ⟨_, _, rfl, rfl, ?_⟩ | refine ⟨_, _, rfl, ?_⟩ | refine ⟨rfl, ?_⟩)
        have t1 := s7.trans (Stp.new (m := [b]) (o := .lst (w.2.1.map V.str).reverse) nv)
        have hF8 := (Stp.new (m := []) (o := .lst (w.2.1.map V.str).reverse) nv).at hF7 (by simp)
        have m1 := mk_lst (s := sStr) (Alv.cons hF7 (al.go s7)) nv (prev (pd_strs (M := [F, b]) (ns := w.2.1)))
        have m3 := mk_3 (s := sStr) (x := w.1) (M := [F, b]) (Alv.cons hF8 (al.go t1)) ntp rfl m1 (toF hc0 t1)
        have s9 := t1.trans (Stp.new (m := [b]) (o := .tup [.str w.1, .ref v, .ref c]) ntp)
        have hF9 := (Stp.new (m := []) (o := .tup [.str w.1, .ref v, .ref c]) ntp).at hF8 (by simp)
        have b9 := (b7.upd (o := .lst (w.2.1.map V.str).reverse) (b7.ne nv)).upd (o := .tup [.str w.1, .ref v, .ref c]) ((b7.upd (o := .lst (w.2.1.map V.str).reverse) (b7.ne nv)).ne ntp)
        refine ⟨F, ys, _, k, rfl, rfl, hF9, ixn lky, ?_⟩
        repeat (first | refine iteN (by decide) ?_ | refine ⟨_, rfl, ?_⟩ | refine ⟨_, _, rfl, rfl, ?_⟩ | refine ⟨_, _, rfl, ?_⟩ | refine ⟨rfl, ?_⟩)
        refine fin2 s9 hF9 m3 (wok.rev fun x hx y hy => ?_) (.inl rfl) b9 (by omega)
        have h1 : nn = 1 := by have := V.int.inj (of_decide_eq_true e1); omega
        exact hnn h1 _ (by rw [ez]; exact List.mem_map.mpr ⟨x, hx, rfl⟩) _ (by rw [ez]; exact List.mem_map.mpr ⟨y, hy, rfl⟩)
      · repeat (first | refine iteN (by decide) ?_ | refine ⟨_, rfl, ?_⟩ | refine ⟨_, _, rfl, rfl, ?_⟩ | refine ⟨_, _, rfl, ?_⟩ | refine ⟨rfl, ?_⟩)
        exact fin1 s7 hF7 b7 (by omega)
    refine iteF ?_
    repeat (first | refine ⟨_, rfl, ?_⟩ | refine ⟨_, _, rfl, rfl, ?_⟩ | refine ⟨_, _, rfl, ?_⟩ | refine ⟨rfl, ?_⟩)
    refine ite2 (fun e => ?_) (fun e4 => ?_)
    · have ew := V.int.inj (of_decide_eq_true e)
      subst ew
      repeat (first | refine ⟨_, rfl, ?_⟩ | refine ⟨_, _, rfl, rfl, ?_⟩ | refine ⟨_, _, rfl, ?_⟩ | refine ⟨rfl, ?_⟩)
      refine ⟨c, _, rfl, SqL.of (sC.at hcL ncb), fun v nv => ?_⟩
      repeat (first | refine ⟨_, rfl, ?_⟩ | refine ⟨_, _, rfl, rfl, ?_⟩ | refine ⟨_, _, rfl, ?_⟩ | refine ⟨rfl, ?_⟩)
      refine ⟨lenk 3 rfl (by decide), fun tp ntp => ?_⟩
      repeat (first | refine ⟨_, rfl, ?_⟩ | refine ⟨_, _, rfl, rfl, ?_⟩ | refine ⟨_, _, rfl, ?_⟩ | refine ⟨rfl, ?_⟩)
      rw [show cutV cs none (some (-1)) = cs.take (cs.length - 1) from cut_less 1 (by decide)] at ntp ⊢
      have t1 := sC.trans (Stp.new (m := [b]) (o := .lst (cs.take (cs.length - 1))) nv)
      have hF8 := (Stp.new (m := []) (o := .lst (cs.take (cs.length - 1))) nv).at hFC (by simp)
      have m1 := mk_lst (s := sT sInt) alF nv (ptake (n := cs.length - 1) (Sh.gos pdc sC Sb.refl (Sb.new nF Sb.refl)))
      have m3 := mk_3 (s := sStr) (x := w.1) (M := [F, b]) (Alv.cons hF8 (al.go t1)) ntp rfl (toF ha0 t1) m1
      have s9 := t1.trans (Stp.new (m := [b]) (o := .tup [.str w.1, .ref a, .ref v]) ntp)
      have hF9 := (Stp.new (m := []) (o := .tup [.str w.1, .ref a, .ref v]) ntp).at hF8 (by simp)
      have b8 := bC.upd (o := .lst (cs.take (cs.length - 1))) (bC.ne nv)
      have b9 := b8.upd (o := .tup [.str w.1, .ref a, .ref v]) (b8.ne ntp)
      refine ⟨F, ys, _, k, rfl, rfl, hF9, ixn lky, ?_⟩
      repeat (first | refine iteN (by decide) ?_ | refine ⟨_, rfl, ?_⟩ | refine ⟨_, _, rfl, rfl, ?_⟩ | refine ⟨_, _, rfl, ?_⟩ | refine ⟨rfl, ?_⟩)
      exact fin2 s9 hF9 m3 (wok.bad (Nat.le_trans (List.length_take_le _ _) (by have := wok.bfew; have := plen pdc; omega)) (wok.bnd.sublist (List.take_sublist _ _)) fun ns hns => List.mem_of_mem_take hns) (.inl rfl) b9 (by omega)
    repeat (first | refine ⟨_, rfl, ?_⟩ | refine ⟨_, _, rfl, rfl, ?_⟩ | refine ⟨_, _, rfl, ?_⟩ | refine ⟨rfl, ?_⟩)
    refine ite2 (fun e => ?_) (fun e5 => ?_)
    · have ew := V.int.inj (of_decide_eq_true e)
      subst ew
      repeat (first | refine ⟨_, rfl, ?_⟩ | refine ⟨_, _, rfl, rfl, ?_⟩ | refine ⟨_, _, rfl, ?_⟩ | refine ⟨rfl, ?_⟩)
      refine ⟨⟨_, SqL.of (sC.at haL nab)⟩, fun U nU => ?_⟩
      refine lc_it (walk_list (K := K) (a := a) (xs := w.2.1.map V.str)) (fun i H' => ∃ zs, Acc sInt U [b] [b] HC H' zs ∧ (zs.length = i ∧ ∀ (l : Nat) (x : Str) (z : Int), w.2.1[l]? = some x → zs[l]? = some z → 0 ≤ z ∧ z < sizeOf L x) ∧ Bag H' b (n + 3 + i)) ⟨[], Acc.start alC nU (by simp), ⟨rfl, fun l x z _ h => by simp at h⟩, (bC.upd (bC.ne nU)).mono (by omega)⟩ (fun i H' _ ⟨_, a, _⟩ => SqL.of (a.st.at (sC.at haL nab) nab)) ?_ ?_
      · rintro i x Hx H6 hi ⟨zs, ac, ⟨lz, ok⟩, bg⟩ ⟨rfl, hx⟩
        obtain ⟨le, rfl⟩ := str_at' hx
        refine ⟨wipe_in (by decide), ?_⟩
        repeat (first | refine ⟨_, rfl, ?_⟩ | refine ⟨_, _, rfl, rfl, ?_⟩ | refine ⟨_, _, rfl, ?_⟩ | refine ⟨rfl, ?_⟩)
        have sz := (sizes_val okL (wok.sub _ (List.getElem_mem le))).2
        refine ⟨dd, _, rfl, dgL (ac.st.at hdd ndb) (List.getElem_mem le), ?_⟩
        repeat (first | refine ⟨_, rfl, ?_⟩ | refine ⟨_, _, rfl, rfl, ?_⟩ | refine ⟨_, _, rfl, ?_⟩ | refine ⟨rfl, ?_⟩)
        refine ⟨b, _, _, rfl, bg, by omega, by omega, by omega, fun z H8 f8 b8 z0 z1 => ?_⟩
        refine ac.putB (y := z) (R := fun zs => zs.length = i + 1 ∧ ∀ (l : Nat) (x : Str) (z : Int), w.2.1[l]? = some x → zs[l]? = some z → 0 ≤ z ∧ z < sizeOf L x) (fun H => Bag H b (n + 3 + (i + 1))) (f8.stp b8.some) rfl (by omega) ⟨by simp [lz], fun l x' z' h1 h2 => ?_⟩ fun H' k => (Bag.off b8 fun o e => k b o (mem1.mp nFb |> fun _ => (alC.ne nU (by simp : b ∈ [b]))) e).mono (by omega)
        by_cases hl : l < zs.length
        · rw [List.getElem?_append_left hl] at h2
          exact ok l x' z' h1 h2
        · have el : l = i := by
            have := (List.getElem?_eq_some_iff.mp h2).1
            rw [List.length_append] at this
            simp at this
            omega
          subst el
          rw [List.getElem?_append_right (by omega), lz, Nat.sub_self] at h2
          rw [List.getElem?_eq_getElem le] at h1
          cases h1
          cases h2
          exact ⟨z0, z1⟩
      rintro H7 ⟨zs, ac, ⟨lz, ok⟩, b7⟩
      rw [List.length_map] at lz b7
      obtain ⟨U', eU, nUb, hU⟩ := Sh.ints ac.done
      cases eU
      have s7 := sC.trans ac.st
      have hF7 := ac.st.at hFC nFb
      refine ⟨U, _, rfl, .inl ⟨SqL.of hU, fun v nv => ?_⟩⟩
      have t1 := s7.trans (Stp.new (m := [b]) (o := .tup (zs.map V.int)) nv)
      have hF8 := (Stp.new (m := []) (o := .tup (zs.map V.int)) nv).at hF7 (by simp)
      have b8 := b7.upd (o := .tup (zs.map V.int)) (b7.ne nv)
      have mv := mk_tup (s := sInt) (M := [F, b]) (Alv.cons hF7 (al.go s7)) nv (pd_ints (ns := zs))
      generalize upd H7 v (.tup (zs.map V.int)) = H8 at t1 hF8 b8 mv
      repeat (first | refine ⟨_, rfl, ?_⟩ | refine ⟨_, _, rfl, rfl, ?_⟩ | refine ⟨_, _, rfl, ?_⟩ | refine ⟨rfl, ?_⟩)
      refine ⟨tupD zs, w.2.2.map tupD, (isD_T isD_int).dp mv, (isD_L (isD_T isD_int)).dp (Sh.go hc0 t1 Sb.refl Sb.refl), (shd_tup zs).shaped (by decide), (shd_tups _).shaped (by decide), ?_⟩
      rw [any_tups]
      repeat (first | refine ⟨_, rfl, ?_⟩ | refine ⟨_, _, rfl, rfl, ?_⟩ | refine ⟨_, _, rfl, ?_⟩ | refine ⟨rfl, ?_⟩)
      refine ite2 (fun e6 => ?_) (fun e6 => ?_)
      · have nz : zs ∉ w.2.2 := fun h => by rw [decide_eq_true h] at e6; cases e6
        repeat (first | refine ⟨_, rfl, ?_⟩ | refine ⟨_, _, rfl, rfl, ?_⟩ | refine ⟨_, _, rfl, ?_⟩ | refine ⟨rfl, ?_⟩)
        refine ⟨lenk 1 rfl (by decide), fun l1 nl1 => ?_⟩
        have t2 := t1.trans (Stp.new (m := [b]) (o := .lst [.ref v]) nl1)
        have hF9 := (Stp.new (m := []) (o := .lst [.ref v]) nl1).at hF8 (by simp)
        have b9 := b8.upd (o := .lst [.ref v]) (b8.ne nl1)
        have mv' := Sh.go mv (Stp.new (o := .lst [.ref v]) nl1) Sb.nil Sb.refl
        have h9 : upd H8 l1 (.lst [.ref v]) l1 = some (.lst [.ref v]) := upd_same
        generalize upd H8 l1 (.lst [.ref v]) = H9 at t2 hF9 b9 mv' h9
        have lcs := plen pdc
        have bf := wok.bfew
        refine ⟨c, l1, cs, _, rfl, rfl, t2.at hcL ncb, h9, by rw [sizeLine_eq]; simp; omega, fun c1 nc1 => ?_⟩
        repeat (first | refine ⟨_, rfl, ?_⟩ | refine ⟨_, _, rfl, rfl, ?_⟩ | refine ⟨_, _, rfl, ?_⟩ | refine ⟨rfl, ?_⟩)
        have t3 := t2.trans (Stp.new (m := [b]) (o := .lst (cs ++ [.ref v])) nc1)
        have hF10 := (Stp.new (m := []) (o := .lst (cs ++ [.ref v])) nc1).at hF9 (by simp)
        have b10 := b9.upd (o := .lst (cs ++ [.ref v])) (b9.ne nc1)
        have h10 : upd H9 c1 (.lst (cs ++ [.ref v])) c1 = some (.lst (cs ++ [.ref v])) := upd_same
        have pd10 : Paired ((sT sInt).at [F, b] (upd H9 c1 (.lst (cs ++ [.ref v])))) (cs ++ [.ref v]) (w.2.2 ++ [zs]) := psnoc (Sh.gos pdc t3 Sb.refl (Sb.new nF Sb.refl)) (Sh.go mv' (Stp.new nc1) Sb.nil Sb.refl)
        generalize upd H9 c1 (.lst (cs ++ [.ref v])) = H10 at t3 hF10 b10 h10 pd10
        refine ⟨c1, _, rfl, SqL.of h10, fun c2 nc2 => ?_⟩
        repeat (first | refine ⟨_, rfl, ?_⟩ | refine ⟨_, _, rfl, rfl, ?_⟩ | refine ⟨_, _, rfl, ?_⟩ | refine ⟨rfl, ?_⟩)
        refine ⟨lenk 3 rfl (by decide), fun tp ntp => ?_⟩
        repeat (first | refine ⟨_, rfl, ?_⟩ | refine ⟨_, _, rfl, rfl, ?_⟩ | refine ⟨_, _, rfl, ?_⟩ | refine ⟨rfl, ?_⟩)
        rw [show cutV (cs ++ [V.ref v]) (some (-12)) none = (cs ++ [V.ref v]).drop ((cs ++ [V.ref v]).length - 12) from cut_last 12 (by decide)] at ntp ⊢
        have t4 := t3.trans (Stp.new (m := [b]) (o := .lst ((cs ++ [V.ref v]).drop ((cs ++ [V.ref v]).length - 12))) nc2)
        have hF11 := (Stp.new (m := []) (o := .lst ((cs ++ [V.ref v]).drop ((cs ++ [V.ref v]).length - 12))) nc2).at hF10 (by simp)
        have b11 := b10.upd (o := .lst ((cs ++ [V.ref v]).drop ((cs ++ [V.ref v]).length - 12))) (b10.ne nc2)
        have m1 := mk_lst (s := sT sInt) (Alv.cons hF10 (al.go t3)) nc2 (pdrop (n := (cs ++ [V.ref v]).length - 12) pd10)
        generalize upd H10 c2 (.lst ((cs ++ [V.ref v]).drop ((cs ++ [V.ref v]).length - 12))) = H11 at t4 hF11 b11 m1 ntp
        have m3 := mk_3 (s := sStr) (x := w.1) (M := [F, b]) (Alv.cons hF11 (al.go t4)) ntp rfl (toF ha0 t4) m1
        have s9 := t4.trans (Stp.new (m := [b]) (o := .tup [.str w.1, .ref a, .ref c2]) ntp)
        have hF12 := (Stp.new (m := []) (o := .tup [.str w.1, .ref a, .ref c2]) ntp).at hF11 (by simp)
        have b12 := b11.upd (o := .tup [.str w.1, .ref a, .ref c2]) (b11.ne ntp)
        refine ⟨F, ys, _, k, rfl, rfl, hF12, ixn lky, ?_⟩
        repeat (first | refine iteN (by decide) ?_ | refine ⟨_, rfl, ?_⟩ | refine ⟨_, _, rfl, rfl, ?_⟩ | refine ⟨_, _, rfl, ?_⟩ | refine ⟨rfl, ?_⟩)
        refine fin2 s9 hF12 m3 ?_ (.inl rfl) b12 (by omega)
        rw [show (cs ++ [V.ref v]).length = w.2.2.length + 1 by simp [lcs]]
        exact wok.badd nz lz ok 12 (Nat.le_refl _)
      · repeat (first | refine iteN (by decide) ?_ | refine ⟨_, rfl, ?_⟩ | refine ⟨_, _, rfl, rfl, ?_⟩ | refine ⟨_, _, rfl, ?_⟩ | refine ⟨rfl, ?_⟩)
        exact fin1 t1 hF8 b8 (by omega)
    repeat (first | refine ⟨_, rfl, ?_⟩ | refine ⟨_, _, rfl, rfl, ?_⟩ | refine ⟨_, _, rfl, ?_⟩ | refine ⟨rfl, ?_⟩)
    refine ite2 (fun e => ?_) (fun e6 => ?_)
    · have ew := V.int.inj (of_decide_eq_true e)
      subst ew
      repeat (first | refine ⟨_, rfl, ?_⟩ | refine ⟨_, _, rfl, rfl, ?_⟩ | refine ⟨_, _, rfl, ?_⟩ | refine ⟨rfl, ?_⟩)
      refine ⟨F, _, rfl, SqL.of hFC, fun v nv => ?_⟩
      repeat (first | refine ⟨_, rfl, ?_⟩ | refine ⟨_, _, rfl, rfl, ?_⟩ | refine ⟨_, _, rfl, ?_⟩ | refine ⟨rfl, ?_⟩)
      have t1 := sC.trans (Stp.new (m := [b]) (o := .lst (cutV ys none (some (k : Int)))) nv)
      have hF7 := (Stp.new (m := []) (o := .lst (cutV ys none (some (k : Int)))) nv).at hFC (by simp)
      have b7 := bC.upd (o := .lst (cutV ys none (some (k : Int)))) (bC.ne nv)
      have h7 : upd HC v (.lst (cutV ys none (some (k : Int)))) v = some (.lst (ys.take k)) := by rw [upd_same, cut_to]
      generalize upd HC v (.lst (cutV ys none (some (k : Int)))) = H7 at t1 hF7 b7 h7
      refine ⟨F, _, rfl, SqL.of hF7, fun v2 nv2 => ?_⟩
      repeat (first | refine ⟨_, rfl, ?_⟩ | refine ⟨_, _, rfl, rfl, ?_⟩ | refine ⟨_, _, rfl, ?_⟩ | refine ⟨rfl, ?_⟩)
      have t2 := t1.trans (Stp.new (m := [b]) (o := .lst (cutV ys (some ((k : Int) + 1)) none)) nv2)
      have b8 := b7.upd (o := .lst (cutV ys (some ((k : Int) + 1)) none)) (b7.ne nv2)
      have h8 : upd H7 v2 (.lst (cutV ys (some ((k : Int) + 1)) none)) v2 = some (.lst (ys.drop (k + 1))) := by rw [upd_same]; congr 2; exact cut_from (k + 1)
      have h7' := (Stp.new (m := []) (o := .lst (cutV ys (some ((k : Int) + 1)) none)) nv2).at h7 (by simp)
      generalize upd H7 v2 (.lst (cutV ys (some ((k : Int) + 1)) none)) = H8 at t2 b8 h8 h7'
      refine ⟨v, v2, _, _, rfl, rfl, h7', h8, by rw [sizeLine_eq, List.length_take, List.length_drop]; omega, fun v3 nv3 => ?_⟩
      repeat (first | refine iteN (by decide) ?_ | refine ⟨_, rfl, ?_⟩ | refine ⟨_, _, rfl, rfl, ?_⟩ | refine ⟨_, _, rfl, ?_⟩ | refine ⟨rfl, ?_⟩)
      have pd9 : Paired (sRow.at [b] H8) (ys.take k ++ ys.drop (k + 1)) (R.take k ++ R.drop (k + 1)) := papp (ptake (Sh.gos pdR t2 Sb.refl Sb.refl)) (pdrop (Sh.gos pdR t2 Sb.refl Sb.refl))
      refine fin (t2.trans (Stp.new nv3)) (mk_lst (al.go t2) nv3 pd9) (okR.subl ?_) (b8.upd (b8.ne nv3)) (by omega)
      have hs : (R.take k ++ R.drop (k + 1)).Sublist (R.take k ++ R.drop k) := (List.Sublist.refl _).append (by rw [← List.drop_drop]; exact List.drop_sublist _ _)
      rwa [List.take_append_drop] at hs
    repeat (first | refine ⟨_, rfl, ?_⟩ | refine ⟨_, _, rfl, rfl, ?_⟩ | refine ⟨_, _, rfl, ?_⟩ | refine ⟨rfl, ?_⟩)
    refine ite2 (fun e => ?_) (fun e7 => ?_)
    · have ew := V.int.inj (of_decide_eq_true e)
      subst ew
      repeat (first | refine ⟨_, rfl, ?_⟩ | refine ⟨_, _, rfl, rfl, ?_⟩ | refine ⟨_, _, rfl, ?_⟩ | refine ⟨rfl, ?_⟩)
      refine ⟨a, _, rfl, .inl (SqL.of (sC.at haL nab)), b, _, _, rfl, bC, by omega, by rw [List.length_map]; omega, by rw [List.length_map]; omega, fun sp H3 f3 b3 p0 p1 => ?_⟩
      rw [List.length_map] at p1
      obtain ⟨g, rfl⟩ : ∃ g : Nat, sp = (g : Int) := ⟨sp.toNat, (Int.toNat_of_nonneg p0).symm⟩
      have lg : g < w.2.1.length := by omega
      obtain ⟨x0, hx0⟩ : ∃ x, w.2.1[g]? = some x := ⟨w.2.1[g], List.getElem?_eq_getElem lg⟩
      have hx0' : (w.2.1.map V.str)[g]? = some (.str x0) := by rw [List.getElem?_map, hx0]; rfl
      have s3 := sC.trans (f3.stp b3.some)
      have hF3 := f3 F _ (mem1.mp nFb) hFC
      have hdd3 := f3 dd _ (mem1.mp ndb) hdd
      repeat (first | refine ⟨_, rfl, ?_⟩ | refine ⟨_, _, rfl, rfl, ?_⟩ | refine ⟨_, _, rfl, ?_⟩ | refine ⟨rfl, ?_⟩)
      refine ⟨⟨_, SqL.of (s3.at hD nDb)⟩, fun U nU => ?_⟩
      refine lc_it (walk_list (K := K) (a := D) (xs := xs2)) (fun i H' => ∃ zs, Acc sStr U [b] [] H3 H' zs ∧ (zs.length ≤ i ∧ ∀ z ∈ zs, z ∈ L.map (·.1) ∧ z ∉ w.2.1 ∧ sizeOf L x0 ≤ sizeOf L z)) ⟨[], Acc.start (al.go s3) nU (by simp), Nat.le_refl _, fun _ h => by cases h⟩ (fun i H' _ ⟨_, a, _⟩ => SqL.of (a.st.at (s3.at hD nDb) (by simp))) ?_ ?_
      · rintro i x Hx H6 hi ⟨zs, ac, lz, ok⟩ ⟨rfl, hx⟩
        obtain ⟨qv, hq, t, i1, i2, rfl, nt, ht, e1, e2⟩ := pget' pdL hx
        cases e1; cases e2
        have s6 := s3.trans (ac.st.wk Sb.nil)
        have lxs := plen pdL
        refine ⟨t, _, rfl, .inl (.inl (s6.at ht nt)), rfl, _, _, rfl, _, _, rfl, rfl, (wipe_in (by decide)).trans (wipe_in (by decide)), ?_⟩
        repeat (first | refine ⟨_, rfl, ?_⟩ | refine ⟨_, _, rfl, rfl, ?_⟩ | refine ⟨_, _, rfl, ?_⟩ | refine ⟨rfl, ?_⟩)
        refine ⟨a, _, rfl, .inl (SqL.of (s6.at haL nab)), rfl, flat_str _, ?_⟩
        rw [inV_str]
        repeat (first | refine ⟨_, rfl, ?_⟩ | refine ⟨_, _, rfl, rfl, ?_⟩ | refine ⟨_, _, rfl, ?_⟩ | refine ⟨rfl, ?_⟩)
        refine ite2 (fun c1 => ?_) (fun c1 => ?_)
        · repeat (first | refine ⟨_, rfl, ?_⟩ | refine ⟨_, _, rfl, rfl, ?_⟩ | refine ⟨_, _, rfl, ?_⟩ | refine ⟨rfl, ?_⟩)
          refine ⟨a, _, _, .str x0, rfl, rfl, SqL.of (s6.at haL nab), atI_nat hx0', ?_⟩
          repeat (first | refine ⟨_, rfl, ?_⟩ | refine ⟨_, _, rfl, rfl, ?_⟩ | refine ⟨_, _, rfl, ?_⟩ | refine ⟨rfl, ?_⟩)
          refine ⟨dd, _, rfl, dgL (ac.st.at hdd3 (by simp)) (List.mem_of_getElem? hx0), ?_⟩
          repeat (first | refine ⟨_, rfl, ?_⟩ | refine ⟨_, _, rfl, rfl, ?_⟩ | refine ⟨_, _, rfl, ?_⟩ | refine ⟨rfl, ?_⟩)
          refine ite2 (fun c2 => ?_) (fun c2 => ?_)
          · repeat (first | refine ⟨_, rfl, ?_⟩ | refine ⟨_, _, rfl, rfl, ?_⟩ | refine ⟨_, _, rfl, ?_⟩ | refine ⟨rfl, ?_⟩)
            have hm : qv ∈ L := List.mem_of_getElem? hq
            refine ac.put (y := qv.1) (R := fun zs => zs.length ≤ i + 1 ∧ ∀ z ∈ zs, z ∈ L.map (·.1) ∧ z ∉ w.2.1 ∧ sizeOf L x0 ≤ sizeOf L z) Stp.refl rfl (by omega) ⟨by simp; omega, fun z hz => ?_⟩
            rcases List.mem_append.mp hz with h1 | h1
            · exact ok z h1
            · rw [List.mem_singleton.mp h1]
              refine ⟨List.mem_map.mpr ⟨qv, hm, rfl⟩, fun h => ?_, by rw [sizeOf_mem okL.nd hm]; exact of_decide_eq_true c2⟩
              rw [decide_eq_true h] at c1; cases c1
          · exact ⟨zs, ac, by omega, ok⟩
        · exact ⟨zs, ac, by omega, ok⟩
      rintro H7 ⟨zs, ac, lz, ok⟩
      obtain ⟨U', eU, nUb, hU⟩ := Sh.strs ac.done
      cases eU
      have lxs := plen pdL
      have s7 := s3.trans (ac.st.wk Sb.nil)
      have hF7 := ac.st.at hF3 (by simp)
      have b7 := b3.stp ac.st (by simp)
      repeat (first | refine ⟨_, rfl, ?_⟩ | refine ⟨_, _, rfl, rfl, ?_⟩ | refine ⟨_, _, rfl, ?_⟩ | refine ⟨rfl, ?_⟩)
      refine ⟨Nat.zero_le _, fun e8 ne8 => ?_⟩
      have t1 := s7.trans (Stp.new (m := [b]) (o := .lst []) ne8)
      have hF8 := (Stp.new (m := []) (o := .lst []) ne8).at hF7 (by simp)
      have b8 := b7.upd (o := .lst []) (b7.ne ne8)
      have h8 : upd H7 e8 (.lst []) e8 = some (.lst []) := upd_same
      have hU8 := (Stp.new (m := []) (o := .lst []) ne8).at hU (by simp)
      generalize upd H7 e8 (.lst []) = H8 at t1 hF8 b8 h8 hU8
      refine ⟨.list (zs.map PyData.str), .list [], .lst (SqL.of hU8) (dp_strs _), .lst (SqL.of h8) .nil, (Shd.list (k := 0) fun d hd => by
        obtain ⟨s, hs, rfl⟩ := List.mem_map.mp hd
        obtain ⟨q', hq', rfl⟩ := List.mem_map.mp (ok s hs).1
        exact Shd.str (okL.nm q' hq')).shaped (by decide), (Shd.list (k := 0) all0).shaped (by decide), ?_⟩
      rw [eqv_nil]
      repeat (first | refine ⟨_, rfl, ?_⟩ | refine ⟨_, _, rfl, rfl, ?_⟩ | refine ⟨_, _, rfl, ?_⟩ | refine ⟨rfl, ?_⟩)
      refine ite2 (fun c1 => ?_) (fun c1 => ?_)
      · have lz0 : 0 < zs.length := Nat.pos_of_ne_zero fun e => by
          rw [List.eq_nil_of_length_eq_zero e] at c1; cases c1
        repeat (first | refine ⟨_, rfl, ?_⟩ | refine ⟨_, _, rfl, rfl, ?_⟩ | refine ⟨_, _, rfl, ?_⟩ | refine ⟨rfl, ?_⟩)
        refine ⟨a, _, rfl, SqL.of (t1.at haL nab), fun v1 nv1 => ?_⟩
        repeat (first | refine ⟨_, rfl, ?_⟩ | refine ⟨_, _, rfl, rfl, ?_⟩ | refine ⟨_, _, rfl, ?_⟩ | refine ⟨rfl, ?_⟩)
        have t2 := t1.trans (Stp.new (m := [b]) (o := .lst (cutV (w.2.1.map V.str) none (some (g : Int)))) nv1)
        have hF9 := (Stp.new (m := []) (o := .lst (cutV (w.2.1.map V.str) none (some (g : Int)))) nv1).at hF8 (by simp)
        have b9 := b8.upd (o := .lst (cutV (w.2.1.map V.str) none (some (g : Int)))) (b8.ne nv1)
        have hU9 := (Stp.new (m := []) (o := .lst (cutV (w.2.1.map V.str) none (some (g : Int)))) nv1).at hU8 (by simp)
        have h9 : upd H8 v1 (.lst (cutV (w.2.1.map V.str) none (some (g : Int)))) v1 = some (.lst ((w.2.1.map V.str).take g)) := by rw [upd_same, cut_to]
        have nv1b := mem1.mpr (b8.ne nv1).symm
        generalize upd H8 v1 (.lst (cutV (w.2.1.map V.str) none (some (g : Int)))) = H9 at t2 hF9 b9 hU9 h9
        refine ⟨U, _, rfl, .inl (SqL.of hU9), b, _, _, rfl, b9, by omega, by rw [List.length_map]; omega, by rw [List.length_map]; omega, fun yy H10 f10 b10 y0 y1 => ?_⟩
        rw [List.length_map] at y1
        obtain ⟨l, rfl⟩ : ∃ g : Nat, yy = (g : Int) := ⟨yy.toNat, (Int.toNat_of_nonneg y0).symm⟩
        obtain ⟨z, hz⟩ : ∃ x, zs[l]? = some x := ⟨zs[l], List.getElem?_eq_getElem (by omega)⟩
        obtain ⟨z1, z2, z3⟩ := ok z (List.mem_of_getElem? hz)
        have t3 := t2.trans (f10.stp b10.some)
        have hF10 := f10 F _ (mem1.mp nFb) hF9
        repeat (first | refine ⟨_, rfl, ?_⟩ | refine ⟨_, _, rfl, rfl, ?_⟩ | refine ⟨_, _, rfl, ?_⟩ | refine ⟨rfl, ?_⟩)
        refine ⟨U, _, _, .str z, rfl, rfl, SqL.of (f10 U _ (mem1.mp nUb) hU9), atI_nat (by rw [List.getElem?_map, hz]; rfl), ?_⟩
        refine ⟨lenk 1 rfl (by decide), fun v2 nv2 => ?_⟩
        have t4 := t3.trans (Stp.new (m := [b]) (o := .lst [.str z]) nv2)
        have hF11 := (Stp.new (m := []) (o := .lst [.str z]) nv2).at hF10 (by simp)
        have b11 := b10.upd (o := .lst [.str z]) (b10.ne nv2)
        have h11 : upd H10 v2 (.lst [.str z]) v2 = some (.lst [.str z]) := upd_same
        have h9' := (Stp.new (m := []) (o := .lst [.str z]) nv2).at (f10 v1 _ (mem1.mp nv1b) h9) (by simp)
        generalize upd H10 v2 (.lst [.str z]) = H11 at t4 hF11 b11 h11 h9'
        refine ⟨v1, v2, _, _, rfl, rfl, h9', h11, by rw [sizeLine_eq, List.length_take, List.length_map]; simp; omega, fun v3 nv3 => ?_⟩
        repeat (first | refine ⟨_, rfl, ?_⟩ | refine ⟨_, _, rfl, rfl, ?_⟩ | refine ⟨_, _, rfl, ?_⟩ | refine ⟨rfl, ?_⟩)
        have t5 := t4.trans (Stp.new (m := [b]) (o := .lst ((w.2.1.map V.str).take g ++ [.str z])) nv3)
        have hF12 := (Stp.new (m := []) (o := .lst ((w.2.1.map V.str).take g ++ [.str z])) nv3).at hF11 (by simp)
        have b12 := b11.upd (o := .lst ((w.2.1.map V.str).take g ++ [.str z])) (b11.ne nv3)
        have h12 : upd H11 v3 (.lst ((w.2.1.map V.str).take g ++ [.str z])) v3 = some (.lst ((w.2.1.map V.str).take g ++ [.str z])) := upd_same
        generalize upd H11 v3 (.lst ((w.2.1.map V.str).take g ++ [.str z])) = H12 at t5 hF12 b12 h12
        refine ⟨a, _, rfl, SqL.of (t5.at haL nab), fun v4 nv4 => ?_⟩
        repeat (first | refine ⟨_, rfl, ?_⟩ | refine ⟨_, _, rfl, rfl, ?_⟩ | refine ⟨_, _, rfl, ?_⟩ | refine ⟨rfl, ?_⟩)
        have t6 := t5.trans (Stp.new (m := [b]) (o := .lst (cutV (w.2.1.map V.str) (some ((g : Int) + 1)) none)) nv4)
        have hF13 := (Stp.new (m := []) (o := .lst (cutV (w.2.1.map V.str) (some ((g : Int) + 1)) none)) nv4).at hF12 (by simp)
        have b13 := b12.upd (o := .lst (cutV (w.2.1.map V.str) (some ((g : Int) + 1)) none)) (b12.ne nv4)
        have h12' := (Stp.new (m := []) (o := .lst (cutV (w.2.1.map V.str) (some ((g : Int) + 1)) none)) nv4).at h12 (by simp)
        have h13 : upd H12 v4 (.lst (cutV (w.2.1.map V.str) (some ((g : Int) + 1)) none)) v4 = some (.lst ((w.2.1.map V.str).drop (g + 1))) := by rw [upd_same]; congr 2; exact cut_from (g + 1)
        generalize upd H12 v4 (.lst (cutV (w.2.1.map V.str) (some ((g : Int) + 1)) none)) = H13 at t6 hF13 b13 h12' h13
        refine ⟨v3, v4, _, _, rfl, rfl, h12', h13, by rw [sizeLine_eq, List.length_append, List.length_take, List.length_drop, List.length_map]; simp; omega, fun v5 nv5 => ?_⟩
        repeat (first | refine ⟨_, rfl, ?_⟩ | refine ⟨_, _, rfl, rfl, ?_⟩ | refine ⟨_, _, rfl, ?_⟩ | refine ⟨rfl, ?_⟩)
        have esc : (w.2.1.map V.str).take g ++ [V.str z] ++ (w.2.1.map V.str).drop (g + 1) = (w.2.1.set g z).map V.str := by rw [set_cut _ (by rw [List.length_map]; exact lg), List.map_set]
        rw [esc]
        have t7 := t6.trans (Stp.new (m := [b]) (o := .lst ((w.2.1.set g z).map V.str)) nv5)
        have hF14 := (Stp.new (m := []) (o := .lst ((w.2.1.set g z).map V.str)) nv5).at hF13 (by simp)
        have b14 := b13.upd (o := .lst ((w.2.1.set g z).map V.str)) (b13.ne nv5)
        have m1 := mk_lst (s := sStr) (Alv.cons hF13 (al.go t6)) nv5 (pd_strs (M := [F, b]) (ns := w.2.1.set g z))
        generalize upd H13 v5 (.lst ((w.2.1.set g z).map V.str)) = H14 at t7 hF14 b14 m1
        refine ⟨lenk 3 rfl (by decide), fun tp ntp => ?_⟩
        repeat (first | refine ⟨_, rfl, ?_⟩ | refine ⟨_, _, rfl, rfl, ?_⟩ | refine ⟨_, _, rfl, ?_⟩ | refine ⟨rfl, ?_⟩)
        have m3 := mk_3 (s := sStr) (x := w.1) (M := [F, b]) (Alv.cons hF14 (al.go t7)) ntp rfl m1 (toF hc0 t7)
        have s9 := t7.trans (Stp.new (m := [b]) (o := .tup [.str w.1, .ref v5, .ref c]) ntp)
        have hF15 := (Stp.new (m := []) (o := .tup [.str w.1, .ref v5, .ref c]) ntp).at hF14 (by simp)
        have b15 := b14.upd (o := .tup [.str w.1, .ref v5, .ref c]) (b14.ne ntp)
        refine ⟨F, ys, _, k, rfl, rfl, hF15, ixn lky, ?_⟩
        repeat (first | refine iteN (by decide) ?_ | refine ⟨_, rfl, ?_⟩ | refine ⟨_, _, rfl, rfl, ?_⟩ | refine ⟨_, _, rfl, ?_⟩ | refine ⟨rfl, ?_⟩)
        exact fin2 s9 hF15 m3 (wok.swp hx0 z1 z2 z3) (.inl rfl) b15 (by omega)
      · repeat (first | refine iteN (by decide) ?_ | refine ⟨_, rfl, ?_⟩ | refine ⟨_, _, rfl, rfl, ?_⟩ | refine ⟨_, _, rfl, ?_⟩ | refine ⟨rfl, ?_⟩)
        exact fin1 t1 hF8 b8 (by omega)
    · repeat (first | refine iteN (by decide) ?_ | refine ⟨_, rfl, ?_⟩ | refine ⟨_, _, rfl, rfl, ?_⟩ | refine ⟨_, _, rfl, ?_⟩ | refine ⟨rfl, ?_⟩)
      exact fin1 sC hFC bC (by omega)

end K09
namespace K09
open PySem PySem.Spec PyProof.Rows L2 TL
/-! ### a problem as a shape -/
theorem isPair.gen {H H' : Hp} {G G' : Addr → Prop} {x : V} {q : Str × Int} (h : isPair H G x q) (k : ∀ a o, G a → H a = some o → H' a = some o ∧ G' a) : isPair H' G' x q := by
  obtain ⟨t, e, g, h⟩ := h
  exact ⟨t, e, (k _ _ g h).2, (k _ _ g h).1⟩
theorem isTupI.gen {H H' : Hp} {G G' : Addr → Prop} {x : V} {q : List Int} (h : isTupI H G x q) (k : ∀ a o, G a → H a = some o → H' a = some o ∧ G' a) : isTupI H' G' x q := by
  obtain ⟨t, e, g, h⟩ := h
  exact ⟨t, e, (k _ _ g h).2, (k _ _ g h).1⟩
theorem IsP.gen {C : Addr} {H H' : Hp} {F F' G G' : Addr → Prop} {p : Addr} {L : List (Str × Int)} {R : List Row} (h : IsP C H F G p L R) (k : ∀ a o, F a → H a = some o → H' a = some o ∧ F' a) (k' : ∀ a xs, G a → H a = some (.tup xs) → H' a = some (.tup xs) ∧ G' a) : IsP C H' F' G' p L R := by
  obtain ⟨dx, av, ds, dp, ae, dsc, dbt, dn, E, xs, es, hp, ⟨f1, f2, f3, f4, f5, f6, ⟨N2, h9⟩, h10, h11⟩, ⟨h1, h2⟩, h3, ⟨h4, h5, h6⟩, h7, h8⟩ := h
  refine ⟨dx, av, ds, dp, ae, dsc, dbt, dn, E, xs, es, (k _ _ f1 hp).1, ⟨(k _ _ f1 hp).2, (k _ _ f2 h1).2, (k _ _ f3 h3).2, (k _ _ f4 h4).2, (k _ _ f5 h7).2, (k _ _ f6 h8).2, ⟨N2, (k _ _ h9.1 h9.2.1).2, (k _ _ h9.1 h9.2.1).1, Paired.mono (fun _ _ z => ⟨z.1, (k _ _ z.2.1 z.2.2).2, (k _ _ z.2.1 z.2.2).1⟩) h9.2.2⟩, (k _ _ h10 h11).2, (k _ _ h10 h11).1⟩,
    ⟨(k _ _ f2 h1).1, Paired.mono (fun x q z => ?_) h2⟩, (k _ _ f3 h3).1, ⟨(k _ _ f4 h4).1, Paired.mono (fun x q z => ?_) h5, Paired.mono (fun x q z => ?_) h6⟩, (k _ _ f5 h7).1, (k _ _ f6 h8).1⟩
  · obtain ⟨t, e, g, h⟩ := z
    exact ⟨t, e, (k' _ _ g h).2, (k' _ _ g h).1⟩
  · obtain ⟨t, e, g, h⟩ := z
    exact ⟨t, e, (k _ _ g h).2, (k _ _ g h).1⟩
  · obtain ⟨e, g1, g2, e1, ys, out, e2, s, pd⟩ := z
    refine ⟨e, (k _ _ g1 e1).2, (k _ _ g2 e2).2, (k _ _ g1 e1).1, ys, out, (k _ _ g2 e2).1, s, Paired.mono (fun x q z => ?_) pd⟩
    obtain ⟨t, e, g, h⟩ := z
    exact ⟨t, e, (k' _ _ g h).2, (k' _ _ g h).1⟩
abbrev Parts := List (Str × Int) × List Row
def sProb (C : Addr) : Sh Parts := ⟨fun W H v x => ∃ p, v = .ref p ∧ IsP C H W W p x.1 x.2, fun ⟨p, e, h⟩ k => ⟨p, e, h.gen (fun a o w e => k a o w e) fun a xs w e => k a _ w e⟩⟩
abbrev sRowQ : Sh Row := s3 sStr (sQ sStr) (sQ (sT sInt))
abbrev sParts : Sh Parts := sLP (sL sVar) (sL sRow)
theorem Sh.rowQ {M : List Addr} {H : Hp} {v : V} {r : Row} (h : sRow.at M H v r) : sRowQ.at M H v r := by
  obtain ⟨t, i, j, l, e, n, h, h1, h2, h3⟩ := h
  exact ⟨t, i, j, l, e, n, h, h1, Sh.sq h2, Sh.sq h3⟩
theorem pd_isRow {M : List Addr} {H : Hp} : ∀ {v : V} {r : Row}, sRowQ.at M H v r → isRow H (fun a => a ∉ M) (fun a => a ∉ M) v r := by
  rintro v r ⟨t, i, j, l, e, n, h, h1, ⟨a, vs, ea, na, ha, pa⟩, ⟨c, ws, ec, nc, hc, pc⟩⟩
  cases h1; subst ea ec
  rw [pd_isStrs pa] at ha
  exact ⟨t, a, c, ws, e, n, h, ⟨na, ha⟩, ⟨nc, hc⟩, Paired.mono (fun x q z => by
    obtain ⟨t, e, n, h⟩ := Sh.tints z
    exact ⟨t, e, n, h⟩) pc⟩
theorem pd_isVar {M : List Addr} {H : Hp} {v : V} {q : Str × Int} (h : sVar.at M H v q) : isPair H (fun a => a ∉ M) v q := by
  obtain ⟨t, i, j, e, n, h, h1, h2⟩ := h
  cases h1; cases h2
  exact ⟨t, e, n, h⟩
/-- what M holds are lists -/
def AlvL (M : List Addr) (H : Hp) : Prop := ∀ a ∈ M, ∃ zs, H a = some (.lst zs)
theorem AlvL.alv {M : List Addr} {H : Hp} (h : AlvL M H) : Alv M H := fun a ha => (h a ha).elim fun zs e => ⟨_, e⟩
theorem AlvL.cons {M : List Addr} {H : Hp} {a : Addr} {zs : List V} (e : H a = some (.lst zs)) (h : AlvL M H) : AlvL (a :: M) H := fun x hx => (List.mem_cons.mp hx).elim (fun h => ⟨zs, by rw [h]; exact e⟩) (h x)
theorem AlvL.nil {H : Hp} : AlvL [] H := fun _ h => by cases h
theorem mkPs {K : PySem.W.Frag} {C : Addr} {H : Hp} {M : List Addr} {Post : Addr → Hp → Prop} {E : XK} {va ve : V} {L : List (Str × Int)} {R : List Row} {vs dvs : List V} (alM : AlvL M H) (hA : (sQ sVar).at M H va L) (okL : VarsOk L) (hE : (sQ sRowQ).at M H ve R) (okR : EvsOk L R)
    (q : ∀ p H', Same H H' → H p = none → (sProb C).at M H' (.ref p) (L, R) → Post p H') (hv : vs ++ dvs = [va, ve] := by rfl) :
    ∀ x dx, H x = none → H dx = none → dx ≠ x → sp_pinit K C (.ref x :: (vs ++ dvs)) (upd (upd H dx (.own x)) x (.ins C dx [])) (fun v H2 => v = .non ∧ Post x H2) E := by
  intro x dx nx ndx ne
  rw [hv]
  obtain ⟨a, xs, ea, na, ha, pa⟩ := hA
  obtain ⟨e, ys, ee, nE, he, pe⟩ := hE
  subst ea ee
  have SqA : Sq K H a xs := ha.imp id .inl
  have SqE : Sq K H e ys := he.imp id .inl
  refine ⟨H, x, dx, a, e, xs, ys, L, R, rfl, upd_same, nx, Same.upd_p (Same.new ndx) nx, SqA, Paired.mono (fun _ _ z => (pd_isVar z).old) pa, okL, SqE, Paired.mono (fun _ _ z => (pd_isRow z).old) pe, okR, fun H' s hP => ⟨rfl, q x H' s nx ⟨x, rfl, hP.gen (fun a o n e => ⟨e, fun hm => ?_⟩) fun a zs n e => ⟨e, fun hm => ?_⟩⟩⟩⟩
  · obtain ⟨zs, hz⟩ := alM a hm
    rw [show H a = none from n] at hz; cases hz
  · obtain ⟨zs', hz⟩ := alM a hm
    rw [s _ _ hz] at e; cases e
/-- new parts are not in a list of lists -/
theorem off_vars {b S q D : Addr} {H : Hp} {zs ys : List V} {L : List (Str × Int)} (h : PV b H D L) (hS : H S = some (.lst (.ref q :: zs))) (hq : H q = some (.lst ys)) : (sL sVar).at [S, b] H (.ref D) L := by
  obtain ⟨n, xs, hD, pd⟩ := h
  have nS : D ≠ S := fun e => by
    rw [e, hS] at hD; cases hD
    cases pd with
    | cons z _ => obtain ⟨t, e, _, ht⟩ := z; cases e; rw [hq] at ht; cases ht
  exact ⟨D, xs, rfl, by simp [n, nS], hD, Paired.mono (fun x q ⟨t, e, n, h⟩ => ⟨t, .str q.1, .int q.2, e, by simp [n]; exact ne_of h hS (by simp), h, rfl, rfl⟩) pd⟩
theorem off_rows {b S q D : Addr} {H : Hp} {zs ys : List V} {R : List Row} (h : PR b H D R) (hS : H S = some (.lst (.ref q :: zs))) (hq : H q = some (.lst ys)) : (sL sRow).at [S, b] H (.ref D) R := by
  obtain ⟨n, xs, hD, pd⟩ := h
  have nS : D ≠ S := fun e => by
    rw [e, hS] at hD; cases hD
    cases pd with
    | cons z _ => obtain ⟨t, _, _, _, e, _, ht, _⟩ := z; cases e; rw [hq] at ht; cases ht
  refine ⟨D, xs, rfl, by simp [n, nS], hD, Paired.mono (fun x r ⟨t, a, c, us, e, n, h, ⟨na, ha⟩, ⟨nc, hc⟩, p⟩ => ?_) pd⟩
  have naS : a ≠ S := fun e => by
    rw [e, hS] at ha
    have h1 := HO.lst.inj (Option.some.inj ha)
    cases hr : r.2.1 with
    | nil => rw [hr] at h1; cases h1
    | cons z t => rw [hr] at h1; cases h1
  have ncS : c ≠ S := fun e => by
    rw [e, hS] at hc; cases hc
    generalize r.2.2 = bd at p
    cases p with
    | cons z _ => obtain ⟨t, e, _, ht⟩ := z; cases e; rw [hq] at ht; cases ht
  exact ⟨t, .str r.1, .ref a, .ref c, e, by simp [n]; exact ne_of h hS (by simp), h, rfl, ⟨a, _, rfl, by simp [na, naS], ha, pd_strs⟩, ⟨c, us, rfl, by simp [nc, ncS], hc, Paired.mono (fun x q ⟨t, e, n, h⟩ => ⟨t, _, e, by simp [n]; exact ne_of h hS (by simp), h, pd_ints⟩) p⟩⟩
/-- an own list F, new since H, one item more -/
theorem app_L {α : Type} {s : Sh α} {m M : List Addr} {H H2 : Hp} {F : Addr} {v : V} {x : α} {vs : List V} {xs : List α} (nF : H F = none) (st : Stp m H H2) (pd : Paired (s.at (F :: M) H2) vs xs) (hz : s.at (F :: M) H2 v x) :
    Stp m H (upd H2 F (.lst (vs ++ [v]))) ∧ Paired (s.at (F :: M) (upd H2 F (.lst (vs ++ [v])))) (vs ++ [v]) (xs ++ [x]) := by
  have sp : Stp [F] H2 (upd H2 F (.lst (vs ++ [v]))) := Stp.put (by simp)
  have sb : Sb [F] (F :: M) H2 := Sb.mem List.mem_cons_self Sb.nil
  exact ⟨st.putN nF, psnoc (Sh.gos pd sp sb Sb.refl) (Sh.go hz sp sb Sb.refl)⟩
theorem pd_isRowS {M : List Addr} {H : Hp} {v : V} {r : Row} (h : sRow.at M H v r) : isRowS H (fun a => a ∉ M) (fun a => a ∉ M) v r := by
  obtain ⟨t, i, j, l, e, n, h, h1, h2, ⟨c, ws, ec, nc, hc, pc⟩⟩ := h
  cases h1
  obtain ⟨a, ea, na, ha⟩ := Sh.strs h2
  subst ea ec
  exact ⟨t, a, c, ws, e, n, h, ⟨na, ha⟩, ⟨nc, hc⟩, Paired.mono (fun x q z => by
    obtain ⟨t, e, n, h⟩ := Sh.tints z
    exact ⟨t, e, n, h⟩) pc⟩
theorem Sh.all {α : Type} {s : Sh α} {M : List Addr} {H : Hp} {v : V} {x : α} (h : s.at M H v x) : s.at [] H v x := s.mv h fun a o _ e => ⟨e, by simp⟩
def revB (r : Row) : Row := (r.1, r.2.1, r.2.2.reverse)
theorem RowOk.revB {L : List (Str × Int)} {r : Row} (h : RowOk L r) : RowOk L (revB r) := h.bad (bad := r.2.2.reverse) (by rw [List.length_reverse]; exact h.bfew) ((List.reverse_perm _).nodup_iff.mpr h.bnd) fun ns hns => List.mem_reverse.mp hns
theorem EvsOk.revB {L : List (Str × Int)} {R : List Row} (h : EvsOk L R) : EvsOk L (R.map revB) :=
  ⟨by rw [List.length_map]; exact h.few, fun r hr => by
    obtain ⟨r', h', rfl⟩ := List.mem_map.mp hr
    exact (h.ok r' h').revB, by rw [List.map_map]; exact h.nd⟩
theorem Sh.rowsQ {M : List Addr} {H : Hp} {v : V} {R : List Row} (h : (sL sRow).at M H v R) : (sQ sRowQ).at M H v R := by
  obtain ⟨a, vs, e, n, h, p⟩ := h
  exact ⟨a, vs, e, n, .inl h, Paired.mapP p fun _ _ z => Sh.rowQ z⟩
theorem isRowL.same {H H' : Hp} {F G : Addr → Prop} {x : V} {r : Row} (h : isRowL H F G x r) (s : Same H H') : isRowL H' F G x r := by
  obtain ⟨p, a, b, ys, e, h1, h2, h3, h4⟩ := h
  exact ⟨p, a, b, ys, e, s _ _ h1, s _ _ h2, s _ _ h3, Paired.mono (fun _ _ z => isTupI.same z s) h4⟩
theorem eqv_two (a b c d : PyData) : PyData.eqv (.list [a, b]) (.list [c, d]) = (PyData.eqv a c && PyData.eqv b d) := by
  rw [show PyData.eqv (.list [a, b]) (.list [c, d]) = (PyData.eqv a c && (PyData.eqv b d && true)) from rfl, Bool.and_true]
theorem IsP.ins {C : Addr} {H : Hp} {F G : Addr → Prop} {p : Addr} {L : List (Str × Int)} {R : List Row} (h : IsP C H F G p L R) : ∃ dx fs, H p = some (.ins C dx fs) := by
  obtain ⟨dx, av, ds, dp, ae, dsc, dbt, dn, E, xs, es, hp, _⟩ := h
  exact ⟨dx, _, hp⟩
theorem IsP.srt {C : Addr} {H : Hp} {F G : Addr → Prop} {p : Addr} {L : List (Str × Int)} {R : List Row} (h : IsP C H F G p L R) : ∃ S : List Row, Paired SrtR R S := by
  obtain ⟨dx, av, ds, dp, ae, dsc, dbt, dn, E, xs, es, hp, f, ⟨h1, h2⟩, h3, ⟨h4, h5, h6⟩, h7, h8⟩ := h
  obtain ⟨S, k1, _⟩ := ev_rowsL h5 h6
  exact ⟨S, k1⟩
theorem IsP.at' {C : Addr} {H : Hp} {F G : Addr → Prop} {p : Addr} {L : List (Str × Int)} {R : List Row} (h : IsP C H F G p L R) : ∃ dx fs, H p = some (.ins C dx fs) ∧ ∀ m : Str, ([("_neighbors" : Str), "_bad_tuples", "_scopes", "_events", "_places", "_sizes", "_variables"].all fun k => decide (¬ m = k)) = true → fs.lookup m = none := by
  obtain ⟨dx, av, ds, dp, ae, dsc, dbt, dn, E, xs, es, hp, _⟩ := h
  exact ⟨dx, _, hp, fun m hm => pfl_no _ _ _ _ _ _ _ hm⟩

end K09
namespace K09
open PySem PySem.Spec PyProof.Rows L2 TL
/-! ### the law -/
theorem ok_law {P : Program} {w : World} {K : PySem.W.Frag} {mg : Str → Option Value} {base : Heap} (T : Txt P K mg) : FnOk P w K mg base CX0 8 T.f_law T.fd_law ["_law_script"] (sp_law K) := by
  refine T.F_law.ok sc_law (fun vs H Q E h => ?_) (fun cdv A outer s H vs Q E hr h => ?_)
  · obtain ⟨_, _, rfl, _⟩ := h; rfl
  · obtain ⟨l, ns, rfl, hS, hlen, q⟩ := h
    refine ⟨_, PSs.nox (pss_cons (ps_for PassesOwn.never rfl (pi_range1 (by rfl) T.n_range (pa_cons (pe_callB (call_max2 rfl) (by rfl) T.n_max (by decide +kernel) (pa_cons pe_int (pa_cons (pe_callB (call_min2 rfl) (by rfl) T.n_min (by decide +kernel) (pa_cons pe_int (pa_cons (pe_callB (show CallR _ _ (rLenSeq K) from call_len_seq) (by rfl) T.n_len (by decide +kernel) (pa_cons (pv 0) pa_nil)) pa_nil))) pa_nil))) pa_nil)) (pg_name (i := 1) sc_law.nd rfl (Or.inl rfl)) (pss_cons (ps_set (i := 2) sc_law.nd rfl (Or.inl rfl) (pe_call (ok_l_bag T) (hr.mono (by decide)) (by rfl) T.g_l_bag T.F_l_bag.kp (b_l_bag T) .nil pass0 (pa_cons (pe_call (ok_l_cell T) (hr.mono (by decide)) (by rfl) T.g_l_cell T.F_l_cell.kp (b_l_cell T) .nil pass0 (pa_cons (pv 0) (pa_cons (pv 1) pa_nil))) pa_nil)))
      (pss_cons (ps_asg (pe_call (ok_l_parts T) (hr.mono (by decide)) (by rfl) T.g_l_parts T.F_l_parts.kp (b_l_parts T) .nil pass0 (pa_cons (pv 2) pa_nil)) (pg_tup rfl (pgs_cons (pg_name (i := 3) sc_law.nd rfl (Or.inl rfl)) (pgs_cons (pg_name (i := 4) sc_law.nd rfl (Or.inl rfl)) pgs_nil))))
      (pss_cons (ps_set (i := 5) sc_law.nd rfl (Or.inl rfl) (pe_lst (pa_cons (pe_lst (pa_cons (pv 3) (pa_cons (pv 4) pa_nil))) (pa_cons (pe_lst (pa_cons (pv 3) (pa_cons (pe_lc (own := [("_law_title", 12), ("_law_scope_here", 13), ("_law_bad", 14)]) (g := gTup K 3 (gCons (gName 12) (gCons (gName 13) (gCons (gName 14) gNil)))) rfl sc_law.nd (pi_list (pv 4)) (blkOk_by (own := [("_law_title", 12), ("_law_scope_here", 13), ("_law_bad", 14)]) (N := N_law) (sc := defScope s_law) (by decide +kernel)) (fun _ _ _ _ _ => (pg_tup rfl (pgs_cons (pg_name (i := 12) sc_law.nd rfl (Or.inl rfl)) (pgs_cons (pg_name (i := 13) sc_law.nd rfl (Or.inl rfl)) (pgs_cons (pg_name (i := 14) sc_law.nd rfl (Or.inl rfl)) pgs_nil))))) (fun _ _ _ _ _ => pts_nil) (fun _ _ _ _ _ => (pe_tup (pa_cons (pv 12) (pa_cons (pv 13) (pa_cons (show PE _ _ (tRevL K _) from pe_revL (pv 14)) pa_nil)))))) pa_nil))) pa_nil))))
      (pss_cons (ps_for PassesOwn.never rfl (pi_range1 (by rfl) T.n_range (pa_cons pe_int pa_nil)) (pg_name (i := 6) sc_law.nd rfl (Or.inl rfl)) (pss_cons (ps_expr (pe_bm PySem.F.plainAttrs_list PySem.F.slot_list_append PySem.F.type_list_append mt_append (pv 5) (pa_cons (pe_callTy (show CallR _ _ (rListOf K) from call_list_of) (by rfl) T.n_list (by decide +kernel) (pa_cons (pe_call (ok_l_other_variables T) (hr.mono (by decide)) (by rfl) T.g_l_other_variables T.F_l_other_variables.kp (b_l_other_variables T) .nil pass0 (pa_cons (pv 2) (pa_cons (pv 3) (pa_cons (pv 4) pa_nil)))) pa_nil)) pa_nil)))
      (pss_one (ps_expr (pe_bm PySem.F.plainAttrs_list PySem.F.slot_list_append PySem.F.type_list_append mt_append (pv 5) (pa_cons (pe_lst (pa_cons (pv 3) (pa_cons (pe_call (ok_l_other_events T) (hr.mono (by decide)) (by rfl) T.g_l_other_events T.F_l_other_events.kp (b_l_other_events T) .nil pass0 (pa_cons (pv 2) (pa_cons (pv 3) (pa_cons (pv 4) pa_nil)))) pa_nil))) pa_nil))))))
      (pss_cons (ps_setLc (i := 8) (own := [("_law_one", 7)]) (g := gName 7) rfl sc_law.nd rfl rfl (sw_true rfl rfl rfl (by decide +kernel)) (pi_list (pv 5)) (blkOk_by (own := [("_law_one", 7)]) (N := N_law) (sc := defScope s_law) (by decide +kernel)) (fun _ _ _ _ _ => (pg_name (i := 7) sc_law.nd rfl (Or.inl rfl))) (fun _ _ _ _ _ => pts_nil) (fun _ _ _ _ _ => (pe_makeS T.mk_Problem (ok_Problem_init T) (hr.mono (by decide)) (by rfl) T.g_Problem (b_Problem_init T) .nil passS0 (pa_cons (pe_ix (show IxR _ (rIxL K) from ix_list) (pv 7) pe_int (fun _ _ => rfl)) (pa_cons (pe_ix (show IxR _ (rIxL K) from ix_list) (pv 7) pe_int (fun _ _ => rfl)) pa_nil)))))
      (pss_cons (ps_for PassesOwn.never rfl (pi_range1 (by rfl) T.n_range (pa_cons (pe_callB (show CallR _ _ (rLenSeq K) from call_len_seq) (by rfl) T.n_len (by decide +kernel) (pa_cons (pv 5) pa_nil)) pa_nil)) (pg_name (i := 7) sc_law.nd rfl (Or.inl rfl)) (pss_one (ps_for PassesOwn.never rfl (pi_range1 (by rfl) T.n_range (pa_cons (pe_callB (show CallR _ _ (rLenSeq K) from call_len_seq) (by rfl) T.n_len (by decide +kernel) (pa_cons (pv 5) pa_nil)) pa_nil)) (pg_name (i := 9) sc_law.nd rfl (Or.inl rfl)) (pss_cons (ps_set (i := 10) sc_law.nd rfl (Or.inl rfl) (pe_cmpR (show OpR _ (compareOp .Eq) (rEqD K) from op_eqD hr.units) (pe_call (ok_l_key T) (hr.mono (by decide)) (by rfl) T.g_l_key T.F_l_key.kp (b_l_key T) .nil pass0 (pa_cons (pe_ix (show IxR _ (rIxL K) from ix_list) (pe_ix (show IxR _ (rIxL K) from ix_list) (pv 5) (pv 7) (fun _ _ => rfl)) pe_int (fun _ _ => rfl)) (pa_cons (pe_ix (show IxR _ (rIxL K) from ix_list) (pe_ix (show IxR _ (rIxL K) from ix_list) (pv 5) (pv 7) (fun _ _ => rfl)) pe_int (fun _ _ => rfl)) pa_nil))) (pe_call (ok_l_key T) (hr.mono (by decide)) (by rfl) T.g_l_key T.F_l_key.kp (b_l_key T) .nil pass0 (pa_cons (pe_ix (show IxR _ (rIxL K) from ix_list) (pe_ix (show IxR _ (rIxL K) from ix_list) (pv 5) (pv 9) (fun _ _ => rfl)) pe_int (fun _ _ => rfl)) (pa_cons (pe_ix (show IxR _ (rIxL K) from ix_list) (pe_ix (show IxR _ (rIxL K) from ix_list) (pv 5) (pv 9) (fun _ _ => rfl)) pe_int (fun _ _ => rfl)) pa_nil))) (nomark _)))
      (pss_one (ps_if (PW.pt (pw_or (pt_cmpR op_ne (pe_cmpR (show OpR _ (compareOp .Eq) (rEqX K T.C_Problem _ E0) from op_eqX (ok_Problem_eq T) (hr.mono (by decide)) (b_Problem_eq T) pass0 T.m_Problem_eq.found T.m_Problem_eq.fn) (pe_ix (show IxR _ (rIxL K) from ix_list) (pv 8) (pv 7) (fun _ _ => rfl)) (pe_ix (show IxR _ (rIxL K) from ix_list) (pv 8) (pv 9) (fun _ _ => rfl)) (nomark _)) (pv 10) (nomark _)) (pw_or1 (pt_cmpR op_eq (pe_cmpR (show OpR _ (compareOp .NotEq) (rNeX K T.C_Problem _ E0) from op_neX (ok_Problem_eq T) (hr.mono (by decide)) (b_Problem_eq T) pass0 T.ow_Problem.ne T.ow_Problem.ob T.m_Problem_eq.found T.m_Problem_eq.fn) (pe_ix (show IxR _ (rIxL K) from ix_list) (pv 8) (pv 7) (fun _ _ => rfl)) (pe_ix (show IxR _ (rIxL K) from ix_list) (pv 8) (pv 9) (fun _ _ => rfl)) (nomark _)) (pv 10) (nomark _))))) (pss_one (ps_ret pe_bl)) pss_nil))))))
      (pss_one (ps_for PassesOwn.never rfl (pi_list (pe_lst (pa_cons pe_non (pa_cons pe_int (pa_cons pe_bl (pa_cons pe_str (pa_cons (pv 3) (pa_cons (pv 4) (pa_cons (pe_tup (pa_cons (pv 3) (pa_cons (pv 4) pa_nil))) (pa_cons (pe_meth0 (pl := _) (pe_ix (show IxR _ (rIxL K) from ix_list) (pv 8) pe_int (fun _ _ => rfl)) T.cl_Problem T.m_Problem_variables (ok_Problem_variables T) (hr.mono (by decide)) (b_Problem_variables T) .nil pass0) (pa_cons pe_dnewK pa_nil))))))))))) (pg_name (i := 11) sc_law.nd rfl (Or.inl rfl)) (pss_one (ps_if (PW.pt (pw_or (pt_cmpR (show OpR _ (compareOp .Eq) (rEqX K T.C_Problem _ E0) from op_eqX (ok_Problem_eq T) (hr.mono (by decide)) (b_Problem_eq T) pass0 T.m_Problem_eq.found T.m_Problem_eq.fn) (pe_ix (show IxR _ (rIxL K) from ix_list) (pv 8) pe_int (fun _ _ => rfl)) (pv 11) (nomark _)) (pw_or1 (pt_not (pt_cmpR (show OpR _ (compareOp .NotEq) (rNeX K T.C_Problem _ E0) from op_neX (ok_Problem_eq T) (hr.mono (by decide)) (b_Problem_eq T) pass0 T.ow_Problem.ne T.ow_Problem.ob T.m_Problem_eq.found T.m_Problem_eq.fn) (pe_ix (show IxR _ (rIxL K) from ix_list) (pv 8) pe_int (fun _ _ => rfl)) (pv 11) (nomark _)))))) (pss_one (ps_ret pe_bl)) pss_nil)))))))))))
      (pss_one (ps_ret pe_bl))), ?_⟩
    refine ⟨_, rfl, l, _, rfl, .inl hS, _, _, rfl, _, _, rfl, _, rfl, ?_, ?_, for_it walk_range (fun i σ H' => Same H H' ∧ ∃ x1 x2 x3 x4 x5 x6 x7 x8 x9 x10 x11 : Option V, σ = [some (.ref l), x1, x2, x3, x4, x5, x6, x7, x8, x9, x10, x11, none, none, none]) ⟨Same.refl H, _, _, _, _, _, _, _, _, _, _, _, rfl⟩ (fun _ _ _ _ _ => trivial) (fun i x σ H' H'' hi' pp yy => ?_) fun σ H' pp => ?_⟩
    · split <;> omega
    · rw [List.length_map]; split <;> split <;> omega
    obtain ⟨S0, x1, x2, x3, x4, x5, x6, x7, x8, x9, x10, x11, rfl⟩ := pp
    obtain ⟨rfl, rfl⟩ := yy
    refine ⟨_, rfl, _, rfl, l, ns, _, rfl, (Kp.at fun o e => S0 l o e).1 _ hS, by omega, fun cv => ?_⟩
    refine ⟨_, rfl, fun b H1 s1 nb hB => ?_⟩
    have nbH : H b = none := Same.none S0 nb
    have S1 := S0.trans s1
    clear S0 s1
    refine ⟨_, rfl, b, 0, rfl, hB, by omega, fun p D r xs ys L R H2 f2 hp2 nD nr hD pdL hr' pdR okL okR b2 => ?_⟩
    refine ⟨p, _, rfl, .inl (.inl hp2), rfl, _, _, rfl, _, _, rfl, rfl, ?_⟩
    have hV : PV b H2 D L := ⟨nD.2, xs, hD, Paired.mono (fun _ _ z => isPair.wk z fun a ha => ha.2) pdL⟩
    have hR : PR b H2 r R := ⟨nr.2, ys, hr', Paired.mono (fun _ _ z => isRowS.wk z (fun a ha => ha.2) fun a ha => ha.2) pdR⟩
    have S2 : Same H H2 := fun a o e => f2 a o (ne_of_none e nbH) (S1 a o e)
    clear pdL pdR hp2 f2 S1
    have l8 := okL.few
    have r8 := okR.few
    have al : AlvL [b] H2 := by
      obtain ⟨x, y, z, e, _⟩ := id b2
      exact AlvL.cons e AlvL.nil
    repeat (first | refine ⟨_, rfl, ?_⟩ | refine ⟨_, _, rfl, rfl, ?_⟩ | refine ⟨_, _, rfl, ?_⟩ | refine ⟨rfl, ?_⟩)
    obtain ⟨r', ys', e, nrb, hr0, pdR⟩ := hR.to
    cases e
    refine ⟨lenk 2 rfl (by decide), fun p1 np1 => ?_⟩
    have hq1 : sParts.at [b] _ (.ref p1) (L, R) := mk_LP (s := sL sVar) (t := sL sRow) al.alv np1 hV.to hR.to
    have s3 : Stp [b] H2 (upd H2 p1 (.lst [.ref D, .ref r])) := Stp.new np1
    have b3 := b2.upd (o := .lst [.ref D, .ref r]) (b2.ne np1)
    generalize upd H2 p1 (.lst [.ref D, .ref r]) = H3 at hq1 s3 b3
    repeat (first | refine ⟨_, rfl, ?_⟩ | refine ⟨_, _, rfl, rfl, ?_⟩ | refine ⟨_, _, rfl, ?_⟩ | refine ⟨rfl, ?_⟩)
    refine ⟨⟨_, SqL.of (s3.at hr0 nrb)⟩, fun U nU => ?_⟩
    refine lc_it (walk_list (K := K) (a := r) (xs := ys')) (fun i H' => ∃ zs, Acc sRow U [b] [] H3 H' zs ∧ zs = (R.take i).map revB) ⟨[], Acc.start (al.alv.go s3) nU (by simp), rfl⟩ (fun i H' _ ⟨_, a, _⟩ => SqL.of (a.st.at (s3.at hr0 nrb) (by simp))) ?_ ?_
    · rintro i x Hx H6 hi ⟨zs, ac, ez⟩ ⟨rfl, hx⟩
      obtain ⟨w, hw, t, i1, ia, ic, rfl, nt, ht, e1, ha, hc⟩ := pget' pdR hx
      cases e1
      have s6 := s3.trans (ac.st.wk Sb.nil)
      have hc0 := Sh.go hc s6 Sb.refl (Sb.new (s3.none nU) Sb.refl)
      have ha0 := Sh.go ha s6 Sb.refl (Sb.new (s3.none nU) Sb.refl)
      obtain ⟨c, cs, ec, nc, hcl, pc⟩ := hc0
      subst ec
      refine ⟨t, _, rfl, .inl (.inl (s6.at ht nt)), rfl, _, _, rfl, _, _, rfl, _, _, rfl, rfl, (wipe_in (by decide)).trans ((wipe_in (by decide)).trans (wipe_in (by decide))), ?_⟩
      repeat (first | refine ⟨_, rfl, ?_⟩ | refine ⟨_, _, rfl, rfl, ?_⟩ | refine ⟨_, _, rfl, ?_⟩ | refine ⟨rfl, ?_⟩)
      refine ⟨c, _, rfl, SqL.of hcl, fun v nv => ?_⟩
      repeat (first | refine ⟨_, rfl, ?_⟩ | refine ⟨_, _, rfl, rfl, ?_⟩ | refine ⟨_, _, rfl, ?_⟩ | refine ⟨rfl, ?_⟩)
      refine ⟨lenk 3 rfl (by decide), fun t1 nt1 => ?_⟩
      have m1 := mk_lst (s := sT sInt) ac.alv nv (prev pc)
      have t1' : Stp [] H6 (upd H6 v (.lst cs.reverse)) := Stp.new nv
      have m3 := mk_3 (s := sStr) (x := w.1) (ac.alv.go t1') nt1 rfl (Sh.go ha0 t1' Sb.nil Sb.refl) m1
      exact ac.put (y := revB w) (t1'.trans (Stp.new nt1)) m3 (by rw [ez, List.length_map, List.length_take]; omega) (by rw [take_map_snoc _ hw, ez])
    rintro H4 ⟨zs, ac, ez⟩
    rw [plen pdR, List.take_length] at ez
    subst ez
    have s4 := s3.trans (ac.st.wk Sb.nil)
    have hu := ac.done
    have b4 := b3.stp ac.st (by simp)
    have hq4 := Sh.go hq1 ac.st Sb.nil Sb.refl
    clear ac
    refine ⟨lenk 2 rfl (by decide), fun p2 np2 => ?_⟩
    have hq2 : sParts.at [b] _ (.ref p2) (L, R.map revB) := mk_LP (s := sL sVar) (t := sL sRow) (al.alv.go s4) np2 (Sh.go hV.to s4 Sb.refl Sb.refl) hu
    have s5 := s4.trans (Stp.new (m := [b]) (o := .lst [.ref D, .ref U]) np2)
    have b5 := b4.upd (o := .lst [.ref D, .ref U]) (b4.ne np2)
    have hq5 := Sh.go hq4 (Stp.new (o := .lst [.ref D, .ref U]) np2) Sb.nil Sb.refl
    generalize upd H4 p2 (.lst [.ref D, .ref U]) = H5 at hq2 s5 b5 hq5
    clear hq1 hq4 hu
    refine ⟨lenk 2 rfl (by decide), fun S nS => ?_⟩
    have nSb : S ≠ b := (b5.ne nS).symm
    have nS2 := s5.none nS
    have s6 : Stp [b] H5 (upd H5 S (.lst [.ref p1, .ref p2])) := Stp.new nS
    have b6 := b5.upd (o := .lst [.ref p1, .ref p2]) nSb.symm
    have pd6 : Paired (sParts.at [S, b] (upd H5 S (.lst [.ref p1, .ref p2]))) [.ref p1, .ref p2] [(L, R), (L, R.map revB)] := .cons (Sh.go hq5 s6 Sb.refl (Sb.new nS Sb.refl)) (.cons (Sh.go hq2 s6 Sb.refl (Sb.new nS Sb.refl)) .nil)
    have h6 : upd H5 S (.lst [.ref p1, .ref p2]) S = some (.lst [.ref p1, .ref p2]) := upd_same
    generalize upd H5 S (.lst [.ref p1, .ref p2]) = H6 at s6 b6 pd6 h6
    repeat (first | refine ⟨_, rfl, ?_⟩ | refine ⟨_, _, rfl, rfl, ?_⟩ | refine ⟨_, _, rfl, ?_⟩ | refine ⟨rfl, ?_⟩)
    refine ⟨by decide, by decide, for_it walk_range (fun j σ H' => ∃ (y6 : Option V) (zs : List V) (X : List Parts), σ = [some (.ref l), some (.int (0 + (i : Nat))), some (.ref b), some (.ref D), some (.ref r), some (.ref S), y6, x7, x8, x9, x10, x11, none, none, none] ∧
      Stp [b] H5 H' ∧ Bag H' b (1000 + 60 * j) ∧ H' S = some (.lst zs) ∧ Paired (sParts.at [S, b] H') zs X ∧ X.length = 2 + 2 * j ∧ (∀ x ∈ X, VarsOk x.1 ∧ EvsOk x.1 x.2) ∧ X[0]? = some (L, R)) ⟨_, _, _, rfl, s6, b6.mono (by omega), h6, pd6, rfl, fun x hx => ?_, rfl⟩ (fun _ _ _ _ _ => trivial) ?_ ?_⟩
    · rcases List.mem_cons.mp hx with e | e
      · rw [e]; exact ⟨okL, okR⟩
      · rw [List.mem_singleton.mp e]; exact ⟨okL, okR.revB⟩
    · rintro j y σ Hy H7 hj ⟨y6, zs, X, rfl, s7, b7, h7, pd7, lX, okX, e0⟩ ⟨rfl, rfl⟩
      have hj6 : j < 6 := hj
      have lz := plen pd7
      have s7' := s5.trans s7
      repeat (first | refine ⟨_, rfl, ?_⟩ | refine ⟨_, _, rfl, rfl, ?_⟩ | refine ⟨_, _, rfl, ?_⟩ | refine ⟨rfl, ?_⟩)
      refine ⟨.inl ⟨rfl, _, SqL.of h7⟩, ?_⟩
      repeat (first | refine ⟨_, rfl, ?_⟩ | refine ⟨_, _, rfl, rfl, ?_⟩ | refine ⟨_, _, rfl, ?_⟩ | refine ⟨rfl, ?_⟩)
      refine ⟨b, D, r, _, L, R, rfl, b7, by omega, hV.fr (frS s7'), hR.fr (frS s7'), okL, okR, fun p a r1 L1 R1 H8 f8 hp8 hV8 hR8 okL1 okR1 b8 => ?_⟩
      have s8 : Stp [b] H7 H8 := f8.stp b8.some
      have h8 := f8 S _ nSb h7
      have pd8 := Sh.gos pd7 s8 (Sb.one (by simp)) Sb.refl
      obtain ⟨z0, hz0, q0, u0, w0, e, _, hq0, _⟩ := pget pd8 e0
      subst e
      obtain ⟨zt, ezs⟩ : ∃ zt, zs = .ref q0 :: zt := by
        cases zs with
        | nil => cases hz0
        | cons z zt => cases hz0; exact ⟨zt, rfl⟩
      subst ezs
      have hv8 := off_vars hV8 h8 hq0
      have hr8 := off_rows hR8 h8 hq0
      repeat (first | refine ⟨_, rfl, ?_⟩ | refine ⟨_, _, rfl, rfl, ?_⟩ | refine ⟨_, _, rfl, ?_⟩ | refine ⟨rfl, ?_⟩)
      refine ⟨p, _, rfl, .inr (.inl (.inl hp8)), fun c nc => ?_⟩
      have al8 : Alv [S, b] H8 := Alv.cons h8 (al.alv.go (s7'.trans s8))
      have m1 : sParts.at [S, b] _ (.ref c) (L1, R1) := mk_LP (s := sL sVar) (t := sL sRow) al8 nc hv8 hr8
      have s9 : Stp [] H8 (upd H8 c (.lst [.ref a, .ref r1])) := Stp.new nc
      have h9 := s9.at h8 (by simp)
      have b9 := b8.stp s9 (by simp)
      have pd9 := Sh.gos pd8 s9 Sb.nil Sb.refl
      have t9 := (s7.trans s8).trans (s9.wk Sb.nil)
      generalize upd H8 c (.lst [.ref a, .ref r1]) = H9 at m1 s9 h9 b9 pd9 t9
      repeat (first | refine ⟨_, rfl, ?_⟩ | refine ⟨_, _, rfl, rfl, ?_⟩ | refine ⟨_, _, rfl, ?_⟩ | refine ⟨rfl, ?_⟩)
      have lz8 := plen pd8
      have l9 : (V.ref q0 :: zt).length < sizeLine := by rw [sizeLine_eq]; omega
      refine ⟨S, _, _, rfl, rfl, h9, l9, ?_⟩
      obtain ⟨t10, pd10⟩ := app_L nS t9 pd9 m1
      have h10 : upd H9 S (.lst (V.ref q0 :: zt ++ [V.ref c])) S = some (.lst (V.ref q0 :: zt ++ [V.ref c])) := upd_same
      have b10 := b9.upd (o := .lst (V.ref q0 :: zt ++ [V.ref c])) nSb.symm
      generalize upd H9 S (.lst (V.ref q0 :: zt ++ [V.ref c])) = H10 at t10 pd10 h10 b10
      clear m1 h9 b9 pd9 t9 s9 h8 b8 pd8 hv8 hr8 hV8 hR8 hp8 f8 hq0 hz0 pd7 h7 b7
      repeat (first | refine ⟨_, rfl, ?_⟩ | refine ⟨_, _, rfl, rfl, ?_⟩ | refine ⟨_, _, rfl, ?_⟩ | refine ⟨rfl, ?_⟩)
      refine ⟨.inl ⟨rfl, _, SqL.of h10⟩, ?_⟩
      repeat (first | refine ⟨_, rfl, ?_⟩ | refine ⟨_, _, rfl, rfl, ?_⟩ | refine ⟨_, _, rfl, ?_⟩ | refine ⟨rfl, ?_⟩)
      have s10' := s5.trans t10
      refine ⟨b, D, r, _, L, R, rfl, b10, by omega, hV.fr (frS s10'), hR.fr (frS s10'), okL, okR, fun r2 R2 H11 f11 hR11 okR2 b11 => ?_⟩
      have s11 : Stp [b] H10 H11 := f11.stp b11.some
      have h11 := f11 S _ nSb h10
      have pd11 := Sh.gos pd10 s11 (Sb.one (by simp)) Sb.refl
      obtain ⟨z1, hz1, q1, u1, w1, e, _, hq1, _⟩ := pget pd11 (show (X ++ [(L1, R1)])[0]? = some (L, R) by rw [List.getElem?_append_left (by omega)]; exact e0)
      subst e
      have eq1 : q0 = q1 := by
        have := hz1
        simp at this
        exact this
      subst eq1
      have hr11 := off_rows hR11 h11 hq1
      have al11 : Alv [S, b] H11 := Alv.cons h11 (al.alv.go (s10'.trans s11))
      have hv11 : (sL sVar).at [S, b] H11 (.ref D) L := Sh.go hV.to (s10'.trans s11) Sb.refl (Sb.new nS2 Sb.refl)
      refine ⟨lenk 2 rfl (by decide), fun c2 nc2 => ?_⟩
      have m2 : sParts.at [S, b] _ (.ref c2) (L, R2) := mk_LP (s := sL sVar) (t := sL sRow) al11 nc2 hv11 hr11
      have s12 : Stp [] H11 (upd H11 c2 (.lst [.ref D, .ref r2])) := Stp.new nc2
      have h12 := s12.at h11 (by simp)
      have b12 := b11.stp s12 (by simp)
      have pd12 := Sh.gos pd11 s12 Sb.nil Sb.refl
      have t12 := (t10.trans s11).trans (s12.wk Sb.nil)
      generalize upd H11 c2 (.lst [.ref D, .ref r2]) = H12 at m2 s12 h12 b12 pd12 t12
      repeat (first | refine ⟨_, rfl, ?_⟩ | refine ⟨_, _, rfl, rfl, ?_⟩ | refine ⟨_, _, rfl, ?_⟩ | refine ⟨rfl, ?_⟩)
      have l12 : (V.ref q0 :: zt ++ [V.ref c]).length < sizeLine := by rw [sizeLine_eq, List.length_append]; simp at lz8 ⊢; omega
      refine ⟨S, _, _, rfl, rfl, h12, l12, ?_⟩
      obtain ⟨t13, pd13⟩ := app_L nS t12 pd12 m2
      refine ⟨_, _, _, rfl, t13, (b12.upd nSb.symm).mono (by omega), upd_same, pd13, by simp [lX]; omega, fun x hx => ?_, by rw [List.append_assoc, List.getElem?_append_left (by omega)]; exact e0⟩
      rcases List.mem_append.mp hx with h | h
      · rcases List.mem_append.mp h with h | h
        · exact okX x h
        · rw [List.mem_singleton.mp h]; exact ⟨okL1, okR1⟩
      · rw [List.mem_singleton.mp h]; exact ⟨okL, okR2⟩
    · rintro σ H7 ⟨y6, zs, X, rfl, s7, b7, h7, pd7, lX, okX, e0⟩
      have hDr7 : (∃ xl, H7 D = some (.lst xl)) ∧ ∃ xl, H7 r = some (.lst xl) := ⟨⟨_, (s5.trans s7).at hD (mem1.mpr nD.2)⟩, ⟨_, (s5.trans s7).at hr' (mem1.mpr nr.2)⟩⟩
      have pd : Paired (sParts.at [] H7) zs X := Paired.mapP pd7 fun _ _ z => Sh.all z
      have S7 : Same H H7 := fun a o e => (s5.trans s7).at (S2 a o e) (mem1.mpr (ne_of_none e nbH))
      clear pd7 s7 b7 hV hR pd6 h6 s6 b6 hq2 hq5 s5 b5 s4 b4 s3 b3 pdR hr0 hD hr' b2 al
      have lz := plen pd
      repeat (first | refine ⟨_, rfl, ?_⟩ | refine ⟨_, _, rfl, rfl, ?_⟩ | refine ⟨_, _, rfl, ?_⟩ | refine ⟨rfl, ?_⟩)
      refine ⟨⟨_, SqL.of h7⟩, fun U nU => ?_⟩
      refine lc_it (walk_list (K := K) (a := S) (xs := zs)) (fun i H' => ∃ ps, Acc (sProb T.C_Problem) U [] [] H7 H' ps ∧ ps = X.take i) ⟨[], Acc.start Alv.nil nU (by simp), by simp⟩ (fun i H' _ ⟨_, a, _⟩ => SqL.of (a.st.at h7 (by simp))) ?_ ?_
      · rintro k x Hx H8 hk ⟨ps, ac, ez⟩ ⟨rfl, hx⟩
        obtain ⟨⟨L1, R1⟩, hX1, q, u, w, rfl, nq, hq, hu, hw⟩ := pget' pd hx
        obtain ⟨ok1, ok2⟩ := okX _ (List.mem_of_getElem? hX1)
        obtain ⟨vs, hUx, _⟩ := ac.ac
        refine ⟨wipe_in (by decide), ?_⟩
        repeat (first | refine ⟨_, rfl, ?_⟩ | refine ⟨_, _, rfl, rfl, ?_⟩ | refine ⟨_, _, rfl, ?_⟩ | refine ⟨rfl, ?_⟩)
        refine ⟨q, _, (0 : Int), _, rfl, rfl, SqL.of (ac.st.at hq (by simp)), atI_nat (j := 0) rfl, ?_⟩
        repeat (first | refine ⟨_, rfl, ?_⟩ | refine ⟨_, _, rfl, rfl, ?_⟩ | refine ⟨_, _, rfl, ?_⟩ | refine ⟨rfl, ?_⟩)
        refine ⟨q, _, (1 : Int), _, rfl, rfl, SqL.of (ac.st.at hq (by simp)), atI_nat (j := 1) rfl, ?_⟩
        refine mkPs (M := [U]) (AlvL.cons hUx AlvL.nil) (Sh.sq (Sh.go hu ac.st Sb.nil (Sb.new nU Sb.nil))) ok1 (Sh.rowsQ (Sh.go hw ac.st Sb.nil (Sb.new nU Sb.nil))) ok2 fun p H9 s9 np hP => ?_
        exact ac.put (y := (L1, R1)) (Stp.of_same s9) hP (by rw [ez, List.length_take]; omega) (by rw [ez, List.take_succ, hX1]; rfl)
      rintro H8 ⟨ps, ac, ez⟩
      rw [lz, List.take_length] at ez
      rw [ez] at ac
      clear ez ps
      have s8 : Same H7 H8 := ac.st.same
      obtain ⟨U', bs, e, _, hU8, pdB⟩ := ac.done
      cases e
      have pdS := Sh.gos pd ac.st Sb.nil Sb.nil
      have hS8 := s8 _ _ h7
      have S8 := S7.trans s8
      have hDr0 : (∃ xl, H8 D = some (.lst xl)) ∧ ∃ xl, H8 r = some (.lst xl) := ⟨hDr7.1.elim fun xl h => ⟨xl, s8 _ _ h⟩, hDr7.2.elim fun xl h => ⟨xl, s8 _ _ h⟩⟩
      have lb := plen pdB
      clear ac pd S7 s8 h7
      have l14 : zs.length = 14 := by rw [lz, lX]; decide
      repeat (first | refine ⟨_, rfl, ?_⟩ | refine ⟨_, _, rfl, rfl, ?_⟩ | refine ⟨_, _, rfl, ?_⟩ | refine ⟨rfl, ?_⟩)
      refine ⟨S, _, rfl, .inl (SqL.of hS8), ?_⟩
      repeat (first | refine ⟨_, rfl, ?_⟩ | refine ⟨_, _, rfl, rfl, ?_⟩ | refine ⟨_, _, rfl, ?_⟩ | refine ⟨rfl, ?_⟩)
      refine ⟨by omega, by omega, for_it walk_range (fun j σ H' => ∃ y7 y9 y10 : Option V, σ = [some (.ref l), some (.int (0 + (i : Nat))), some (.ref b), some (.ref D), some (.ref r), some (.ref S), y6, y7, some (.ref U), y9, y10, x11, none, none, none] ∧ Same H8 H') ⟨_, _, _, rfl, Same.refl _⟩ (fun _ _ _ _ _ => trivial) ?_ ?_⟩
      · rintro j y σ Hy H9 hj ⟨y7, y9, y10, rfl, s9⟩ ⟨rfl, rfl⟩
        have hj' : j < X.length := by omega
        obtain ⟨⟨L1, R1⟩, hX1⟩ : ∃ w, X[j]? = some w := ⟨X[j], List.getElem?_eq_getElem hj'⟩
        obtain ⟨v1, hv1, q1, u1, w1, ev1, _, hq1, ⟨D1, xs1, eu1, _, hD1, pdD1⟩, ⟨r1, ys1, ew1, _, hr1, pdr1⟩⟩ := pget pdS hX1
        obtain ⟨vb1, hb1, p1, e1, hP1⟩ := pget pdB hX1
        obtain ⟨ok1, ok1'⟩ := okX _ (List.mem_of_getElem? hX1)
        subst ev1 eu1 ew1 e1
        repeat (first | refine ⟨_, rfl, ?_⟩ | refine ⟨_, _, rfl, rfl, ?_⟩ | refine ⟨_, _, rfl, ?_⟩ | refine ⟨rfl, ?_⟩)
        refine ⟨S, _, rfl, .inl (SqL.of (s9 _ _ hS8)), ?_⟩
        repeat (first | refine ⟨_, rfl, ?_⟩ | refine ⟨_, _, rfl, rfl, ?_⟩ | refine ⟨_, _, rfl, ?_⟩ | refine ⟨rfl, ?_⟩)
        refine ⟨by omega, by omega, for_it walk_range (fun g σ H' => ∃ y9 y10 : Option V, σ = [some (.ref l), some (.int (0 + (i : Nat))), some (.ref b), some (.ref D), some (.ref r), some (.ref S), y6, some (.int (0 + (j : Nat))), some (.ref U), y9, y10, x11, none, none, none] ∧ Same H8 H') ⟨_, _, rfl, s9⟩ (fun _ _ _ _ _ => trivial) ?_ ?_⟩
        · rintro g y σ Hy H10 hg ⟨y9, y10, rfl, s10⟩ ⟨rfl, rfl⟩
          have hg' : g < X.length := by omega
          obtain ⟨⟨L2, R2⟩, hX2⟩ : ∃ w, X[g]? = some w := ⟨X[g], List.getElem?_eq_getElem hg'⟩
          obtain ⟨v2, hv2, q2, u2, w2, ev2, _, hq2, ⟨D2, xs2, eu2, _, hD2, pdD2⟩, ⟨r2, ys2, ew2, _, hr2, pdr2⟩⟩ := pget pdS hX2
          obtain ⟨vb2, hb2, p2, e2, hP2⟩ := pget pdB hX2
          obtain ⟨ok2, ok2'⟩ := okX _ (List.mem_of_getElem? hX2)
          subst ev2 eu2 ew2 e2
          repeat (first | refine ⟨_, rfl, ?_⟩ | refine ⟨_, _, rfl, rfl, ?_⟩ | refine ⟨_, _, rfl, ?_⟩ | refine ⟨rfl, ?_⟩)
          refine ⟨S, _, _, _, rfl, rfl, SqL.of (s10 _ _ hS8), (by rw [Int.zero_add]; exact atI_nat hv1), ?_⟩
          refine ⟨q1, _, (0 : Int), _, rfl, rfl, SqL.of (s10 _ _ hq1), atI_nat (j := 0) rfl, ?_⟩
          repeat (first | refine ⟨_, rfl, ?_⟩ | refine ⟨_, _, rfl, rfl, ?_⟩ | refine ⟨_, _, rfl, ?_⟩ | refine ⟨rfl, ?_⟩)
          refine ⟨S, _, _, _, rfl, rfl, SqL.of (s10 _ _ hS8), (by rw [Int.zero_add]; exact atI_nat hv1), ?_⟩
          refine ⟨q1, _, (1 : Int), _, rfl, rfl, SqL.of (s10 _ _ hq1), atI_nat (j := 1) rfl, ?_⟩
          refine ⟨D1, r1, xs1, ys1, _, _, _, L1, R1, rfl, s10 _ _ hD1, Paired.mono (fun _ _ z => (pd_isVar z).same s10) pdD1, s10 _ _ hr1, Paired.mono (fun _ _ z => (pd_isRowS z).same s10) pdr1, ok1, ok1', fun l1 k1 es1 S1 H11 s11 nl1 hl1 hk1 pS1 sS1 => ?_⟩
          have t11 := s10.trans s11
          repeat (first | refine ⟨_, rfl, ?_⟩ | refine ⟨_, _, rfl, rfl, ?_⟩ | refine ⟨_, _, rfl, ?_⟩ | refine ⟨rfl, ?_⟩)
          refine ⟨S, _, _, _, rfl, rfl, SqL.of (t11 _ _ hS8), (by rw [Int.zero_add]; exact atI_nat hv2), ?_⟩
          refine ⟨q2, _, (0 : Int), _, rfl, rfl, SqL.of (t11 _ _ hq2), atI_nat (j := 0) rfl, ?_⟩
          repeat (first | refine ⟨_, rfl, ?_⟩ | refine ⟨_, _, rfl, rfl, ?_⟩ | refine ⟨_, _, rfl, ?_⟩ | refine ⟨rfl, ?_⟩)
          refine ⟨S, _, _, _, rfl, rfl, SqL.of (t11 _ _ hS8), (by rw [Int.zero_add]; exact atI_nat hv2), ?_⟩
          refine ⟨q2, _, (1 : Int), _, rfl, rfl, SqL.of (t11 _ _ hq2), atI_nat (j := 1) rfl, ?_⟩
          refine ⟨D2, r2, xs2, ys2, _, _, _, L2, R2, rfl, t11 _ _ hD2, Paired.mono (fun _ _ z => (pd_isVar z).same t11) pdD2, t11 _ _ hr2, Paired.mono (fun _ _ z => (pd_isRowS z).same t11) pdr2, ok2, ok2', fun l2 k2 es2 S2 H12 s12 nl2 hl2 hk2 pS2 sS2 => ?_⟩
          have t12 := t11.trans s12
          refine ⟨.list [.list (L1.map pairD), .list (S1.map rowD)], .list [.list (L2.map pairD), .list (S2.map rowD)],
            .lst (SqL.of (s12 _ _ hl1)) (.cons (.lst (SqL.of (t12 _ _ hD1)) (dp_all (f := pairD) (fun _ _ z => dp_pair ((pd_isVar z).same t12)) pdD1)) (.cons (.lst (SqL.of (s12 _ _ hk1)) (dp_all (fun _ _ z => dp_row (isRowL.same z s12)) pS1)) .nil)),
            .lst (SqL.of hl2) (.cons (.lst (SqL.of (t12 _ _ hD2)) (dp_all (f := pairD) (fun _ _ z => dp_pair ((pd_isVar z).same t12)) pdD2)) (.cons (.lst (SqL.of hk2) (dp_all (fun _ _ z => dp_row z) pS2)) .nil)),
            (Shd.list (k := 4) (allC (shd_le (shd_vars ok1) (by decide)) (all1 (shd_rows ok1 (okS ok1' sS1))))).shaped (by decide), (Shd.list (k := 4) (allC (shd_le (shd_vars ok2) (by decide)) (all1 (shd_rows ok2 (okS ok2' sS2))))).shaped (by decide), ?_⟩
          rw [eqv_two, eqv_mapI pairD eqv_pair2, eqv_mapI rowD eqv_row2]
          generalize hsame : (decide (L1 = L2) && decide (S1 = S2)) = same
          repeat (first | refine ⟨_, rfl, ?_⟩ | refine ⟨_, _, rfl, rfl, ?_⟩ | refine ⟨_, _, rfl, ?_⟩ | refine ⟨rfl, ?_⟩)
          refine ⟨U, _, _, _, rfl, rfl, SqL.of (t12 _ _ hU8), (by rw [Int.zero_add]; exact atI_nat hb1), ?_⟩
          repeat (first | refine ⟨_, rfl, ?_⟩ | refine ⟨_, _, rfl, rfl, ?_⟩ | refine ⟨_, _, rfl, ?_⟩ | refine ⟨rfl, ?_⟩)
          refine ⟨U, _, _, _, rfl, rfl, SqL.of (t12 _ _ hU8), (by rw [Int.zero_add]; exact atI_nat hb2), ?_⟩
          have hP1' : (sProb T.C_Problem).at [] H12 (.ref p1) (L1, R1) := Sh.go ⟨p1, rfl, hP1⟩ (Stp.of_same (m := []) t12) Sb.nil Sb.nil
          have hP2' : (sProb T.C_Problem).at [] H12 (.ref p2) (L2, R2) := Sh.go ⟨p2, rfl, hP2⟩ (Stp.of_same (m := []) t12) Sb.nil Sb.nil
          obtain ⟨_, e, hP1'⟩ := hP1'
          cases e
          obtain ⟨_, e, hP2'⟩ := hP2'
          cases e
          obtain ⟨dx1, fs1, hi1⟩ := hP1'.ins
          obtain ⟨dx2, fs2, hi2⟩ := hP2'.ins
          refine ⟨p1, dx1, fs1, _, rfl, hi1, T.ow_Problem.ty hi2, T.ow_Problem.nm, p1, .ref p2, _, _, L1, R1, S1, rfl, hP1', ok1, ok1', sS1, .inl ⟨p2, _, _, L2, R2, S2, rfl, hP2', ok2, ok2', sS2, ?_⟩⟩
          rw [hsame]
          repeat (first | refine ⟨_, rfl, ?_⟩ | refine ⟨_, _, rfl, rfl, ?_⟩ | refine ⟨_, _, rfl, ?_⟩ | refine ⟨rfl, ?_⟩)
          refine iteN (by simp) ?_
          repeat (first | refine ⟨_, rfl, ?_⟩ | refine ⟨_, _, rfl, rfl, ?_⟩ | refine ⟨_, _, rfl, ?_⟩ | refine ⟨rfl, ?_⟩)
          refine ⟨U, _, _, _, rfl, rfl, SqL.of (t12 _ _ hU8), (by rw [Int.zero_add]; exact atI_nat hb1), ?_⟩
          repeat (first | refine ⟨_, rfl, ?_⟩ | refine ⟨_, _, rfl, rfl, ?_⟩ | refine ⟨_, _, rfl, ?_⟩ | refine ⟨rfl, ?_⟩)
          refine ⟨U, _, _, _, rfl, rfl, SqL.of (t12 _ _ hU8), (by rw [Int.zero_add]; exact atI_nat hb2), ?_⟩
          refine ⟨p1, dx1, fs1, _, rfl, hi1, T.ow_Problem.ty hi2, T.ow_Problem.nm, p1, .ref p2, _, _, L1, R1, S1, rfl, hP1', ok1, ok1', sS1, .inl ⟨p2, _, _, L2, R2, S2, rfl, hP2', ok2, ok2', sS2, ?_⟩⟩
          rw [hsame]
          repeat (first | refine ⟨_, rfl, ?_⟩ | refine ⟨_, _, rfl, rfl, ?_⟩ | refine ⟨_, _, rfl, ?_⟩ | refine ⟨rfl, ?_⟩)
          refine iteN (by cases same <;> simp) ?_
          exact ⟨_, _, rfl, t12⟩
        · rintro σ H10 ⟨y9, y10, rfl, s10⟩
          exact ⟨_, _, _, rfl, s10⟩
      · rintro σ H9 ⟨y7, y9, y10, rfl, s9⟩
        repeat (first | refine ⟨_, rfl, ?_⟩ | refine ⟨_, _, rfl, rfl, ?_⟩ | refine ⟨_, _, rfl, ?_⟩ | refine ⟨rfl, ?_⟩)
        refine ⟨lenk 2 rfl (by decide), fun t1 nt1 => ?_⟩
        have k1 := s9.trans (Same.new (o := .tup [.ref D, .ref r]) nt1)
        have ht1 : upd H9 t1 (.tup [.ref D, .ref r]) t1 = some (.tup [.ref D, .ref r]) := upd_same
        generalize upd H9 t1 (.tup [.ref D, .ref r]) = H10 at k1 ht1
        have hX0 : X[0]? = some (L, R) := e0
        obtain ⟨vb0, hb0, p0, e, hP0⟩ := pget pdB hX0
        subst e
        repeat (first | refine ⟨_, rfl, ?_⟩ | refine ⟨_, _, rfl, rfl, ?_⟩ | refine ⟨_, _, rfl, ?_⟩ | refine ⟨rfl, ?_⟩)
        refine ⟨U, _, (0 : Int), _, rfl, rfl, SqL.of (k1 _ _ hU8), atI_nat (j := 0) hb0, ?_⟩
        have hP10 : (sProb T.C_Problem).at [] H10 (.ref p0) (L, R) := Sh.go ⟨p0, rfl, hP0⟩ (Stp.of_same (m := []) k1) Sb.nil Sb.nil
        obtain ⟨_, e, hP10⟩ := hP10
        cases e
        obtain ⟨dx0, fs0, hi0, hno⟩ := hP10.at'
        repeat (first | refine ⟨_, rfl, ?_⟩ | refine ⟨_, _, rfl, rfl, ?_⟩ | refine ⟨_, _, rfl, ?_⟩ | refine ⟨rfl, ?_⟩)
        refine ⟨p0, dx0, fs0, rfl, hi0, hno _ (by decide +kernel), ?_⟩
        repeat (first | refine ⟨_, rfl, ?_⟩ | refine ⟨_, _, rfl, rfl, ?_⟩ | refine ⟨_, _, rfl, ?_⟩ | refine ⟨rfl, ?_⟩)
        refine ⟨p0, _, _, L, R, rfl, hP10, fun vl H11 s11 nvl ⟨xl, hvl⟩ => ?_⟩
        have k2 := k1.trans s11
        repeat (first | refine ⟨_, rfl, ?_⟩ | refine ⟨_, _, rfl, rfl, ?_⟩ | refine ⟨_, _, rfl, ?_⟩ | refine ⟨rfl, ?_⟩)
        refine fun dd ndd => ?_
        have k3 := k2.trans (Same.new (o := .dK []) ndd)
        have hdd : upd H11 dd (.dK []) dd = some (.dK []) := upd_same
        have hvl' : upd H11 dd (.dK []) vl = some (.lst xl) := Same.new ndd _ _ hvl
        have ht1' : upd H11 dd (.dK []) t1 = some (.tup [.ref D, .ref r]) := Same.new ndd _ _ (s11 _ _ ht1)
        generalize upd H11 dd (.dK []) = H12 at k3 hdd hvl' ht1'
        repeat (first | refine ⟨_, rfl, ?_⟩ | refine ⟨_, _, rfl, rfl, ?_⟩ | refine ⟨_, _, rfl, ?_⟩ | refine ⟨rfl, ?_⟩)
        refine ⟨lenk 9 rfl (by decide), fun vv nvv => ?_⟩
        have k4 := k3.trans (Same.new (o := .lst [V.non, .int 0, .bl true, .str (Str.ofString "problem"), .ref D, .ref r, .ref t1, .ref vl, .ref dd]) nvv)
        have s12 : Same H12 _ := Same.new (o := .lst [V.non, .int 0, .bl true, .str (Str.ofString "problem"), .ref D, .ref r, .ref t1, .ref vl, .ref dd]) nvv
        have hvv : upd H12 vv (.lst [V.non, .int 0, .bl true, .str (Str.ofString "problem"), .ref D, .ref r, .ref t1, .ref vl, .ref dd]) vv = some (.lst [V.non, .int 0, .bl true, .str (Str.ofString "problem"), .ref D, .ref r, .ref t1, .ref vl, .ref dd]) := upd_same
        generalize upd H12 vv (.lst [V.non, .int 0, .bl true, .str (Str.ofString "problem"), .ref D, .ref r, .ref t1, .ref vl, .ref dd]) = HF at k4 s12 hvv
        have hPF : (sProb T.C_Problem).at [] HF (.ref p0) (L, R) := Sh.go ⟨p0, rfl, hP0⟩ (Stp.of_same (m := []) k4) Sb.nil Sb.nil
        obtain ⟨_, e, hPF⟩ := hPF
        cases e
        obtain ⟨dxF, fsF, hiF⟩ := hPF.ins
        obtain ⟨SF, sSF⟩ := hPF.srt
        have hDl : ∃ xl, HF D = some (.lst xl) := by
          obtain ⟨xs', h⟩ := hDr0.1
          exact ⟨xs', k4 _ _ h⟩
        have hrl : ∃ xl, HF r = some (.lst xl) := by
          obtain ⟨xs', h⟩ := hDr0.2
          exact ⟨xs', k4 _ _ h⟩
        obtain ⟨xD, hxD⟩ := hDl
        obtain ⟨xr, hxr⟩ := hrl
        have tys : ∀ x ∈ [V.non, .int 0, .bl true, .str (Str.ofString "problem"), .ref D, .ref r, .ref t1, .ref vl, .ref dd], ∃ n ∈ tyNames, TyX K HF x (.type n) := fun x hx => by
          simp only [List.mem_cons, List.not_mem_nil, or_false] at hx
          rcases hx with e | e | e | e | e | e | e | e | e <;> subst e
          · exact ⟨"NoneType", by decide, .base .non⟩
          · exact ⟨"int", by decide, .base (.int _)⟩
          · exact ⟨"bool", by decide, .base (.bl _)⟩
          · exact ⟨"str", by decide, .base (.str _)⟩
          · exact ⟨"list", by decide, .base (.lst hxD)⟩
          · exact ⟨"list", by decide, .base (.lst hxr)⟩
          · exact ⟨"tuple", by decide, .base (.tup (s12 _ _ ht1'))⟩
          · exact ⟨"list", by decide, .base (.lst (s12 _ _ hvl'))⟩
          · exact ⟨"dict", by decide, .base (.dK (s12 _ _ hdd))⟩
        have hUF := k4 _ _ hU8
        refine ⟨vv, rfl, ⟨_, SqL.of hvv⟩, ?_⟩
        refine for_it (walk_list (K := K) (a := vv) (xs := [V.non, .int 0, .bl true, .str (Str.ofString "problem"), .ref D, .ref r, .ref t1, .ref vl, .ref dd])) (fun j σ H' => ∃ y11 : Option V, σ = [some (.ref l), some (.int (0 + (i : Nat))), some (.ref b), some (.ref D), some (.ref r), some (.ref S), y6, y7, some (.ref U), y9, y10, y11, none, none, none] ∧ H' = HF) ⟨_, rfl, rfl⟩ (fun j σ H' _ ⟨_, _, e⟩ => by rw [e]; exact SqL.of hvv) ?_ ?_
        · rintro j x σ Hx Hy hj ⟨y11, rfl, rfl⟩ ⟨rfl, hx⟩
          obtain ⟨n, hn, ty⟩ := tys x (List.mem_of_getElem? hx)
          repeat (first | refine ⟨_, rfl, ?_⟩ | refine ⟨_, _, rfl, rfl, ?_⟩ | refine ⟨_, _, rfl, ?_⟩ | refine ⟨rfl, ?_⟩)
          refine ⟨U, _, (0 : Int), _, rfl, rfl, SqL.of hUF, atI_nat (j := 0) hb0, ?_⟩
          repeat (first | refine ⟨_, rfl, ?_⟩ | refine ⟨_, _, rfl, rfl, ?_⟩ | refine ⟨_, _, rfl, ?_⟩ | refine ⟨rfl, ?_⟩)
          refine ⟨p0, dxF, fsF, _, rfl, hiF, ty, T.ow_Problem.nf n hn, p0, x, _, _, L, R, SF, rfl, hPF, okL, okR, sSF, .inr ⟨_, ty, T.ow_Problem.fr n hn, ?_⟩⟩
          repeat (first | refine ⟨_, rfl, ?_⟩ | refine ⟨_, _, rfl, rfl, ?_⟩ | refine ⟨_, _, rfl, ?_⟩ | refine ⟨rfl, ?_⟩)
          refine ⟨U, _, (0 : Int), _, rfl, rfl, SqL.of hUF, atI_nat (j := 0) hb0, ?_⟩
          repeat (first | refine ⟨_, rfl, ?_⟩ | refine ⟨_, _, rfl, rfl, ?_⟩ | refine ⟨_, _, rfl, ?_⟩ | refine ⟨rfl, ?_⟩)
          refine ⟨p0, dxF, fsF, _, rfl, hiF, ty, T.ow_Problem.nf n hn, p0, x, _, _, L, R, SF, rfl, hPF, okL, okR, sSF, .inr ⟨_, ty, T.ow_Problem.fr n hn, ?_⟩⟩
          repeat (first | refine ⟨_, rfl, ?_⟩ | refine ⟨_, _, rfl, rfl, ?_⟩ | refine ⟨_, _, rfl, ?_⟩ | refine ⟨rfl, ?_⟩)
          first | rfl | exact ⟨_, rfl, rfl⟩
        · rintro σ H' ⟨y11, rfl, rfl⟩
          exact ⟨S8.trans k4, _, _, _, _, _, _, _, _, _, _, _, rfl⟩
    exact q _

end K09
namespace K09
open PySem PySem.Spec PyProof.Rows L2 TL
theorem facts {w : World} {K : PySem.W.Frag} {h : Heap} {mg : Str → Option Value} {f : Addr} (X : K.In h) (G : h.Ns mainGlobals mg) (hfa : mg ("law" : Str) = some (.ref f)) (c : PySem.EXV.SaysX file tests fa fn exs K) :
    ∃ fd : FuncData, (∀ (s : Shared) (v : Value), BindsTo s fd ⟨[v], []⟩ [("_law_script", v)]) ∧ ∀ base : Heap, K.In base → base.Ns mainGlobals mg → FnOk R.prog w K mg base CX0 8 f fd ["_law_script"] (sp_law K) := by
  obtain ⟨fd0, F0⟩ := c.def_ 0 (d := d_is_list) rfl
  obtain ⟨fd1, F1⟩ := c.def_ 1 (d := d_check_distinct) rfl
  obtain ⟨fd2, F2⟩ := c.def_ 2 (d := d_is_name) rfl
  obtain ⟨fd3, F3⟩ := c.def_ 3 (d := d_is_any_integer) rfl
  obtain ⟨fd4, F4⟩ := c.def_ 4 (d := d_is_integer) rfl
  obtain ⟨fd5, F5⟩ := c.def_ 5 (d := d_Problem_init) rfl
  obtain ⟨fd6, F6⟩ := c.def_ 6 (d := d_Problem_eq) rfl
  obtain ⟨fd7, F7⟩ := c.def_ 7 (d := d_Problem_variables) rfl
  obtain ⟨fd8, F8⟩ := c.def_ 8 (d := d__neighbors_of) rfl
  obtain ⟨fd9, F9⟩ := c.def_ 9 (d := d__are_values) rfl
  obtain ⟨fd10, F10⟩ := c.def_ 10 (d := d__check_variables) rfl
  obtain ⟨fd11, F11⟩ := c.def_ 11 (d := d__is_variable_row) rfl
  obtain ⟨fd12, F12⟩ := c.def_ 12 (d := d__check_events) rfl
  obtain ⟨fd13, F13⟩ := c.def_ 13 (d := d__is_event_row) rfl
  obtain ⟨fd14, F14⟩ := c.def_ 14 (d := d__check_scope) rfl
  obtain ⟨fd15, F15⟩ := c.def_ 15 (d := d__check_variable) rfl
  obtain ⟨fd16, F16⟩ := c.def_ 16 (d := d__are_bad_tuples) rfl
  obtain ⟨fd17, F17⟩ := c.def_ 17 (d := d_l_cell) rfl
  obtain ⟨fd18, F18⟩ := c.def_ 18 (d := d_l_bag) rfl
  obtain ⟨fd19, F19⟩ := c.def_ 19 (d := d_l_take) rfl
  obtain ⟨fd20, F20⟩ := c.def_ 20 (d := d_l_names) rfl
  obtain ⟨fd21, F21⟩ := c.def_ 21 (d := d_l_scope) rfl
  obtain ⟨fd22, F22⟩ := c.def_ 22 (d := d_l_tuples) rfl
  obtain ⟨fd23, F23⟩ := c.def_ 23 (d := d_l_parts) rfl
  obtain ⟨fd24, F24⟩ := c.def_ 24 (d := d_l_key) rfl
  obtain ⟨fd25, F25⟩ := c.def_ 25 (d := d_l_fresh) rfl
  obtain ⟨fd26, F26⟩ := c.def_ 26 (d := d_l_other_variables) rfl
  obtain ⟨fd27, F27⟩ := c.def_ 27 (d := d_l_other_events) rfl
  obtain ⟨fd28, F28⟩ := c.def_ 28 (d := d_law) rfl
  have e := hfa.symm.trans (He.glo_ok X G (c.fact 25 (f := .glo "law") rfl))
  cases e
  have b := FunD.bindsA (ps := ["_law_script"]) F28 fun _ _ _ _ _ _ us hl => match us, hl with | [_], _ => rfl
  let T : Txt R.prog K mg := {
    C_Problem := _, g_Problem := He.glo_ok X G (c.fact 26 (f := .glo "Problem") rfl),
    f_is_list := _, fd_is_list := fd0, F_is_list := F0, g_is_list := He.glo_ok X G (c.fact 0 (f := .glo "is_list") rfl),
    f_check_distinct := _, fd_check_distinct := fd1, F_check_distinct := F1, g_check_distinct := He.glo_ok X G (c.fact 1 (f := .glo "check_distinct") rfl),
    f_is_name := _, fd_is_name := fd2, F_is_name := F2, g_is_name := He.glo_ok X G (c.fact 2 (f := .glo "is_name") rfl),
    f_is_any_integer := _, fd_is_any_integer := fd3, F_is_any_integer := F3, g_is_any_integer := He.glo_ok X G (c.fact 3 (f := .glo "is_any_integer") rfl),
    f_is_integer := _, fd_is_integer := fd4, F_is_integer := F4, g_is_integer := He.glo_ok X G (c.fact 4 (f := .glo "is_integer") rfl),
    f_Problem_init := _, fd_Problem_init := fd5, F_Problem_init := F5,
    f_Problem_eq := _, fd_Problem_eq := fd6, F_Problem_eq := F6, m_Problem_eq := He.meth_ok (c.fact 27 (f := .meth "Problem" "__eq__") rfl),
    f_Problem_variables := _, fd_Problem_variables := fd7, F_Problem_variables := F7, m_Problem_variables := He.meth_ok (c.fact 28 (f := .meth "Problem" "variables") rfl),
    f__neighbors_of := _, fd__neighbors_of := fd8, F__neighbors_of := F8, g__neighbors_of := He.glo_ok X G (c.fact 5 (f := .glo "_neighbors_of") rfl),
    f__are_values := _, fd__are_values := fd9, F__are_values := F9, g__are_values := He.glo_ok X G (c.fact 6 (f := .glo "_are_values") rfl),
    f__check_variables := _, fd__check_variables := fd10, F__check_variables := F10, g__check_variables := He.glo_ok X G (c.fact 7 (f := .glo "_check_variables") rfl),
    f__is_variable_row := _, fd__is_variable_row := fd11, F__is_variable_row := F11, g__is_variable_row := He.glo_ok X G (c.fact 8 (f := .glo "_is_variable_row") rfl),
    f__check_events := _, fd__check_events := fd12, F__check_events := F12, g__check_events := He.glo_ok X G (c.fact 9 (f := .glo "_check_events") rfl),
    f__is_event_row := _, fd__is_event_row := fd13, F__is_event_row := F13, g__is_event_row := He.glo_ok X G (c.fact 10 (f := .glo "_is_event_row") rfl),
    f__check_scope := _, fd__check_scope := fd14, F__check_scope := F14, g__check_scope := He.glo_ok X G (c.fact 11 (f := .glo "_check_scope") rfl),
    f__check_variable := _, fd__check_variable := fd15, F__check_variable := F15, g__check_variable := He.glo_ok X G (c.fact 12 (f := .glo "_check_variable") rfl),
    f__are_bad_tuples := _, fd__are_bad_tuples := fd16, F__are_bad_tuples := F16, g__are_bad_tuples := He.glo_ok X G (c.fact 13 (f := .glo "_are_bad_tuples") rfl),
    f_l_cell := _, fd_l_cell := fd17, F_l_cell := F17, g_l_cell := He.glo_ok X G (c.fact 14 (f := .glo "_law_cell") rfl),
    f_l_bag := _, fd_l_bag := fd18, F_l_bag := F18, g_l_bag := He.glo_ok X G (c.fact 15 (f := .glo "_law_bag") rfl),
    f_l_take := _, fd_l_take := fd19, F_l_take := F19, g_l_take := He.glo_ok X G (c.fact 16 (f := .glo "_law_take") rfl),
    f_l_names := _, fd_l_names := fd20, F_l_names := F20, g_l_names := He.glo_ok X G (c.fact 17 (f := .glo "_law_names") rfl),
    f_l_scope := _, fd_l_scope := fd21, F_l_scope := F21, g_l_scope := He.glo_ok X G (c.fact 18 (f := .glo "_law_scope") rfl),
    f_l_tuples := _, fd_l_tuples := fd22, F_l_tuples := F22, g_l_tuples := He.glo_ok X G (c.fact 19 (f := .glo "_law_tuples") rfl),
    f_l_parts := _, fd_l_parts := fd23, F_l_parts := F23, g_l_parts := He.glo_ok X G (c.fact 20 (f := .glo "_law_parts") rfl),
    f_l_key := _, fd_l_key := fd24, F_l_key := F24, g_l_key := He.glo_ok X G (c.fact 21 (f := .glo "_law_key") rfl),
    f_l_fresh := _, fd_l_fresh := fd25, F_l_fresh := F25, g_l_fresh := He.glo_ok X G (c.fact 22 (f := .glo "_law_fresh") rfl),
    f_l_other_variables := _, fd_l_other_variables := fd26, F_l_other_variables := F26, g_l_other_variables := He.glo_ok X G (c.fact 23 (f := .glo "_law_other_variables") rfl),
    f_l_other_events := _, fd_l_other_events := fd27, F_l_other_events := F27, g_l_other_events := He.glo_ok X G (c.fact 24 (f := .glo "_law_other_events") rfl),
    f_law := _, fd_law := fd28, F_law := F28, g_law := He.glo_ok X G (c.fact 25 (f := .glo "law") rfl),
    cl_Problem := He.cls_ok (c.fact 46 (f := .cls "Problem") rfl),
    mk_Problem := He.mkr_ok (c.fact 47 (f := .mkr "Problem") rfl),
    na_Problem__variables := He.noat_ok (c.fact 48 (f := .noat "Problem" "_variables") rfl),
    na_Problem__sizes := He.noat_ok (c.fact 49 (f := .noat "Problem" "_sizes") rfl),
    na_Problem__places := He.noat_ok (c.fact 50 (f := .noat "Problem" "_places") rfl),
    na_Problem__events := He.noat_ok (c.fact 51 (f := .noat "Problem" "_events") rfl),
    na_Problem__scopes := He.noat_ok (c.fact 52 (f := .noat "Problem" "_scopes") rfl),
    na_Problem__bad_tuples := He.noat_ok (c.fact 53 (f := .noat "Problem" "_bad_tuples") rfl),
    na_Problem__neighbors := He.noat_ok (c.fact 54 (f := .noat "Problem" "_neighbors") rfl),
    ow_Problem := ownB_ok (c.test 0 (b := (fun K => ownB K "Problem")) rfl),
    n_all := He.free_ok X G (c.fact 29 (f := .free "all") rfl),
    n_any := He.free_ok X G (c.fact 30 (f := .free "any") rfl),
    n_bool := He.free_ok X G (c.fact 31 (f := .free "bool") rfl),
    n_dict := He.free_ok X G (c.fact 32 (f := .free "dict") rfl),
    n_enumerate := He.free_ok X G (c.fact 33 (f := .free "enumerate") rfl),
    n_int := He.free_ok X G (c.fact 34 (f := .free "int") rfl),
    n_isinstance := He.free_ok X G (c.fact 35 (f := .free "isinstance") rfl),
    n_len := He.free_ok X G (c.fact 36 (f := .free "len") rfl),
    n_list := He.free_ok X G (c.fact 37 (f := .free "list") rfl),
    n_max := He.free_ok X G (c.fact 38 (f := .free "max") rfl),
    n_min := He.free_ok X G (c.fact 39 (f := .free "min") rfl),
    n_range := He.free_ok X G (c.fact 40 (f := .free "range") rfl),
    n_set := He.free_ok X G (c.fact 41 (f := .free "set") rfl),
    n_sorted := He.free_ok X G (c.fact 42 (f := .free "sorted") rfl),
    n_str := He.free_ok X G (c.fact 43 (f := .free "str") rfl),
    n_tuple := He.free_ok X G (c.fact 44 (f := .free "tuple") rfl),
    n_zip := He.free_ok X G (c.fact 45 (f := .free "zip") rfl),
    e0 := _, t_e0 := PySem.EXV.isEB_ok (c.test 3 (b := (fun K => PySem.EXV.isEB K (He.dflAt ("Problem", some "__init__") 0 K))) rfl),
    c_MOST_VARIABLES := PySem.EXV.conB_ok X G (c.test 1 (b := (PySem.EXV.conB "MOST_VARIABLES" 8)) rfl),
    c_MOST_EVENTS := PySem.EXV.conB_ok X G (c.test 2 (b := (PySem.EXV.conB "MOST_EVENTS" 8)) rfl) }
  exact ⟨fd28, fun s v => b s [v] rfl, fun base _ _ => ok_law T⟩

end K09
open PySem PySem.W PySem.Calls PyProof.Rows
set_option maxRecDepth 100000 in
set_option maxHeartbeats 0 in
theorem PySem.Challenge.cw_resampler_k09_problems_equal_holds : PySem.Challenge.rw_resampler_k09_problems_equal.Holds := by
  w_on; o_law
  refine HandSHeadRun.head_any (r := OpenLaw.row PySem.Challenge.rw_resampler_k09_problems_equal) (q := view (OpenLaw.row PySem.Challenge.rw_resampler_k09_problems_equal).prog [41]) (H := K09.hk) (ob := K09.ob) (M := 8000) (loose := K09.loose) (d := HandSHeadRun.topDef (OpenLaw.row PySem.Challenge.rw_resampler_k09_problems_equal).prog 41) (kwd := []) K09.ob_eq
    (by kernel_rfl) (fun s => by kernel_rfl) K09.run (by kernel_rfl) (by kernel_rfl) (by kernel_rfl) (by rfl) (by first | assumption | decide +kernel) (by decide +kernel) ⟨rfl, rfl, rfl, rfl, rfl, by decide +kernel⟩ ?hw ?hc
  case hw => w_witness2
  case hc =>
    refine L2.walk_ofE (l := PySem.Challenge.rw_resampler_k09_problems_equal) (n := 63) (k := 8) (x := "_law_script") (CX := L2.CX0) rfl (by decide) (by kernel_rfl) ⟨rfl, by decide, by decide⟩ ?F (fun _ _ _ _ z => z)
    intro w mg fa h Y G hmg0
    obtain ⟨K, KX, c⟩ := Y
    have hmg : mg ("law" : PySem.Str) = some (.ref fa) := by
      have e : (HandSHeadRun.topDef (OpenLaw.row PySem.Challenge.rw_resampler_k09_problems_equal).prog 41).name = ("law" : PySem.Str) := by kernel_rfl
      rw [← e]
      exact hmg0
    obtain ⟨fd, hb, hF⟩ := K09.facts (w := w) KX G hmg c
    exact ⟨K, fd, K09.sp_law K, KX, hb, fun H a ns hl _ hS => ⟨a, ns, rfl, hS, hl, fun _ => rfl⟩, hF⟩

