import PyProof.Rows.All
import Wide.All
import OpenK.AllK
import Wide.FinOn
import KE.KStateDown
import HandS.ForMost
import HandS.WordsExc
import HandS.Defaults
import HandS.MakeKwOnly
import HandS.IsInst
import HandS.StrMore
import HandS.Wide
import HandS.Walk
import HandS.Evl
import HandS.Head0
import HandS.Head1
import HandS.Head2
import HandS.HeadEnd
import HandS.HeadHook1
import HandS.HeadHook2
import HandS.Style
import HandS.DictComp
import HandS.Deep
import HandS.Gcd
import HandS.FStr
import HandS.OwnEq
import HandS.Small
import HandS.Head3
import HandS.Rev
import PySem.Challenge.RW_resampler_k13_overlaps
import KE.KExcSuper
import KE.KExcInit
import PyProof.ExcBaseAll.LookupError
import HandS.ForExc
import HandS.HeadWalk
import HandS.ExcField
import HandS.TryMany
import PyProof.Rows.FactsExc_KeyError
import HandS.Ends
import PyProof.ReprRoads
import PyProof.CallFns
import KE.KCallOwn
import KE.KFmtOwn
import PyProof.InstNe
import PyProof.ReprLen
import HandS.Iter
import KE.GoesMore
import HandS.TupSets
import PyProof.FactsLen
import KE.GoesZip
import HandS.Conv
import HandS.ExcOwn
import PyProof.EqKinds
import PyProof.FactsAll.dict_1
import HandS.List
import HandS.ListItems
import KE.KDictList
import HandS.TupAny
import HandS.Dict
import PyProof.DictUpdate
import KE.KDictZip
import PyProof.Rows.SetFrom
import PyProof.SetRoads
import HandS.Finally
import KE.KEqNest
import KE.DataMinMax
import PyProof.NeData
set_option Elab.async false
set_option linter.all false
set_option maxRecDepth 100000
set_option maxHeartbeats 0
/-! Own error classes over any base: own classes, then the base's mro. -/
namespace PySem
namespace EXV
open PySem.W PySem.Calls PyProof.Rows PySem.HandSPX Builtin Builtin.ObjectAttr
/-- own classes, then the list T -/
def refsT (T : List Value) : List Value → Bool
  | .ref c :: r => refsT T r || (Value.ref c :: r == T)
  | l => l == T
/-- the base: its facts, its tail -/
structure BaseX (B nw ini : String) (T : List Value) : Prop where
  own : ∀ {prog : Program} {w : World} {A : Around} {R : Result → Shared → Prop} {hp : Heap} {gs : Array GenState} {dr : Drawn} {tk : Nat} {os : OsState} {nm qn : Str} {C N fI : Addr} {bs bm sub rest : List Value}
    {hdct ab : Bool} {sn : List Str} {col : Option Bool} {dd : Option Addr} {k0 k1 k2 k3 k5 : Option Value}, (∀ X : String, bm.contains (.type X) = T.contains (.type X)) →
    hp.get? C = some (excClassObj nm qn C N bs bm hdct sn sub ab col dd k0 k1 k2 k3 k5 nw) → W.Looks (model prog w) hp (typeLookup (.ref C) "__init__") (some (.ref fI)) →
    (∀ self, W.Looks (model prog w) hp (bindSpecial (.ref fI) self) (.ref fI, [self])) → rest.length ≤ sizeLine →
    codeAny (model prog w) (A.under (.builtin "type.__call__" ⟨.ref C :: rest, []⟩)) (.call (.ref fI) ⟨.ref (hp.objs.size + 1) :: rest, []⟩) (W.InitBack (hp.objs.size + 1) R) ⟨(hp.push (W.kdv_tup rest)).push (excO C hp.objs.size), gs, dr, tk, os⟩ →
    codeAny (model prog w) A (.call (.ref C) ⟨rest, []⟩) R ⟨hp, gs, dr, tk, os⟩
  sup : ∀ {prog : Program} {w : World} {A : Around} {E : Value → Shared → Prop} {s : Shared} {h₀ : Heap} {L : Addr} {m : Str → Option Value} {news : List (Addr × Obj)} {K : Frag} {x C u t : Addr} {dv : Option Addr} {c2 : Value}
    {rest : List Value} {nws : Obj → List (Addr × Obj)} {Q : Value → Shared → Prop}, Fr h₀ L s.heap m → K.In h₀ → News h₀ L s.heap news → excInitIn K C T nw = true → (u, kxs_mw ini x) ∈ news → UpdF x (excObj C t dv c2) news nws →
    rest.length ≤ sizeLine → (∀ t' h', Fr h₀ L h' m → News h₀ L h' ((t', excTup rest) :: nws (excObj C t' dv c2)) → (∀ p ∈ news, p.1 < t') → Q .none { s with heap := h' }) → wpAny (model prog w) A (call (.ref u) rest) Q E s
  kx : KxsFacts B ini
  pass : ∀ self, refuseLoop self "__setattr__" T = pure ()
  obj : T.contains (.type "object") = true
  typ : ∀ c r, T ≠ .ref c :: r
  ne : T ≠ []
theorem refsT_cases {T : List Value} (ht : ∀ c r, T ≠ .ref c :: r) (hn : T ≠ []) : ∀ l : List Value, refsT T l = true → (∃ c r, l = .ref c :: r ∧ refsT T r = true) ∨ l = T := by
  intro l h
  cases l with
  | nil => exact .inr (beq_iff_eq.mp h)
  | cons a r =>
    cases a with
    | ref c =>
      rcases Bool.or_eq_true_iff.mp h with h | h
      · exact .inl ⟨c, r, rfl, h⟩
      · exact .inr (beq_iff_eq.mp h)
    | _ => exact .inr (beq_iff_eq.mp h)
theorem refsT_ne {T l : List Value} (hn : T ≠ []) (h : refsT T l = true) : l.isEmpty = false := by
  cases l with
  | nil => exact absurd (beq_iff_eq.mp h).symm hn
  | cons a r => rfl
section
variable {B nw ini : String} {T : List Value} (b : BaseX B nw ini T)
include b
theorem BaseX.passAll (self : Value) : ∀ l : List Value, refsT T l = true → refuseLoop self "__setattr__" l = pure ()
  | [], h => absurd (beq_iff_eq.mp h).symm b.ne
  | a :: r, h => by
    rcases refsT_cases b.typ b.ne (a :: r) h with ⟨c, r', q, h'⟩ | q
    · obtain ⟨rfl, rfl⟩ := List.cons.inj q
      rw [refuseLoop_ref]
      exact BaseX.passAll self r h'
    · rw [q]; exact b.pass self
theorem BaseX.contains (X : String) : ∀ l : List Value, refsT T l = true → l.contains (.type X) = T.contains (.type X)
  | [], h => absurd (beq_iff_eq.mp h).symm b.ne
  | a :: r, h => by
    rcases refsT_cases b.typ b.ne (a :: r) h with ⟨c, r', q, h'⟩ | q
    · obtain ⟨rfl, rfl⟩ := List.cons.inj q
      rw [List.contains_cons, BaseX.contains X r h']
      rfl
    · rw [q]
end
theorem base_ValueError : BaseX "ValueError" "ValueError.__new__" "ValueError.__init__" [.type "ValueError", .type "Exception", .type "BaseException", .type "object"] :=
  ⟨fun hT => call_own PySem.F.excBase_ValueError hT, fun F X N q => kxs_call F X N PySem.F.excBase_ValueError q, kxs_ValueError, PySem.F.store_ValueError.passes, by decide +kernel, (fun _ _ h => nomatch h), (fun h => nomatch h)⟩
theorem base_LookupError : BaseX "LookupError" "LookupError.__new__" "LookupError.__init__" [.type "LookupError", .type "Exception", .type "BaseException", .type "object"] :=
  ⟨fun hT => call_own PySem.F.excBase_LookupError hT, fun F X N q => kxs_call F X N PySem.F.excBase_LookupError q, kxs_LookupError, PySem.F.store_LookupError.passes, by decide +kernel, (fun _ _ h => nomatch h), (fun h => nomatch h)⟩
section
variable {prog : Program} {w : World} {A : Around} {E : Value → Shared → Prop} {R : Result → Shared → Prop} {hp : Heap} {g : Array GenState} {d : Drawn} {t : Nat} {os : OsState} {B nw ini : String} {T : List Value}
/-- x.name = v, x an own exception without a dict -/
theorem exc_osaT (b : BaseX B nw ini T) {K : W.Frag} {name : Str} {tk : Tok} {v : Value} {x C : Addr} {fv : Array Value} {cd : ClassData}
    (X : K.In hp) (hx : hp.get? x = some { cls := .ref C, data := .fields fv }) (hcd : W.clsIn K C = some cd) (hm : refsT T cd.mro = true) (hh : cd.hasDict = true) (ha : W.findIn K (.ref C) name = some none)
    (hq : ∀ h' tk' dx, (∀ b o, b ≠ x → hp.get? b = some o → h'.get? b = some o) → hp.objs.size ≤ dx → dx ≠ x → h'.get? x = some { cls := .ref C, dict := some dx, data := .fields fv } →
      h'.Ns1 dx (fun y => if y = name then some v else none) → R (.ok (.ret .none)) ⟨h', g, d, tk', os⟩) :
    codeAny (model prog w) A (.call (.builtin "object.__setattr__") ⟨[.ref x, .str name tk, v], []⟩) R ⟨hp, g, d, t, os⟩ := by
  have I : W.InstAt hp x { cls := .ref C, data := .fields fv } C none := ⟨hx, rfl, rfl, trivial⟩
  have SF := PySem.F.store_object
  have ne := refsT_ne b.ne hm
  have hob : cd.mro.contains (.type "object") = true := (b.contains "object" _ hm).trans b.obj
  have hxs : x ≠ hp.objs.size := Nat.ne_of_lt (Heap.lt_size hx)
  have sub : W.Looks (model prog w) hp (isInstance (.ref x) (.type "object")) true := I.type.andThen (W.looks_mroIn X (by unfold W.mroIn; rw [hcd, Option.bind_some, if_neg (by rw [ne]; decide), hob]))
  refine codeAny_call_builtin SF.slot.plain SF.entry (@W.check_slot (model prog w) _ _ ⟨hp, g, d, t, os⟩ "object.__setattr__" "object" "__setattr__" (.ref x) [.str name tk, v] [] _ SF.kind SF.split sub (SF.args (.ref x) (.str name tk) v) ?_)
  have hmr : W.Looks (model prog w) hp (mroOf (.ref C)) cd.mro := (W.looks_clsIn X hcd).andThen .now
  have L3 : W.Looks (model prog w) hp (storeTaker? none) none := .now
  have hcls : W.Looks (model prog w) hp (classData C) cd := W.looks_clsIn X hcd
  rw [W.osa_eq, refuse_eq]
  refine wpAny_bind (wpAny_bind (I.type.at (wpAny_bind (hmr.at ?_))))
  rw [b.passAll _ _ hm]
  refine wpAny_pure (wpAny_bind (I.type.at (wpAny_bind ((W.looks_findIn X ha).at (wpAny_bind (L3.at ?_))))))
  show wpAny _ _ (storeInOwnDict (.ref x) (.ref C) (.str name tk) name v false) _ _ _
  obtain ⟨nm, bs, mro, ns, qn, hd, sn, sb, ab, col, del⟩ := cd
  dsimp only at hh
  subst hh
  unfold storeInOwnDict ownDictForStores
  repeat (first | with_reducible refine store_in_new ?_ ?_ | with_reducible refine wpAny_loadPart_at hx ?_ | with_reducible refine hcls.at ?_ | wp_step)
  · exact ⟨_, #[], _, (Heap.get?_update_ne _ _ _ _ hxs.symm).trans (Heap.get?_push_at rfl rfl), rfl, fun e he => absurd he (by simp), fun _ => rfl⟩
  · intro h' tk' hn' hs
    have hx₁ : (hp.push { cls := .type "dict", data := .dict #[] }).get? x = some { cls := .ref C, data := .fields fv } := Heap.get?_push_of_some _ hx
    refine hq h' tk' hp.objs.size (fun b o hb ho => ?_) (Nat.le_refl _) hxs.symm ?_ hn'
    · exact (hs.2 b (Nat.ne_of_lt (Heap.lt_size ho))).trans ((Heap.get?_update_ne _ _ _ _ hb).trans (Heap.get?_push_of_some _ ho))
    · exact (hs.2 x hxs).trans (Heap.get?_update_self _ hx₁ rfl)
end
end EXV
end PySem

/-! An own error class (over own error classes over ValueError) whose __init__ says super().__init__(a text) and then self.FLD = FLD. -/
namespace PySem
namespace EXV
open PySem.W PySem.Calls PyProof.Rows PySem.HandSPX
/-- the text of such an __init__ -/
def xBody (fld txt : Str) (k : Nat) (p : Nat → Pos) : List Stmt :=
  [.Expr (.Call (.Attribute (.Call (.Name "super" (p 0)) [] [] (p 1)) "__init__" (p 2)) [.Constant (.str txt) k (p 3)] [] (p 4)) (p 5),
   .Assign [.Attribute (.Name "self" (p 6)) fld (p 7)] (.Name fld (p 8)) (p 9)]
def xArgs (fld : Str) (p1 p2 : Pos) : Arguments := { posonlyargs := [], args := [{ arg := "self", annotation := none, pos := p1 }, { arg := fld, annotation := none, pos := p2 }], vararg := none, kwonlyargs := [], kw_defaults := [], kwarg := none, defaults := [] }
def xScope (fld : Str) : Scope := { kind := .function, names := [(PySem.Str.ofString "self", .local), (fld, .local), (PySem.Str.ofString "__class__", .free), (PySem.Str.ofString "super", .globalImplicit)], isGenerator := false, isCoroutine := false }
/-- what the written part says of the class at C and its __init__ at fI -/
structure ExcTxt (P : Program) (K : Frag) (mg : Str → Option Value) (x q fld : Str) (C fI : Addr) : Prop where
  gC : mg x = some (.ref C)
  base : ∃ B nw ini T, BaseX B nw ini T ∧ (∃ nm q N bs bm sn sub ab col dd k0 k1 k2 k3 k5, K.lookup C = some (excClassObj nm q C N bs bm true sn sub ab col dd k0 k1 k2 k3 k5 nw) ∧ refsT T bm = true) ∧
    subIn K (.ref C) (.type B) = some true ∧ ks_superIn K C C "__init__" = some (some (.builtin ini)) ∧ excInitIn K C T nw = true
  sa : findIn K (.ref C) "__setattr__" = some (some (.builtin "object.__setattr__"))
  ga : findIn K (.ref C) "__getattribute__" = some (some (.builtin "BaseException.__getattribute__"))
  gg : findIn K (.ref C) "__getattr__" = some none
  noN : findIn K (.ref C) fld = some none
  iC : findIn K (.ref C) "__init__" = some (some (.ref fI))
  tC : typeIn K (.ref fI) = some (.type "function")
  kC : keepIn K (.ref C) = true
  exC : subIn K (.ref C) (.type "BaseException") = some true
  tyC : typeIn K (.ref C) = some (.type "type")
  hdC : hasDictIn K C = true
  self : mroIn K C (.ref C) = some true
  third : nsIn K cStatics "thirdparty.any" = some none
  noS : nsIn K mainGlobals "super" = some none
  fn : ∃ (oc : Value) (od : Option Addr) (doc pm : Value) (an : Option Addr) (cda : Addr) (ct : Value) (osl : Array (Option Value)) (cc : Addr) (txt : Str) (k : Nat) (p : Nat → Pos) (p1 p2 : Pos),
    K.lookup fI = some ⟨oc, od, .func (ksFn "__init__" q (xArgs fld p1 p2) (xBody fld txt k p) (xScope fld) .none .none doc pm an (.ref cda) ct cc), osl⟩ ∧ codeIn K (.ref cda) q = true ∧
    (∃ ccl cdd vs ccs file tf, K.lookup cda = some ⟨ccl, cdd, .fields vs, ccs⟩ ∧ vs[2]? = some (.str file tf) ∧ ((P.main.file : Str) == file) = true) ∧
    ((p 2).endLine == (p 4).line) = true ∧
    (∃ cl cld csl, K.lookup cc = some ⟨cl, cld, .cell (some (.ref C)), csl⟩) ∧
    (∀ a b : Value, bindArgs (ksFn "__init__" q (xArgs fld p1 p2) (xBody fld txt k p) (xScope fld) .none .none doc pm an (.ref cda) ct cc) ⟨[a, b], []⟩ = pure [(("self" : Str), a), (fld, b)])
  fldOk : (fld == ("self" : Str)) = false ∧ (("self" : Str) == fld) = false ∧ (fld == ("__class__" : Str)) = false ∧ (("__class__" : Str) == fld) = false ∧ (fld == ("super" : Str)) = false ∧ (("super" : Str) == fld) = false ∧ (fld == ("__debug__" : Str)) = false
  topS : (P.main.scope.names.lookup ("super" : Str)).isSome = false
/-- what __init__ leaves of a fresh exception at x -/
structure XEnd (h h' : Heap) (x C dx : Addr) (fld : Str) (v : Value) : Prop where
  keep : ∀ b o, b ≠ x → h.get? b = some o → h'.get? b = some o
  obj : ∃ t1, h'.get? x = some { cls := .ref C, dict := some dx, data := .fields #[.ref t1, .none, .none, .none, .bool false, .none] }
  dbig : h.objs.size ≤ dx
  dne : dx ≠ x
  ns : h'.Ns1 dx (fun y => if y = fld then some v else none)
/-- a made exception -/
structure XMade (h h' : Heap) (e C d : Addr) (fld : Str) (v : Value) : Prop where
  keep : ∀ b o, h.get? b = some o → h'.get? b = some o
  new : h.objs.size ≤ e
  obj : ∃ oe vs, h'.get? e = some oe ∧ oe.cls = .ref C ∧ oe.dict = some d ∧ oe.data = .fields vs ∧ vs[1]? = some .none
  dbig : h.objs.size ≤ d
  dne : d ≠ e
  ns : h'.Ns1 d (fun y => if y = fld then some v else none)
theorem one_le_line (v : Value) : [v].length ≤ sizeLine := by
  rw [sizeLine_eq]
  exact (by decide : 1 ≤ 16777216)
section
variable {prog : Program} {w : World} {A : Around} {R : Result → Shared → Prop} {s : Shared} {K : Frag} {mg : Str → Option Value} {C fI : Addr} {nx q fld : Str}
theorem x_init (T : ExcTxt prog K mg nx q fld C fI) {x t0 : Addr} {v : Value} {mb : Str → Option Value} (X : K.In s.heap) (G : s.heap.Ns mainGlobals mg) (Gb : s.heap.Ns builtinsNs mb) (hb : ∀ y : Str, y ≠ "__name__" → mb y = bootBuiltins y) (hlim : s.heap.NoLimit)
    (hx : s.heap.get? x = some (excO C t0)) (hnx : K.lookup x = none) (hroom : A.depth < recursionLimit)
    (hq : ∀ h' tk dx, XEnd s.heap h' x C dx fld v → R (.ok (.ret .none)) { s with heap := h', toks := tk }) :
    codeAny (model prog w) A (.call (.ref fI) ⟨[.ref x, v], []⟩) R s := by
  obtain ⟨oc, od, doc, pm, an, cda, ct, osl, cc, txt, k, p, p1, p2, ho, hcd, ⟨ccl, cdd, vs, ccs, file, tf, hcode, hvs, hfile⟩, hline, ⟨cl, cld, csl, hcell⟩, hbd⟩ := T.fn
  obtain ⟨B, nw, ini, tl, bX, ⟨nm, qq, N, bs, bm, sn, sub, ab, col, dd, k0, k1, k2, k3, k5, hC, hbm⟩, veC, sup, inI⟩ := T.base
  have hcl : clsIn K C = some { name := nm, bases := bs, mro := .ref C :: bm, ns := N, qualname := qq, hasDict := true, slotNames := sn, subclasses := sub, abstract := ab, collection := col, hasDel := false } := by unfold clsIn; rw [hC] <;> rfl
  obtain ⟨f1, f2, f3, f4, f5, f6, f7⟩ := T.fldOk
  have l1 : (xScope fld).names.lookup ("self" : Str) = some .local := rfl
  have l2 : (xScope fld).names.lookup fld = some .local := by simp [xScope, List.lookup, f1]
  have l3 : (xScope fld).names.lookup ("__class__" : Str) = some .free := by
    have g0 : (PySem.Str.ofString "__class__" == PySem.Str.ofString "self") = false := by decide +kernel
    simp [xScope, List.lookup, f4, g0]
  have l4 : (xScope fld).names.lookup ("super" : Str) = some .globalImplicit := by
    have g0 : (PySem.Str.ofString "super" == PySem.Str.ofString "self") = false := by decide +kernel
    have g1 : (PySem.Str.ofString "super" == PySem.Str.ofString "__class__") = false := by decide +kernel
    simp [xScope, List.lookup, f6, g0, g1]
  have hloc : ∀ y ∈ [(("self" : Str), Value.ref x), (fld, v)], (xScope fld).names.lookup y.1 = some .local := by
    intro y hy
    rcases List.mem_cons.mp hy with rfl | hy
    · exact l1
    · rcases List.mem_cons.mp hy with rfl | hy
      · exact l2
      · cases hy
  refine ks_codeAny_call_defAt (fd := ksFn "__init__" q (xArgs fld p1 p2) (xBody fld txt k p) (xScope fld) .none .none doc pm an (.ref cda) ct cc) (body := xBody fld txt k p) (binds := [("self", .ref x), (fld, v)])
    hroom (X _ _ ho) rfl hlim (codeRec_of X hcd) rfl (BindsTo.of_eq (hbd _ _)) ?_ hloc (fun h₁ hns hk₁ => ?_)
  · intro y hy
    have hy' : y ∈ [(PySem.Str.ofString "self", NameKind.local), (fld, .local), (PySem.Str.ofString "__class__", .free), (PySem.Str.ofString "super", .globalImplicit)] := hy
    simp only [List.mem_cons, List.not_mem_nil, or_false] at hy'
    rcases hy' with rfl | rfl | rfl | rfl <;> exact (fun z => nomatch z)
  · have X₁ : K.In h₁ := X.keeps hk₁
    have hx₁ := hk₁ _ _ hx
    have xC : x ≠ C := fun z => by rw [z, hC] at hnx; cases hnx
    have mself : (fun z => List.lookup z [(PySem.Str.ofString "self", Value.ref x), (fld, v)].reverse) ("self" : Str) = some (.ref x) := by
      show List.lookup ("self" : Str) [(fld, v), (PySem.Str.ofString "self", Value.ref x)] = _
      simp [List.lookup, f2]
    have mfld : (fun z => List.lookup z [(PySem.Str.ofString "self", Value.ref x), (fld, v)].reverse) fld = some v := by
      show List.lookup fld [(fld, v), (PySem.Str.ofString "self", Value.ref x)] = _
      simp [List.lookup]
    have F : Fr s.heap s.heap.objs.size h₁ (fun z => List.lookup z [(PySem.Str.ofString "self", Value.ref x), (fld, v)].reverse) := ⟨hns, hk₁, Nat.le_refl _⟩
    show _root_.PySem.wpAt _ _ (.func (xBody fld txt k p) (ksEnv q (xScope fld) s.heap.objs.size fI (.ref cda) cc)) (execs _ (ksEnv q (xScope fld) s.heap.objs.size fI (.ref cda) cc)) _ _ _
    have he : eval (.Call (.Attribute (.Call (.Name "super" (p 0)) [] [] (p 1)) "__init__" (p 2)) [.Constant (.str txt) k (p 3)] [] (p 4)) (ksEnv q (xScope fld) s.heap.objs.size fI (.ref cda) cc) = (do
        let ov ← attributeBase (.Call (.Name "super" (p 0)) [] [] (p 1)) "__init__" (ksEnv q (xScope fld) s.heap.objs.size fI (.ref cda) cc) (eval (.Call (.Name "super" (p 0)) [] [] (p 1)) (ksEnv q (xScope fld) s.heap.objs.size fI (.ref cda) cc))
        standAt (p 2).atName
        let (f, first) ← holding [ov] (getMethod ov "__init__" (L2.plainOf (.Call (.Name "super" (p 0)) [] [] (p 1)) (ksEnv q (xScope fld) s.heap.objs.size fI (.ref cda) cc)))
        callWith (p 4) f first (backTo (p 4) (starEach [.Constant (.str txt) k (p 3)] (ksEnv q (xScope fld) s.heap.objs.size fI (.ref cda) cc))) []) := by
      show (attributeBase _ _ _ _ >>= fun ov => standAt _ >>= fun _ => methodCall _ _ _ _ _ ov _ _ _) = _
      congr 1
      funext ov
      congr 1
      funext _
      exact L2.mcall_line (by rfl) hline
    refine ks_wpAt_execs_cons (ks_wpAt_Expr_any (ks_wpAt_MethodCall ?_ he))
    obtain ⟨oD, hD1, hD2⟩ : ∃ oD, h₁.get? C = some oD ∧ oD.data = .cls _ := ⟨_, X₁ _ _ hC, rfl⟩
    refine ks_wpAt_super_base (env := ksEnv q (xScope fld) s.heap.objs.size fI (.ref cda) cc) l4 l3 (by decide) rfl (X₁ _ _ ho) rfl rfl rfl (X₁ _ _ hcode) rfl hvs hfile T.topS ?_
    refine ks_loadName_global rfl l4 (loadGlobal_builtin (env := ksEnv q (xScope fld) s.heap.objs.size fI (.ref cda) cc) (G.keeps hk₁) (mg_none_of X G T.noS) (Gb.keeps hk₁) ((hb _ (by decide +kernel)).trans (show bootBuiltins ("super" : Str) = some (.type "super") by first | boot_by_name | rfl | kernel_rfl)) ⟨rfl, ?_⟩)
    refine wpAny_loadName_free rfl l3 rfl ⟨_, X₁ _ _ hcell, rfl⟩ ?_
    refine wpAny_loadName_local rfl l1 F.ns mself ?_
    refine ks_wpAny_isType_cls hD1 hD2 ⟨rfl, ?_⟩
    have I₁ : InstAt h₁ x (excObj C t0 none .none) C none := ⟨hx₁, rfl, rfl, trivial⟩
    refine ks_wpAny_call_super hD1 hD2 I₁.at_ I₁.cls (fun c e => nomatch e) (looks_mroIn X₁ T.self) (fun h₂ e2 k2 => ?_)
    -- the bound wrapper, by the heap without x
    have nl1 : h₁.objs.size ≠ s.heap.objs.size := Nat.ne_of_gt F.ns.lt
    have xs : x < s.heap.objs.size := Heap.lt_size hx
    have x1 : x < h₁.objs.size := Heap.lt_size hx₁
    have hx₂ : h₂.get? x = some (excObj C t0 none .none) := k2 _ _ hx₁
    have X₀ : K.In (hideAll s.heap [x]) := fun b o e => hideAll_get _ (X b o e) (fun hb => by
      rw [List.mem_singleton.mp hb, hnx] at e
      cases e)
    have keep₀ : ∀ b o, (hideAll s.heap [x]).get? b = some o → h₁.get? b = some o := fun b o e => hk₁ b o (of_hideAll _ e)
    have F₂ : Fr (hideAll s.heap [x]) s.heap.objs.size h₂ (fun z => List.lookup z [(PySem.Str.ofString "self", Value.ref x), (fld, v)].reverse) :=
      ⟨hns.keeps k2, fun b o e => k2 b o (keep₀ b o e), Nat.le_of_eq (hideAll_size _ _)⟩
    have n0 : (hideAll s.heap [x]).get? h₁.objs.size = none := by
      cases z : (hideAll s.heap [x]).get? h₁.objs.size with
      | none => rfl
      | some o => exact absurd (Heap.lt_size (keep₀ _ _ z)) (Nat.lt_irrefl _)
    have N₂ : News (hideAll s.heap [x]) s.heap.objs.size h₂ [(h₁.objs.size, ks_superObj C x C), (x, excObj C t0 none .none)] := by
      intro r hr
      rcases List.mem_cons.mp hr with rfl | hr
      · exact ⟨e2, nl1, n0⟩
      · rcases List.mem_cons.mp hr with rfl | hr
        · exact ⟨hx₂, Nat.ne_of_lt xs, hideAll_none _ List.mem_cons_self⟩
        · cases hr
    have I₂ : InstAt h₂ x (excObj C t0 none .none) C none := ⟨hx₂, rfl, rfl, trivial⟩
    refine kxs_method bX.kx F₂ X₀ N₂ List.mem_cons_self I₂ T.third sup veC (by decide) (fun u h₃ F₃ N₃ lt3 => ?_)
    refine kxs_callWith1 N₃ List.mem_cons_self (Calls.spliced_cons (show wpAny _ _ (eval (.Constant (.str txt) k (p 3)) _) _ _ _ from Calls.Constant_str (Calls.spliced_nil ⟨kxs_at N₃ List.mem_cons_self, ?_⟩)))
    have hux : u ≠ x := Nat.ne_of_gt (lt3 (x, excObj C t0 none .none) (List.mem_cons_of_mem _ List.mem_cons_self))
    have hsx : h₁.objs.size ≠ x := Nat.ne_of_gt x1
    refine bX.sup F₃ X₀ N₃ inI List.mem_cons_self (.tail hux (.tail hsx (.head (fun _ h => nomatch h)))) (one_le_line _) (fun t1 h₄ F₄ N₄ lt4 => ?_)
    have hx₄ : h₄.get? x = some (excO C t1) := (N₄ (x, excObj C t1 none .none) (by simp)).1
    have X₄ : K.In h₄ := X₀.keeps F₄.keep
    refine ks_wpAt_execs_cons (ks_wpAt_Assign_Attr (wpAt_of_wpAny (wpAny_Name (wpAny_loadName_local rfl l2 F₄.ns mfld (wpAny_Name (wpAny_loadName_local rfl l1 F₄.ns mself ?_) (by decide))) f7)))
    refine set_plain X₄ (ox := excO C t1) (od := none) ⟨hx₄, rfl, rfl, trivial⟩ T.sa ?_
    refine exc_osaT bX X₄ hx₄ hcl (show (refsT tl bm || _) = true by rw [hbm]; rfl) rfl T.noN (fun h₅ tk₅ dx k₅ dn dne hx₅ hn₅ => ?_)
    refine wpAt_of_wpAny (wpAny_execs_nil (hq h₅ tk₅ dx ⟨fun b o hb e => k₅ b o hb (F₄.keep b o (hideAll_get _ e (fun z => hb (List.mem_singleton.mp z)))), ⟨t1, hx₅⟩, Nat.le_trans (Nat.le_of_lt F₄.ns.lt) dn, dne, hn₅⟩))
theorem x_made (T : ExcTxt prog K mg nx q fld C fI) {v : Value} {mb : Str → Option Value} (X : K.In s.heap) (G : s.heap.Ns mainGlobals mg) (Gb : s.heap.Ns builtinsNs mb) (hb : ∀ y : Str, y ≠ "__name__" → mb y = bootBuiltins y) (hlim : s.heap.NoLimit) (hroom : A.depth + 1 < recursionLimit)
    (hq : ∀ h' tk e d, XMade s.heap h' e C d fld v → R (.ok (.ret (.ref e))) { s with heap := h', toks := tk }) :
    codeAny (model prog w) A (.call (.ref C) ⟨[v], []⟩) R s := by
  obtain ⟨B, nw, ini, tl, bX, ⟨nm, qq, N, bs, bm, sn, sub, ab, col, dd, k0, k1, k2, k3, k5, hC, hbm⟩, veC, sup, inI⟩ := T.base
  obtain ⟨hp, g, dr, tk, os⟩ := s
  have k : ∀ b o, hp.get? b = some o → ((hp.push (kdv_tup [v])).push (excO C hp.objs.size)).get? b = some o := fun b o e => Heap.get?_push_of_some _ (Heap.get?_push_of_some _ e)
  have hget : ((hp.push (kdv_tup [v])).push (excO C hp.objs.size)).get? (hp.objs.size + 1) = some (excO C hp.objs.size) := by heap_get
  have hnx : K.lookup (hp.objs.size + 1) = none := by
    cases e : K.lookup (hp.objs.size + 1) with
    | none => rfl
    | some o => exact absurd (Nat.lt_of_succ_lt (Heap.lt_size (show hp.get? (hp.objs.size + 1) = some o from X _ _ e))) (Nat.lt_irrefl _)
  refine bX.own (fun X => bX.contains X bm hbm) (X _ _ hC) (looks_findIn X T.iC) (fun self => bind_fn X self T.tC) (one_le_line v) ?_
  refine x_init (s := ⟨(hp.push (kdv_tup [v])).push (excO C hp.objs.size), g, dr, tk, os⟩) T (X.keeps k) (G.keeps k) (Gb.keeps k) hb (hlim.keeps k) hget hnx hroom fun h' tk' dx ⟨k', ⟨t1, hx⟩, dn, dne, hns⟩ => ?_
  have old : ∀ b o, hp.get? b = some o → h'.get? b = some o := fun b o e => k' b o (Nat.ne_of_lt (Nat.lt_succ_of_lt (Heap.lt_size e))) (k b o e)
  have z : hp.objs.size + 1 + 1 ≤ dx := by
    have q := dn
    rw [Heap.size_push, Heap.size_push] at q
    exact q
  exact ⟨rfl, hq h' tk' (hp.objs.size + 1) dx ⟨old, Nat.le_succ _, ⟨_, _, hx, rfl, rfl, rfl, rfl⟩, Nat.le_trans (Nat.le_trans (Nat.le_succ _) (Nat.le_succ _)) z, dne, hns⟩⟩
end
end EXV
end PySem

namespace L2
open PySem PySem.Spec PyProof.Rows
theorem relO_x {v : V} {v' : Value} (r : RelV v v') (fld f : Str) : RelO (List.lookup f [(fld, v)]) (if f = fld then some v' else none) := by
  by_cases hw : f = fld
  · subst hw
    rw [if_pos rfl, show List.lookup f [(f, v)] = some v by simp [List.lookup]]
    exact r
  · rw [if_neg hw, show List.lookup f [(fld, v)] = none by simp [List.lookup, show (f == fld) = false by simpa using hw]]
    trivial
section
variable {X : Cx} {C fI : Addr} {x q fld : Str}
/-- X(e), raised -/
def tMkX (C : Addr) (fld : Str) (ta : TA) : St → Hp → XK → Prop := fun σ H Q => ta σ H fun vs H1 => ∃ v, vs = [v] ∧ ∀ d, H1 d = none → Q (.ref C) (some d) (upd H1 d (.xd [(fld, v)]))
theorem pmk_x {a : Expr} {ta : TA} {p pos : Pos} {k : Nat} (T : PySem.EXV.ExcTxt X.prog X.K X.mg x q fld C fI) (hr : Room k X.A) (ha : PA X [a] ta) (hg : Gl X x := by rfl)
    (hdb : (x == ("__debug__" : Str)) = false := by decide)
    (he : starEach (a :: []) X.env = (false, eval a X.env) :: starEach [] X.env := by rfl) (hpl : (backTo pos (starEach [] X.env)).any (·.1) = false := by rfl) :
    PMk X (.Call (.Name x p) [a] [] pos) (tMkX C fld ta) := by
  intro pins s σ H Q I h
  refine wpAny_Call_Name_kw (ld_glob I hg T.gC ?_ hdb)
  refine PySem.W.callWith_K (h₀ := X.base) I.ok.mod.kin T.kC (thn (ha.run pos pins s σ H _ I h) fun us s1 hh => ?_) he hpl
  obtain ⟨vs, H1, I1, r1, v, ev, q1⟩ := hh
  subst ev
  refine ⟨I1.kIn, ?_⟩
  cases r1 with
  | cons rv rn =>
    rename_i v' us'
    cases rn
    show wpAny _ _ (call (.ref C) [v']) _ _ _
    have hlim := I1.nolimit
    obtain ⟨mb, hb1, hb2⟩ := I1.mod.blt
    have hG := I1.mod.glob.keeps I1.bk
    have hGb := hb1.keeps I1.bk
    obtain ⟨hp, g, dr, tk, os⟩ := s1
    refine wpAny_call (PySem.EXV.x_made T I1.kIn hG hGb hb2 hlim (by have := hr.dp; omega) fun h' tk' e d M => ?_)
    show MkP X pins σ Q (.ref e) ⟨h', g, dr, tk', os⟩
    obtain ⟨oe, fv, hoe, hc, hd, hdat, h1⟩ := M.obj
    have hns := M.ns
    obtain ⟨G', g1, g2⟩ := restrict h' fun b => decide (b ≠ e)
    have gk : ∀ b, b ≠ e → G'.get? b = h'.get? b := fun b hb => g1 b (decide_eq_true hb)
    have ge : G'.get? e = none := g2 e (by simp)
    have old : ∀ b o, hp.get? b = some o → G'.get? b = some o := fun b o z => (gk b (Nat.ne_of_lt (Nat.lt_of_lt_of_le (Heap.lt_size z) M.new))).trans (M.keep b o z)
    have ob : ObjOk X.prog X.w (upd H1 d (.xd [(fld, v)])) G' d (.xd [(fld, v)]) :=
      ⟨_, hns.at (fun o z => (gk d M.dne).trans z), fun f => relO_x rv fld f⟩
    have J : Inv X pins σ (upd H1 d (.xd [(fld, v)])) ⟨G', g, dr, tk', os⟩ := I1.laid (t' := tk') old M.dbig ob
    refine ⟨e, oe, fv, ⟨G', g, dr, tk', os⟩, _, .ref C, some d, rfl, J, fun b o z => ?_, ge, hoe, ⟨hc, hd⟩, hdat, h1, ?_, rfl, I1.bare, raises_own T.exC T.tyC, q1 d (I1.hok.fresh M.dbig)⟩
    · by_cases hb : b = e
      · have z' : G'.get? b = some o := z
        rw [hb, ge] at z'; cases z'
      · exact (gk b hb).symm.trans z
    · rw [upd_ne (Ne.symm M.dne)]
      exact I1.hok.fresh M.new
/-- raise X(e) -/
def tRaiseX (C : Addr) (fld : Str) (W : WX) (ta : TA) : TS := fun _ σ H => tMkX C fld ta σ H fun cls d H' => W cls d σ H'
theorem ps_raiseX {a : Expr} {ta : TA} {W : WX} {p pos pos2 : Pos} {k : Nat} (hc : X.calm = true) (T : PySem.EXV.ExcTxt X.prog X.K X.mg x q fld C fI) (hr : Room k X.A) (tk : Takes X W) (ha : PA X [a] ta) (hg : Gl X x := by rfl)
    (hdb : (x == ("__debug__" : Str)) = false := by decide)
    (he : starEach (a :: []) X.env = (false, eval a X.env) :: starEach [] X.env := by rfl) (hpl : (backTo pos (starEach [] X.env)).any (·.1) = false := by rfl) :
    PS X (.Raise (some (.Call (.Name x p) [a] [] pos)) none pos2) (tRaiseX C fld W ta) := ps_raise hc tk (pmk_x T hr ha hg hdb he hpl)
/-- err.FLD, err the exception that the suite holds (at a; its class cls, its dict d) -/
def tFldX (C : Addr) (fld : Str) (a : Addr) (cls : Value) (d : Option Addr) (te : TE) : TE := fun σ H Q => te σ H fun y H1 => y = .ref a ∧ cls = .ref C ∧ ∃ (dd : Addr) (v : V), d = some dd ∧ H1 dd = some (.xd [(fld, v)]) ∧ Q v H1
theorem pe_fldX {a : Addr} {oe : Obj} {cls : Value} {d : Option Addr} {pn : List (Addr × Obj)} {e : Expr} {te : TE} {pos : Pos} (T : PySem.EXV.ExcTxt X.prog X.K X.mg x q fld C fI) (hz : Zc cls d oe) (hf : ∃ vs, oe.data = .fields vs) (he : PE (X.suite a ((a, oe) :: pn)) e te)
    (hb : attributeBase e fld X.env (eval e X.env) = eval e X.env := by rfl) :
    PE (X.suite a ((a, oe) :: pn)) (.Attribute e fld pos) (tFldX C fld a cls d te) := by
  refine ⟨fun pins s σ H Q I h => ?_⟩
  refine attr_of hb (thn (he.run pins s σ H _ I h) fun u s1 hh => ?_)
  obtain ⟨y, H1, I1, rx, ex, ec, dd, v, ed, ea, q⟩ := hh
  subst ex
  obtain rfl : u = Value.ref a := rx
  subst ec
  subst ed
  obtain ⟨ha, _⟩ := I1.pin (a, oe) (List.mem_append_left _ List.mem_cons_self)
  obtain ⟨vs, hd⟩ := hf
  have hx : ObjOk X.prog X.w H1 s1.heap dd (.xd [(fld, v)]) := I1.hok dd _ ea
  obtain ⟨mA, hns, hr⟩ := hx
  obtain ⟨od, ho, hl⟩ := lookIn_ns hns
  have l : List.lookup fld [(fld, v)] = some v := by simp [List.lookup]
  obtain ⟨u, hu, ru⟩ := RelO.some_of (v := v) (o := mA fld) (by rw [← l]; exact hr fld)
  have J : PySem.W.InstAt s1.heap a oe C (some od) := ⟨ha, hz.1, by unfold PySem.W.notCls; rw [hd] <;> rfl, by rw [hz.2]; exact ho⟩
  exact HandSPX.exc_get I1.kIn J T.ga T.gg T.exC (PySem.W.findObj_own T.hdC T.noN rfl (by rw [hl, hu])) (handed_of ru) ⟨v, H1, I1.tok _, ru, q⟩
end
end L2

/-! An own error class whose __init__(self) says super().__init__(a text) and nothing more. -/
namespace PySem
namespace EXV
open PySem.W PySem.Calls PyProof.Rows PySem.HandSPX
def xBody0 (txt : Str) (k : Nat) (p : Nat → Pos) : List Stmt :=
  [.Expr (.Call (.Attribute (.Call (.Name "super" (p 0)) [] [] (p 1)) "__init__" (p 2)) [.Constant (.str txt) k (p 3)] [] (p 4)) (p 5)]
def xArgs0 (p1 : Pos) : Arguments := { posonlyargs := [], args := [{ arg := "self", annotation := none, pos := p1 }], vararg := none, kwonlyargs := [], kw_defaults := [], kwarg := none, defaults := [] }
def xScope0 : Scope := { kind := .function, names := [(PySem.Str.ofString "self", .local), (PySem.Str.ofString "__class__", .free), (PySem.Str.ofString "super", .globalImplicit)], isGenerator := false, isCoroutine := false }
/-- what the written part says of the class at C and its __init__ at fI -/
structure ExcTxt0 (P : Program) (K : Frag) (mg : Str → Option Value) (x q : Str) (C fI : Addr) : Prop where
  gC : mg x = some (.ref C)
  base : ∃ B nw ini T, BaseX B nw ini T ∧ (∃ nm q N bs bm sn sub ab col dd k0 k1 k2 k3 k5, K.lookup C = some (excClassObj nm q C N bs bm true sn sub ab col dd k0 k1 k2 k3 k5 nw) ∧ refsT T bm = true) ∧
    subIn K (.ref C) (.type B) = some true ∧ ks_superIn K C C "__init__" = some (some (.builtin ini)) ∧ excInitIn K C T nw = true
  sa : findIn K (.ref C) "__setattr__" = some (some (.builtin "object.__setattr__"))
  ga : findIn K (.ref C) "__getattribute__" = some (some (.builtin "BaseException.__getattribute__"))
  gg : findIn K (.ref C) "__getattr__" = some none
  iC : findIn K (.ref C) "__init__" = some (some (.ref fI))
  tC : typeIn K (.ref fI) = some (.type "function")
  kC : keepIn K (.ref C) = true
  exC : subIn K (.ref C) (.type "BaseException") = some true
  tyC : typeIn K (.ref C) = some (.type "type")
  hdC : hasDictIn K C = true
  self : mroIn K C (.ref C) = some true
  third : nsIn K cStatics "thirdparty.any" = some none
  noS : nsIn K mainGlobals "super" = some none
  fn : ∃ (oc : Value) (od : Option Addr) (doc pm : Value) (an : Option Addr) (cda : Addr) (ct : Value) (osl : Array (Option Value)) (cc : Addr) (txt : Str) (k : Nat) (p : Nat → Pos) (p1 : Pos),
    K.lookup fI = some ⟨oc, od, .func (ksFn "__init__" q (xArgs0 p1) (xBody0 txt k p) xScope0 .none .none doc pm an (.ref cda) ct cc), osl⟩ ∧ codeIn K (.ref cda) q = true ∧
    (∃ ccl cdd vs ccs file tf, K.lookup cda = some ⟨ccl, cdd, .fields vs, ccs⟩ ∧ vs[2]? = some (.str file tf) ∧ ((P.main.file : Str) == file) = true) ∧
    ((p 2).endLine == (p 4).line) = true ∧
    (∃ cl cld csl, K.lookup cc = some ⟨cl, cld, .cell (some (.ref C)), csl⟩) ∧
    (∀ a : Value, bindArgs (ksFn "__init__" q (xArgs0 p1) (xBody0 txt k p) xScope0 .none .none doc pm an (.ref cda) ct cc) ⟨[a], []⟩ = pure [(("self" : Str), a)])
  topS : (P.main.scope.names.lookup ("super" : Str)).isSome = false
section
variable {prog : Program} {w : World} {A : Around} {R : Result → Shared → Prop} {s : Shared} {K : Frag} {mg : Str → Option Value} {C fI : Addr} {nx q : Str}
theorem x_init0 (T : ExcTxt0 prog K mg nx q C fI) {x t0 : Addr} {mb : Str → Option Value} (X : K.In s.heap) (G : s.heap.Ns mainGlobals mg) (Gb : s.heap.Ns builtinsNs mb) (hb : ∀ y : Str, y ≠ "__name__" → mb y = bootBuiltins y) (hlim : s.heap.NoLimit)
    (hx : s.heap.get? x = some (excO C t0)) (hnx : K.lookup x = none) (hroom : A.depth < recursionLimit)
    (hq : ∀ h' tk t1, (∀ b o, b ≠ x → s.heap.get? b = some o → h'.get? b = some o) → h'.get? x = some (excO C t1) → R (.ok (.ret .none)) { s with heap := h', toks := tk }) :
    codeAny (model prog w) A (.call (.ref fI) ⟨[.ref x], []⟩) R s := by
  obtain ⟨oc, od, doc, pm, an, cda, ct, osl, cc, txt, k, p, p1, ho, hcd, ⟨ccl, cdd, vs, ccs, file, tf, hcode, hvs, hfile⟩, hline, ⟨cl, cld, csl, hcell⟩, hbd⟩ := T.fn
  obtain ⟨B, nw, ini, tl, bX, ⟨nm, qq, N, bs, bm, sn, sub, ab, col, dd, k0, k1, k2, k3, k5, hC, hbm⟩, veC, sup, inI⟩ := T.base
  have hcl : clsIn K C = some { name := nm, bases := bs, mro := .ref C :: bm, ns := N, qualname := qq, hasDict := true, slotNames := sn, subclasses := sub, abstract := ab, collection := col, hasDel := false } := by unfold clsIn; rw [hC] <;> rfl
  have l1 : xScope0.names.lookup ("self" : Str) = some .local := rfl
  have l3 : xScope0.names.lookup ("__class__" : Str) = some .free := by decide +kernel
  have l4 : xScope0.names.lookup ("super" : Str) = some .globalImplicit := by decide +kernel
  have hloc : ∀ y ∈ [(("self" : Str), Value.ref x)], xScope0.names.lookup y.1 = some .local := fun y hy => by
    rw [List.mem_singleton.mp hy]; exact l1
  refine ks_codeAny_call_defAt (fd := ksFn "__init__" q (xArgs0 p1) (xBody0 txt k p) xScope0 .none .none doc pm an (.ref cda) ct cc) (body := xBody0 txt k p) (binds := [("self", .ref x)])
    hroom (X _ _ ho) rfl hlim (codeRec_of X hcd) rfl (BindsTo.of_eq (hbd _)) ?_ hloc (fun h₁ hns hk₁ => ?_)
  · intro y hy
    have hy' : y ∈ [(PySem.Str.ofString "self", NameKind.local), (PySem.Str.ofString "__class__", .free), (PySem.Str.ofString "super", .globalImplicit)] := hy
    simp only [List.mem_cons, List.not_mem_nil, or_false] at hy'
    rcases hy' with rfl | rfl | rfl <;> exact (fun z => nomatch z)
  · have X₁ : K.In h₁ := X.keeps hk₁
    have hx₁ := hk₁ _ _ hx
    have xC : x ≠ C := fun z => by rw [z, hC] at hnx; cases hnx
    have mself : (fun z => List.lookup z [(PySem.Str.ofString "self", Value.ref x)].reverse) ("self" : Str) = some (.ref x) := by
      simp [List.lookup]
    have F : Fr s.heap s.heap.objs.size h₁ (fun z => List.lookup z [(PySem.Str.ofString "self", Value.ref x)].reverse) := ⟨hns, hk₁, Nat.le_refl _⟩
    show _root_.PySem.wpAt _ _ (.func (xBody0 txt k p) (ksEnv q xScope0 s.heap.objs.size fI (.ref cda) cc)) (execs _ (ksEnv q xScope0 s.heap.objs.size fI (.ref cda) cc)) _ _ _
    have he : eval (.Call (.Attribute (.Call (.Name "super" (p 0)) [] [] (p 1)) "__init__" (p 2)) [.Constant (.str txt) k (p 3)] [] (p 4)) (ksEnv q xScope0 s.heap.objs.size fI (.ref cda) cc) = (do
        let ov ← attributeBase (.Call (.Name "super" (p 0)) [] [] (p 1)) "__init__" (ksEnv q xScope0 s.heap.objs.size fI (.ref cda) cc) (eval (.Call (.Name "super" (p 0)) [] [] (p 1)) (ksEnv q xScope0 s.heap.objs.size fI (.ref cda) cc))
        standAt (p 2).atName
        let (f, first) ← holding [ov] (getMethod ov "__init__" (L2.plainOf (.Call (.Name "super" (p 0)) [] [] (p 1)) (ksEnv q xScope0 s.heap.objs.size fI (.ref cda) cc)))
        callWith (p 4) f first (backTo (p 4) (starEach [.Constant (.str txt) k (p 3)] (ksEnv q xScope0 s.heap.objs.size fI (.ref cda) cc))) []) := by
      show (attributeBase _ _ _ _ >>= fun ov => standAt _ >>= fun _ => methodCall _ _ _ _ _ ov _ _ _) = _
      congr 1
      funext ov
      congr 1
      funext _
      exact L2.mcall_line (by rfl) hline
    refine ks_wpAt_execs_cons (ks_wpAt_Expr_any (ks_wpAt_MethodCall ?_ he))
    obtain ⟨oD, hD1, hD2⟩ : ∃ oD, h₁.get? C = some oD ∧ oD.data = .cls _ := ⟨_, X₁ _ _ hC, rfl⟩
    refine ks_wpAt_super_base (env := ksEnv q xScope0 s.heap.objs.size fI (.ref cda) cc) l4 l3 (by decide) rfl (X₁ _ _ ho) rfl rfl rfl (X₁ _ _ hcode) rfl hvs hfile T.topS ?_
    refine ks_loadName_global rfl l4 (loadGlobal_builtin (env := ksEnv q xScope0 s.heap.objs.size fI (.ref cda) cc) (G.keeps hk₁) (mg_none_of X G T.noS) (Gb.keeps hk₁) ((hb _ (by decide +kernel)).trans (show bootBuiltins ("super" : Str) = some (.type "super") by first | boot_by_name | rfl | kernel_rfl)) ⟨rfl, ?_⟩)
    refine wpAny_loadName_free rfl l3 rfl ⟨_, X₁ _ _ hcell, rfl⟩ ?_
    refine wpAny_loadName_local rfl l1 F.ns mself ?_
    refine ks_wpAny_isType_cls hD1 hD2 ⟨rfl, ?_⟩
    have I₁ : InstAt h₁ x (excObj C t0 none .none) C none := ⟨hx₁, rfl, rfl, trivial⟩
    refine ks_wpAny_call_super hD1 hD2 I₁.at_ I₁.cls (fun c e => nomatch e) (looks_mroIn X₁ T.self) (fun h₂ e2 k2 => ?_)
    -- the bound wrapper, by the heap without x
    have nl1 : h₁.objs.size ≠ s.heap.objs.size := Nat.ne_of_gt F.ns.lt
    have xs : x < s.heap.objs.size := Heap.lt_size hx
    have x1 : x < h₁.objs.size := Heap.lt_size hx₁
    have hx₂ : h₂.get? x = some (excObj C t0 none .none) := k2 _ _ hx₁
    have X₀ : K.In (hideAll s.heap [x]) := fun b o e => hideAll_get _ (X b o e) (fun hb => by
      rw [List.mem_singleton.mp hb, hnx] at e
      cases e)
    have keep₀ : ∀ b o, (hideAll s.heap [x]).get? b = some o → h₁.get? b = some o := fun b o e => hk₁ b o (of_hideAll _ e)
    have F₂ : Fr (hideAll s.heap [x]) s.heap.objs.size h₂ (fun z => List.lookup z [(PySem.Str.ofString "self", Value.ref x)].reverse) :=
      ⟨hns.keeps k2, fun b o e => k2 b o (keep₀ b o e), Nat.le_of_eq (hideAll_size _ _)⟩
    have n0 : (hideAll s.heap [x]).get? h₁.objs.size = none := by
      cases z : (hideAll s.heap [x]).get? h₁.objs.size with
      | none => rfl
      | some o => exact absurd (Heap.lt_size (keep₀ _ _ z)) (Nat.lt_irrefl _)
    have N₂ : News (hideAll s.heap [x]) s.heap.objs.size h₂ [(h₁.objs.size, ks_superObj C x C), (x, excObj C t0 none .none)] := by
      intro r hr
      rcases List.mem_cons.mp hr with rfl | hr
      · exact ⟨e2, nl1, n0⟩
      · rcases List.mem_cons.mp hr with rfl | hr
        · exact ⟨hx₂, Nat.ne_of_lt xs, hideAll_none _ List.mem_cons_self⟩
        · cases hr
    have I₂ : InstAt h₂ x (excObj C t0 none .none) C none := ⟨hx₂, rfl, rfl, trivial⟩
    refine kxs_method bX.kx F₂ X₀ N₂ List.mem_cons_self I₂ T.third sup veC (by decide) (fun u h₃ F₃ N₃ lt3 => ?_)
    refine kxs_callWith1 N₃ List.mem_cons_self (Calls.spliced_cons (show wpAny _ _ (eval (.Constant (.str txt) k (p 3)) _) _ _ _ from Calls.Constant_str (Calls.spliced_nil ⟨kxs_at N₃ List.mem_cons_self, ?_⟩)))
    have hux : u ≠ x := Nat.ne_of_gt (lt3 (x, excObj C t0 none .none) (List.mem_cons_of_mem _ List.mem_cons_self))
    have hsx : h₁.objs.size ≠ x := Nat.ne_of_gt x1
    refine bX.sup F₃ X₀ N₃ inI List.mem_cons_self (.tail hux (.tail hsx (.head (fun _ h => nomatch h)))) (one_le_line _) (fun t1 h₄ F₄ N₄ lt4 => ?_)
    have hx₄ : h₄.get? x = some (excO C t1) := (N₄ (x, excObj C t1 none .none) (by simp)).1
    refine wpAt_of_wpAny (wpAny_execs_nil (hq h₄ _ t1 (fun b o hb e => F₄.keep b o (hideAll_get _ e (fun z => hb (List.mem_singleton.mp z)))) hx₄))
/-- a made one -/
structure XMade0 (h h' : Heap) (e C : Addr) : Prop where
  keep : ∀ b o, h.get? b = some o → h'.get? b = some o
  new : h.objs.size ≤ e
  obj : ∃ oe vs, h'.get? e = some oe ∧ oe.cls = .ref C ∧ oe.dict = none ∧ oe.data = .fields vs ∧ vs[1]? = some .none
theorem x_made0 (T : ExcTxt0 prog K mg nx q C fI) {mb : Str → Option Value} (X : K.In s.heap) (G : s.heap.Ns mainGlobals mg) (Gb : s.heap.Ns builtinsNs mb) (hb : ∀ y : Str, y ≠ "__name__" → mb y = bootBuiltins y) (hlim : s.heap.NoLimit) (hroom : A.depth + 1 < recursionLimit)
    (hq : ∀ h' tk e, XMade0 s.heap h' e C → R (.ok (.ret (.ref e))) { s with heap := h', toks := tk }) :
    codeAny (model prog w) A (.call (.ref C) ⟨[], []⟩) R s := by
  obtain ⟨B, nw, ini, tl, bX, ⟨nm, qq, N, bs, bm, sn, sub, ab, col, dd, k0, k1, k2, k3, k5, hC, hbm⟩, veC, sup, inI⟩ := T.base
  obtain ⟨hp, g, dr, tk, os⟩ := s
  have k : ∀ b o, hp.get? b = some o → ((hp.push (kdv_tup [])).push (excO C hp.objs.size)).get? b = some o := fun b o e => Heap.get?_push_of_some _ (Heap.get?_push_of_some _ e)
  have hget : ((hp.push (kdv_tup [])).push (excO C hp.objs.size)).get? (hp.objs.size + 1) = some (excO C hp.objs.size) := by heap_get
  have hnx : K.lookup (hp.objs.size + 1) = none := by
    cases e : K.lookup (hp.objs.size + 1) with
    | none => rfl
    | some o => exact absurd (Nat.lt_of_succ_lt (Heap.lt_size (show hp.get? (hp.objs.size + 1) = some o from X _ _ e))) (Nat.lt_irrefl _)
  refine bX.own (fun X => bX.contains X bm hbm) (X _ _ hC) (looks_findIn X T.iC) (fun self => bind_fn X self T.tC) (Nat.zero_le _) ?_
  refine x_init0 (s := ⟨(hp.push (kdv_tup [])).push (excO C hp.objs.size), g, dr, tk, os⟩) T (X.keeps k) (G.keeps k) (Gb.keeps k) hb (hlim.keeps k) hget hnx hroom fun h' tk' t1 k' hx => ?_
  exact ⟨rfl, hq h' tk' (hp.objs.size + 1) ⟨fun b o e => k' b o (Nat.ne_of_lt (Nat.lt_succ_of_lt (Heap.lt_size e))) (k b o e), Nat.le_succ _, ⟨_, _, hx, rfl, rfl, rfl, rfl⟩⟩⟩
end
end EXV
end PySem

namespace L2
open PySem PySem.Spec PyProof.Rows
section
variable {X : Cx} {C fI : Addr} {x q : Str}
/-- X(), raised: an own error without arguments -/
theorem pmk_x0 {p pos : Pos} {k : Nat} (T : PySem.EXV.ExcTxt0 X.prog X.K X.mg x q C fI) (hr : Room k X.A) (hg : Gl X x := by rfl) (hdb : (x == ("__debug__" : Str)) = false := by decide) :
    PMk X (.Call (.Name x p) [] [] pos) (fun _ H Q => Q (.ref C) none H) := by
  intro pins s σ H Q I h
  refine wpAny_Call_Name_kw (ld_glob I hg T.gC ?_ hdb)
  refine PySem.W.callWith_K0 I.kIn T.kC ?_
  have hlim := I.nolimit
  obtain ⟨mb, hb1, hb2⟩ := I.mod.blt
  have hG := I.mod.glob.keeps I.bk
  have hGb := hb1.keeps I.bk
  have I0 := I
  obtain ⟨hp, g, dr, tk, os⟩ := s
  refine wpAny_call (PySem.EXV.x_made0 T I.kIn hG hGb hb2 hlim (by have := hr.dp; omega) fun h' tk' e M => ?_)
  show MkP X pins σ Q (.ref e) ⟨h', g, dr, tk', os⟩
  obtain ⟨oe, fv, hoe, hc, hd, hdat, h1⟩ := M.obj
  obtain ⟨G', g1, g2⟩ := restrict h' fun b => decide (b ≠ e)
  have gk : ∀ b, b ≠ e → G'.get? b = h'.get? b := fun b hb => g1 b (decide_eq_true hb)
  have ge : G'.get? e = none := g2 e (by simp)
  have old : ∀ b o, hp.get? b = some o → G'.get? b = some o := fun b o z => (gk b (Nat.ne_of_lt (Nat.lt_of_lt_of_le (Heap.lt_size z) M.new))).trans (M.keep b o z)
  have J : Inv X pins σ H ⟨G', g, dr, tk', os⟩ := I0.kept (t' := tk') old
  refine ⟨e, oe, fv, ⟨G', g, dr, tk', os⟩, _, .ref C, none, rfl, J, fun b o z => ?_, ge, hoe, ⟨hc, hd⟩, hdat, h1, I0.hok.fresh M.new, rfl, I0.bare, raises_own T.exC T.tyC, h⟩
  by_cases hb : b = e
  · have z' : G'.get? b = some o := z
    rw [hb, ge] at z'; cases z'
  · exact (gk b hb).symm.trans z
theorem ps_raiseX0 {W : WX} {p pos pos2 : Pos} {k : Nat} (hc : X.calm = true) (T : PySem.EXV.ExcTxt0 X.prog X.K X.mg x q C fI) (hr : Room k X.A) (tk : Takes X W) (hg : Gl X x := by rfl) (hdb : (x == ("__debug__" : Str)) = false := by decide) :
    PS X (.Raise (some (.Call (.Name x p) [] [] pos)) none pos2) (fun _ σ H => W (.ref C) none σ H) := ps_raise hc tk (pmk_x0 T hr hg hdb)
end
end L2

/-! Own error classes over KeyError: it has no maker of its own, LookupError's serves. -/
namespace PySem
namespace EXV
open PySem.W PySem.Calls PyProof.Rows PySem.HandSPX Builtin Builtin.ObjectAttr
abbrev keT : List Value := [.type "KeyError", .type "LookupError", .type "Exception", .type "BaseException", .type "object"]
theorem kxs_keyE : KxsFacts "KeyError" "KeyError.__init__" where
  typ := by
    show builtinType _ = _
    rw [builtinType_eq_fast]
    kernel_rfl
  nac := by
    first
    | kernel_rfl
    | rfl
theorem keyE_pass (self : Value) : refuseLoop self "__setattr__" keT = pure () := by
  kernel_rfl
section
variable {M : Model} {A : Around} {E : Value → Shared → Prop} {hp : Heap} {gs : Array GenState} {dr : Drawn} {tk : Nat} {os : OsState} {nm qn : Str} {C N : Addr} {bs bm sub : List Value} {hdct ab : Bool} {sn : List Str} {col : Option Bool}
  {dd : Option Addr} {k0 k1 k2 k3 k5 : Option Value}
theorem lk_checked {more : List Value} {Q : Unit → Shared → Prop} (cL : (Value.ref C :: bm).contains (.type "LookupError") = true)
    (cls : hp.get? C = some (excClassObj nm qn C N bs bm hdct sn sub ab col dd k0 k1 k2 k3 k5 "LookupError.__new__")) (q : Q () ⟨hp, gs, dr, tk, os⟩) : wpAny M A (checkBuiltinCall "LookupError.__new__" ⟨.ref C :: more, []⟩) Q E ⟨hp, gs, dr, tk, os⟩ := by
  have lf := PySem.F.excBase_LookupError
  have ns := lf.noStar
  simp only [checkBuiltinCall, lf.newSplit, lf.newKind, lf.newRow]
  repeat (first
    | refine wpAny_madeBy_exc cls ?_
    | refine wpAny_staticBase_exc cls ?_
    | refine wpAny_loadPart_at cls ?_
    | (refine wpAny_isSubtype_exc cls ?_; rw [cL])
    | simp only [bne_self_eq_false, if_false, Bool.false_eq_true]
    | wp_step)
  exact q
theorem ke_checked {e : Addr} {oe : Obj} {more : List Value} {Q : Unit → Shared → Prop} (cls : hp.get? C = some (excClassObj nm qn C N bs bm hdct sn sub ab col dd k0 k1 k2 k3 k5 "LookupError.__new__")) (he : hp.get? e = some oe) (oc : oe.cls = .ref C)
    (q : Q () ⟨hp, gs, dr, tk, os⟩) : wpAny M A (checkBoundCall "KeyError.__init__" ⟨.ref e :: more, []⟩) Q E ⟨hp, gs, dr, tk, os⟩ := by
  have kc := excClass_KeyError
  have ns := kc.notStar
  simp only [checkBoundCall, kc.initSig, kc.initKind]
  repeat (first
    | (with_reducible refine wpAny_loadPart_at cls ?_)
    | (with_reducible refine wpAny_loadPart_at he ?_
       rw [oc])
    | wp_step)
  refine wpAny_onRaise ?_
  have st : ∀ (a b : String) (n : Nat), Bind.check ⟨.positional, "*", "KeyError", .self, [⟨"args", .varPos, false⟩]⟩ a b n (List.map (fun x => x.fst) ({ pos := Value.ref e :: more } : Args).kw) = pure () := fun a b n => check_star_args _ _ _ _ _ _
  rw [st]
  exact wpAny_pure q
end
section
variable {prog : Program} {w : World} {A : Around} {R : Result → Shared → Prop} {hp : Heap} {gs : Array GenState} {dr : Drawn} {tk : Nat} {os : OsState} {nm qn : Str} {C N fI : Addr} {bs bm sub rest : List Value}
  {hdct ab : Bool} {sn : List Str} {col : Option Bool} {dd : Option Addr} {k0 k1 k2 k3 k5 : Option Value}
theorem lk_made (cL : (Value.ref C :: bm).contains (.type "LookupError") = true) (cA : (Value.ref C :: bm).contains (.type "AttributeError") = false) (cN : (Value.ref C :: bm).contains (.type "NameError") = false)
    (cls : hp.get? C = some (excClassObj nm qn C N bs bm hdct sn sub ab col dd k0 k1 k2 k3 k5 "LookupError.__new__")) (lr : rest.length ≤ sizeLine)
    (q : R (.ok (.ret (.ref (hp.objs.size + 1)))) ⟨(hp.push (W.kdv_tup rest)).push (excO C hp.objs.size), gs, dr, tk, os⟩) : codeAny (model prog w) A (.builtin "LookupError.__new__" ⟨.ref C :: rest, []⟩) R ⟨hp, gs, dr, tk, os⟩ := by
  have lf := PySem.F.excBase_LookupError
  have en := lf.ends
  refine codeAny_builtinAt lf.entry ?_
  unfold Builtin.«BaseException.__new__»
  refine wpAt_bind ?_
  show wpAt _ _ _ (stack >>= fun _ => _) _ _ _
  refine wpAt_bind (wpAt_stack fun p b => wpAt_of_wpAny ?_)
  wp_walk
  refine wpAt_of_wpAny ?_
  rw [lf.owner]
  repeat (first
    | with_reducible refine wpAny_loadPart_at cls ?_
    | with_reducible refine wpAny_madeHere_exc lf.canon cls ?_
    | (with_reducible refine wpAny_isSubtype_exc cls ?_
       first
       | rw [cL]
       | rw [cA]
       | rw [cN])
    | wp_step)
  show R _ _
  rw [Heap.size_push]
  exact q
theorem lk_call {E : Value → Shared → Prop} {Q : Fin → Shared → Prop} (cL : (Value.ref C :: bm).contains (.type "LookupError") = true) (cA : (Value.ref C :: bm).contains (.type "AttributeError") = false) (cN : (Value.ref C :: bm).contains (.type "NameError") = false)
    (cls : hp.get? C = some (excClassObj nm qn C N bs bm hdct sn sub ab col dd k0 k1 k2 k3 k5 "LookupError.__new__")) (li : W.Looks (model prog w) hp (typeLookup (.ref C) "__init__") (some (.ref fI)))
    (lb : ∀ self, W.Looks (model prog w) hp (bindSpecial (.ref fI) self) (.ref fI, [self])) (lr : rest.length ≤ sizeLine)
    (q : codeAny (model prog w) A (.call (.ref fI) ⟨.ref (hp.objs.size + 1) :: rest, []⟩) (fun r s' => match r with
      | .ok (.ret v) => v = .none ∧ Q (.done (.ret (.ref (hp.objs.size + 1)))) s'
      | .ok _ => False
      | .error e => E e s') ⟨(hp.push (W.kdv_tup rest)).push (excO C hp.objs.size), gs, dr, tk, os⟩) :
    wpAny (model prog w) A (Builtin.«type.__call__» ⟨.ref C :: rest, []⟩) Q E ⟨hp, gs, dr, tk, os⟩ := by
  repeat (first
    | with_reducible refine wpAny_madeBy_exc cls ?_
    | with_reducible refine wpAny_loadPart_at cls ?_
    | wp_step)
  refine codeAny_call_builtin_code (Code.quiet_builtin _ PySem.F.excBase_LookupError.quiet) (lk_checked cL cls (lk_made cL cA cN cls lr ?_))
  show wpAny _ _ _ _ _ _
  have old : ∀ b o, hp.get? b = some o → ((hp.push (W.kdv_tup rest)).push (excO C hp.objs.size)).get? b = some o := fun b o z => Heap.get?_push_of_some _ (Heap.get?_push_of_some _ z)
  have cls2 := old _ _ cls
  have new : ((hp.push (W.kdv_tup rest)).push (excO C hp.objs.size)).get? (hp.objs.size + 1) = some (excO C hp.objs.size) := by
    heap_get
  have cC : (Value.ref C :: bm).contains (.ref C) = true := by
    simp
  have li2 := li.keeps old
  have lb2 := (lb (.ref (hp.objs.size + 1))).keeps old
  unfold isInstance
  repeat (first
    | with_reducible refine wpAny_loadPart_at new ?_
    | (with_reducible refine wpAny_isSubtype_exc cls2 ?_
       rw [cC])
    | wp_step)
  show wpAny _ _ (typeLookup (.ref C) _) _ _ _
  refine li2.at (wpAny_holding (wpAny_bind (lb2.at (wpAny_bind (wpAny_call (codeAny_mono q fun r s' z => ?_))))))
  match r, z with
  | .error _, z => exact z
  | .ok .next, z => exact z.elim
  | .ok .brk, z => exact z.elim
  | .ok .cont, z => exact z.elim
  | .ok (.ret v), z =>
    obtain ⟨rfl, z⟩ := z
    first
    | exact wpAny_pure (wpAny_pure z)
    | (wp_walk
       exact z)
theorem ke_own (hT : ∀ X : String, bm.contains (.type X) = keT.contains (.type X))
    (cls : hp.get? C = some (excClassObj nm qn C N bs bm hdct sn sub ab col dd k0 k1 k2 k3 k5 "LookupError.__new__")) (li : W.Looks (model prog w) hp (typeLookup (.ref C) "__init__") (some (.ref fI)))
    (lb : ∀ self, W.Looks (model prog w) hp (bindSpecial (.ref fI) self) (.ref fI, [self])) (lr : rest.length ≤ sizeLine)
    (q : codeAny (model prog w) (A.under (.builtin "type.__call__" ⟨.ref C :: rest, []⟩)) (.call (.ref fI) ⟨.ref (hp.objs.size + 1) :: rest, []⟩) (W.InitBack (hp.objs.size + 1) R) ⟨(hp.push (W.kdv_tup rest)).push (excO C hp.objs.size), gs, dr, tk, os⟩) :
    codeAny (model prog w) A (.call (.ref C) ⟨rest, []⟩) R ⟨hp, gs, dr, tk, os⟩ := by
  have cX : ∀ X : String, (Value.ref C :: bm).contains (.type X) = keT.contains (.type X) := fun X => by
    rw [List.contains_cons, hT]
    rfl
  have t1 := tc_lookup
  have t2 := tc_bind (.ref C)
  have ty : (⟨hp, gs, dr, tk, os⟩ : Shared).TypeIs (.ref C) "type" := ⟨_, cls, rfl⟩
  refine codeAny_of_tree ?_
  show wpAny _ _ (callAny (.ref C) ⟨rest, []⟩) _ _ _
  repeat (any_goals (first
    | with_reducible refine wpAny_loadPart_at cls ?_
    | assumption
    | wp_step))
  refine ⟨rfl, codeAny_call_builtin_at (Code.quiet_builtin _ (by decide +kernel)) entry_typeCall (wpAny_check_type_call_sub cls (lk_call ((cX _).trans (by decide +kernel)) ((cX _).trans (by decide +kernel)) ((cX _).trans (by decide +kernel)) cls li lb lr ?_))⟩
  refine codeAny_mono q fun r s' z => ?_
  match r, z with
  | .error _, z => exact z
  | .ok .next, z => exact z
  | .ok .brk, z => exact z
  | .ok .cont, z => exact z
  | .ok (.ret v), z => exact z
end
section
variable {prog : Program} {w : World} {A : Around} {E : Value → Shared → Prop} {s : Shared} {h₀ : Heap} {L : Addr} {m : Str → Option Value} {news : List (Addr × Obj)} {K : Frag} {x C u t : Addr} {dv : Option Addr} {c2 : Value} {rest : List Value} {nws : Obj → List (Addr × Obj)}
theorem ke_sup {Q : Value → Shared → Prop} (f : Fr h₀ L s.heap m) (X : K.In h₀) (n : News h₀ L s.heap news) (ei : excInitIn K C keT "LookupError.__new__" = true) (hu : (u, kxs_mw "KeyError.__init__" x) ∈ news) (up : UpdF x (excObj C t dv c2) news nws)
    (lr : rest.length ≤ sizeLine) (q : ∀ t' h', Fr h₀ L h' m → News h₀ L h' ((t', excTup rest) :: nws (excObj C t' dv c2)) → (∀ p ∈ news, p.1 < t') → Q .none { s with heap := h' }) : wpAny (model prog w) A (call (.ref u) rest) Q E s := by
  obtain ⟨nm, N', qn, bs, bm, hdct, sn, sub, ab, col, dd, k0, k1, k2, k3, k5, cls, _⟩ := excInit_of (X.keeps f.keep) ei
  have gu := (n _ hu).1
  obtain ⟨pre, post, rfl, un, l1, l2⟩ := up.split
  have gx := (n (x, excObj C t dv c2) (List.mem_append_right _ List.mem_cons_self)).1
  have lt : ∀ p ∈ pre ++ (x, excObj C t dv c2) :: post, p.1 < s.heap.objs.size := fun p hp => Heap.lt_size (n p hp).1
  have fin : ∀ h', (∀ b o, b ≠ x → s.heap.get? b = some o → h'.get? b = some o) → h'.get? x = some (excObj C s.heap.objs.size dv c2) → h'.get? s.heap.objs.size = some (excTup rest) → Q .none { s with heap := h' } := by
    intro h' keep gx' gt'
    obtain ⟨oL, es, ep, gL, nsr⟩ := f.ns
    have nx := (n (x, excObj C t dv c2) (List.mem_append_right _ List.mem_cons_self)).2
    have keep0 : ∀ b o, h₀.get? b = some o → h'.get? b = some o := fun b o z => keep b o (fun y => by
      rw [y, nx.2] at z
      cases z) (f.keep b o z)
    refine q s.heap.objs.size h' ⟨⟨oL, es, ep, keep _ _ (fun z => nx.1 z.symm) gL, nsr⟩, keep0, f.above⟩ ?_ lt
    rw [un]
    intro p hp
    have lL := Heap.lt_size (show s.heap.get? L = some oL from gL)
    rcases List.mem_cons.mp hp with rfl | hp
    · refine ⟨gt', fun z => absurd (show s.heap.objs.size < s.heap.objs.size by rw [show s.heap.objs.size = L from z] at lL ⊢; exact lL) (Nat.lt_irrefl _), ?_⟩
      cases z : h₀.get? s.heap.objs.size with
      | none => rfl
      | some o => exact absurd (Heap.lt_size (f.keep _ _ z)) (Nat.lt_irrefl _)
    · rcases List.mem_append.mp hp with hp | hp
      · have y := n p (List.mem_append_left _ hp)
        exact ⟨keep _ _ (l1 p hp) y.1, y.2⟩
      · rcases List.mem_cons.mp hp with rfl | hp
        · exact ⟨gx', nx⟩
        · have y := n p (List.mem_append_right _ (List.mem_cons_of_mem _ hp))
          exact ⟨keep _ _ (l2 p hp) y.1, y.2⟩
  obtain ⟨hp, gs, dr, tk, os⟩ := s
  refine wpAny_call (codeAny_of_tree ?_)
  show wpAny _ A.in1 (callAny (.ref u) ⟨rest, []⟩) _ _ _
  simp only [callAny]
  refine wpAny_bind (wpAny_load gu ?_)
  have mw : (Value.type "method-wrapper" == Value.type "method" || Value.type "method-wrapper" == Value.type "builtin_function_or_method" || Value.type "method-wrapper" == Value.type "method-wrapper") = true := by decide
  simp only [kxs_mw, mw, if_true]
  refine KFB.if_so (by decide) (wpAny_bind (ke_checked cls gx rfl (wpAny_bind (wpAny_pure (wpAny_pure ?_)))))
  exact ⟨plainId_quiet excClass_KeyError.init.plain _, codeAny_builtin excClass_KeyError.initEntry (exc_init_tree (cls := .ref C) (t0 := t) (dv := dv) (c2 := c2) (c3 := .none) (b4 := .bool false) gx lr fin)⟩
end
theorem base_KeyError : BaseX "KeyError" "LookupError.__new__" "KeyError.__init__" keT :=
  ⟨fun hT c li lb lr q => ke_own hT c li lb lr q, fun f X n ei hu up lr q => ke_sup f X n ei hu up lr q, kxs_keyE, keyE_pass, by decide +kernel, (fun _ _ h => nomatch h), (fun h => nomatch h)⟩
end EXV
end PySem

/-! Own layer: repr of nested data. repr asks that no repr is under way around it, so such defs promise only there (FnG). -/
namespace L2
open PySem PySem.Spec PyProof.Rows
/-! ### defs that are called where no repr is under way -/
structure FnG (P : Program) (w : World) (K : PySem.W.Frag) (mg : Str → Option Value) (base : Heap) (CX : CXT) (k : Nat) (f : Addr) (fd : FuncData) (ps : List Str) (sp : Sp) : Prop where
  len : ∀ vs H Q E, sp vs H Q E → vs.length = ps.length
  run : ∀ (A : Around) (outer : List Env) (s : Shared) (H : Hp) (args : Args) (us : List Value) (vs : List V) (Q : VK) (E : XK), Room k A → A.guards = some [] → Env0 P w K mg base A outer s H → BindsTo s fd args (ps.zip us) → Vals vs us → sp vs H Q E →
    codeAny (model P w) A (.call (.ref f) args) (CR CX outer P w H s Q E) s
section
variable {P : Program} {w : World} {K : PySem.W.Frag} {mg : Str → Option Value} {base : Heap} {CX : CXT} {k : Nat} {f : Addr} {fd : FuncData} {ps : List Str} {sp : Sp}
theorem FnOk.toG (F : FnOk P w K mg base CX k f fd ps sp) : FnG P w K mg base CX k f fd ps sp :=
  ⟨F.len, fun A outer s H args us vs Q E hr _ => F.run A outer s H args us vs Q E hr⟩
theorem FnG.mono {j : Nat} (F : FnG P w K mg base CX j f fd ps sp) (h : j ≤ k) : FnG P w K mg base CX k f fd ps sp :=
  ⟨F.len, fun A outer s H args us vs Q E hr => F.run A outer s H args us vs Q E (hr.mono h)⟩
/-- a def, by its body -/
theorem FunD.okG {x qual : Str} {params : Arguments} {body : List Stmt} {scope : Scope} {dvs : List V} {kws : List (Str × V)} {N : List Str} (F : FunD K x qual params body scope dvs kws f fd) (S : FnScope N ps scope) (len : ∀ vs H Q E, sp vs H Q E → vs.length = ps.length)
    (hbody : ∀ (cdv : Value) (A : Around) (outer : List Env) (s : Shared) (H : Hp) (vs : List V) (Q : VK) (E : XK), Room k (A.deeper (envOfC qual scope s.heap.objs.size f cdv)) → A.guards = some [] → sp vs H Q E →
      ∃ t, PSs (cxOf CX P w K mg base N qual scope f cdv A outer s H E) body t ∧ t { nx := fun _ H' => Q .non H', rt := Q } (start N vs) H) : FnG P w K mg base CX (k + 1) f fd ps sp := by
  obtain ⟨oc, od, dV, kV, doc, pm, an, cdv, ct, osl, rfl, lk, hcd, _, _⟩ := F.ex
  refine ⟨len, fun A outer s H args us vs Q E hr hg e0 hb r hsp => ?_⟩
  have hl := len _ _ _ _ hsp
  have KX : K.In s.heap := e0.mod.kin.keeps fun b o e => (e0.bs b o e).1
  have lim : s.heap.NoLimit := e0.mod.nolimit.keeps fun b o e => (e0.bs b o e).1
  refine codeAny_call_function hr.depth (KX _ _ lk) rfl S.co S.gen rfl (PySem.W.codeRec_of KX hcd) (hb _ _ _ _ ?_)
  refine wpAny_newFunctionEnv_cells S.kind (fun ⟨n, v⟩ hy => (S.par n (List.of_mem_zip hy).1).elim .inl fun q => .inr ⟨q, PySem.W.cellsFrom_some _ _ _ (.inl q)⟩) fun env he s1 x => ?_
  subst he
  refine ⟨lim.keeps x.toInCall.keep, codeAny_func ?_⟩
  obtain ⟨t, ht, hq⟩ := hbody cdv A outer s H vs Q E (hr.deeper _) hg hsp
  have I : Inv (cxOf CX P w K mg base N qual scope f cdv A outer s H E) [] (start N vs) H s1 := inv_start S hr.hd e0 hl r x
  refine wpAny_mono (ht.run [] s1 (start N vs) H _ I hq) (fun fl s' hs => ?_) fun e s' hs => hs
  cases fl with
  | ret u =>
    obtain ⟨v, σ', H', J, rv, q⟩ := hs
    exact ⟨v, H', J.os, J.bare, J.base, J.hok, rv, q⟩
  | next =>
    obtain ⟨σ', H', J, q⟩ := hs
    exact ⟨V.non, H', J.os, J.bare, J.base, J.hok, rfl, q⟩
  | brk => exact hs.elim fun _ h => h.elim fun _ h => h.2.elim
  | cont => exact hs.elim fun _ h => h.elim fun _ h => h.2.elim
end
section
variable {X : Cx} {CX : CXT} {k n : Nat} {f : Addr} {fd : FuncData} {ps ks : List Str} {sp : Sp} {dvs : List V} {ds : List Value} {E : XK} {x : Str} {p pos : Pos} {e : Expr} {es : List Expr} {kws : List Keyword} {t tk : TA} {g : List Value → List Value → List Value} {gV : List V → List V → List V}
theorem run_fnG {pins : List (Addr × Obj)} {σ : St} {H : Hp} {s : Shared} {Q : VK} {us : List Value} {vs : List V} (hA : X.A.guards = some []) (F : FnG X.prog X.w X.K X.mg X.base CX k f fd ps sp) (hr : Room k X.A) (hb : Binds X.K fd ps ds) (hd : Vals dvs ds) (hx : Passes CX X E)
    (I : Inv X pins σ H s) (r : Vals vs us) (h : sp (vs ++ dvs) H Q E) : wpAny (model X.prog X.w) X.A (call (.ref f) us) (EP X pins σ Q) X.xe s := by
  have r2 : Vals (vs ++ dvs) (us ++ ds) := r.append hd
  have hl : (us ++ ds).length = ps.length := by rw [← r2.length]; exact F.len _ _ _ _ h
  refine wpAny_call (codeAny_mono (F.run X.A X.stack s H ⟨us, []⟩ (us ++ ds) (vs ++ dvs) Q E hr hA I.env0 (hb s us I.kIn hl) r2 h) fun r s' hq => ?_)
  match r, hq with
  | .error e, hq => exact hx pins σ H s e s' I hq
  | .ok (.ret u), hq => exact I.after hq
  | .ok .next, hq => exact hq.elim
  | .ok .brk, hq => exact hq.elim
  | .ok .cont, hq => exact hq.elim
theorem pe_callG (hA : X.A.guards = some []) (F : FnG X.prog X.w X.K X.mg X.base CX k f fd ps sp) (hr : Room k X.A) (hg : Gl X x) (hm : X.mg x = some (.ref f)) (hk : PySem.W.keepIn X.K (.ref f) = true) (hb : Binds X.K fd ps ds) (hd : Vals dvs ds) (hx : Passes CX X E)
    (ha : PA X (e :: es) t) (hdb : (x == ("__debug__" : Str)) = false := by decide) (he : starEach (e :: es) X.env = (false, eval e X.env) :: starEach es X.env := by rfl) (hpl : (backTo pos (starEach es X.env)).any (·.1) = false := by rfl) :
    PE X (.Call (.Name x p) (e :: es) [] pos) (tCall sp dvs E t) := by
  refine ⟨fun pins s σ H Q I h => wpAny_Call_Name_kw (ld_glob I hg hm ?_ hdb)⟩
  exact PySem.W.callWith_K (h₀ := X.base) I.ok.mod.kin hk (thn (ha.run pos pins s σ H _ I h) fun us s1 ⟨vs, H1, I1, r, q⟩ => ⟨I1.kIn, run_fnG hA F hr hb hd hx I1 r q⟩) he hpl
theorem pe_callG0 (hA : X.A.guards = some []) (F : FnG X.prog X.w X.K X.mg X.base CX k f fd ps sp) (hr : Room k X.A) (hg : Gl X x) (hm : X.mg x = some (.ref f)) (hk : PySem.W.keepIn X.K (.ref f) = true) (hb : Binds X.K fd ps ds) (hd : Vals dvs ds) (hx : Passes CX X E)
    (hdb : (x == ("__debug__" : Str)) = false := by decide) : PE X (.Call (.Name x p) [] [] pos) (tCall sp dvs E tNil) := by
  refine ⟨fun pins s σ H Q I h => wpAny_Call_Name_kw (ld_glob I hg hm ?_ hdb)⟩
  exact PySem.W.callWith_K0 I.kIn hk (run_fnG (us := []) hA F hr hb hd hx I .nil h)
end
/-! ### data with dicts, as repr reads it -/
def keyD : Key → PyData
  | .inl i => .int i
  | .inr x => .str x
mutual
inductive Dx (K : PySem.W.Frag) (H : Hp) : V → PyData → Prop
  | non : Dx K H .non .none
  | bl (b : Bool) : Dx K H (.bl b) (.bool b)
  | int (i : Int) : Dx K H (.int i) (.int i)
  | str (x : Str) : Dx K H (.str x) (.str x)
  | lst {a : Addr} {xs : List V} {ds : List PyData} : SqL K H a xs → DxAll K H xs ds → Dx K H (.ref a) (.list ds)
  | tup {a : Addr} {xs : List V} {ds : List PyData} : SqT K H a xs → DxAll K H xs ds → Dx K H (.ref a) (.tuple ds)
  | dic {a : Addr} {ks : List (Key × V)} {kvs : List (PyData × PyData)} : Rd H a (.dK ks) → kvs.map (·.1) = ks.map (fun p => keyD p.1) → DxAll K H (ks.map (·.2)) (kvs.map (·.2)) → Dx K H (.ref a) (.dict kvs)
inductive DxAll (K : PySem.W.Frag) (H : Hp) : List V → List PyData → Prop
  | nil : DxAll K H [] []
  | cons {v : V} {vs : List V} {d : PyData} {ds : List PyData} : Dx K H v d → DxAll K H vs ds → DxAll K H (v :: vs) (d :: ds)
end
section
variable {X : Cx} {pins : List (Addr × Obj)} {σ : St} {H : Hp} {s : Shared}
theorem keys_read {h : Heap} : ∀ {es : List DictEntry} {vs : List (Key × Value)} {knd : PySem.KeyKind X.prog X.w Key}, knd.is = keyIs → Pairs knd es vs → ReadsAll h (es.map (·.key)) (vs.map fun q => keyD q.1) []
  | _, _, _, _, .nil => .nil
  | e :: es, q :: qs, knd, hk, .cons h1 h2 h3 => by
    have r := keys_read (h := h) hk h3
    rw [hk] at h1
    rcases keyIs_shape h1 with ⟨i, t, e1, e2⟩ | ⟨x, t, e1, e2⟩
    · rw [List.map_cons, List.map_cons, e1, e2]
      exact .cons (as := []) (.int i t) r
    · rw [List.map_cons, List.map_cons, e1, e2]
      exact .cons (as := []) (.str x t) r
theorem pairs_vals {es : List DictEntry} {vs : List (Key × Value)} {knd : PySem.KeyKind X.prog X.w Key} (h : Pairs knd es vs) : es.map (·.val) = vs.map (·.2) := by
  induction h with
  | nil => rfl
  | cons h1 h2 h3 ih => rw [List.map_cons, List.map_cons, h2, ih]
theorem kv_keys {ks : List (Key × V)} {vs : List (Key × Value)} (h : KV ks vs) : vs.map (fun q => keyD q.1) = ks.map (fun p => keyD p.1) := by
  unfold KV at h
  induction h with
  | nil => rfl
  | cons h1 h2 ih => rw [List.map_cons, List.map_cons, ih, h1.1]
theorem kv_vals {ks : List (Key × V)} {vs : List (Key × Value)} (h : KV ks vs) : Vals (ks.map (·.2)) (vs.map (·.2)) := by
  unfold KV at h
  induction h with
  | nil => exact .nil
  | cons h1 h2 ih => exact .cons h1.2 ih
end
end L2

namespace L2
open PySem PySem.Spec PyProof.Rows
section
variable {X : Cx} {pins : List (Addr × Obj)} {σ : St} {H : Hp} {s : Shared}
/-- the module's dict of modules is among the written part's objects -/
def HasSm (K : PySem.W.Frag) : Prop := ∃ o, K.lookup sysModules = some o ∧ o.cls = .type "dict"
mutual
theorem Dx.reads (I : Inv X pins σ H s) (sm : HasSm X.K) : ∀ (d : PyData) (v : V) (u : Value), Dx X.K H v d → RelV v u → ∃ as, Reads s.heap u d as ∧ sysModules ∉ as
  | .none, _, _, h, r => by cases h; cases r; exact ⟨_, Reads.none, by simp⟩
  | .bool b, _, _, h, r => by cases h; cases r; exact ⟨_, Reads.bool b, by simp⟩
  | .int i, _, _, h, r => by cases h; obtain ⟨t, rfl⟩ := r; exact ⟨_, Reads.int i t, by simp⟩
  | .str x, _, _, h, r => by cases h; obtain ⟨t, rfl⟩ := r; exact ⟨_, Reads.str x t, by simp⟩
  | .list ds, _, _, h, r => by
    cases h with
    | lst hs ha =>
      cases r
      obtain ⟨its, rv, ⟨o, n, ho, hc, _, hd⟩, _⟩ := I.list hs
      obtain ⟨as, hr, hn⟩ := Dx.readsAll I sm ds _ its ha rv
      refine ⟨_, Reads.list ho hc hd hr, fun hm => ?_⟩
      rcases List.mem_cons.mp hm with e | hm
      · obtain ⟨o', k1, k2⟩ := sm
        have q := I.kIn _ _ k1
        rw [e, ho] at q
        cases q
        rw [hc] at k2
        exact absurd k2 (by decide)
      · exact hn hm
  | .tuple ds, _, _, h, r => by
    cases h with
    | tup hs ha =>
      cases r
      obtain ⟨its, rv, ⟨o, ho, hc, n, hd⟩, _⟩ := I.tuple hs
      obtain ⟨as, hr, hn⟩ := Dx.readsAll I sm ds _ its ha rv
      exact ⟨_, Reads.tuple ho hc hd hr, hn⟩
  | .dict kvs, _, _, h, r => by
    cases h with
    | dic hs hk ha =>
      cases r
      obtain ⟨_, hsm, vs, rel, o, es, ep, ho, hx, hd, _, hp, _⟩ := dk_rd I.hok hs
      obtain ⟨bs, hr, hn⟩ := Dx.readsKv I sm kvs _ (vs.map (·.2)) ha (kv_vals rel)
      have r1 : ReadsAll s.heap (es.toList.map (·.key)) (kvs.map (·.1)) [] := by
        rw [hk, ← kv_keys rel]
        exact keys_read (X := X) rfl hp
      rw [← pairs_vals hp] at hr
      refine ⟨_, Reads.dict ho hx.1 hd r1 hr, fun hm => ?_⟩
      rcases List.mem_append.mp hm with hm | hm
      · rw [List.mem_singleton.mp hm] at hsm
        simp at hsm
      · exact hn hm
theorem Dx.readsAll (I : Inv X pins σ H s) (sm : HasSm X.K) : ∀ (ds : List PyData) (vs : List V) (us : List Value), DxAll X.K H vs ds → Vals vs us → ∃ as, ReadsAll s.heap us ds as ∧ sysModules ∉ as
  | [], _, _, h, r => by cases h; cases r; exact ⟨_, ReadsAll.nil, by simp⟩
  | d :: ds, _, _, h, r => by
    cases h with
    | cons h1 h2 =>
      cases r with
      | cons r1 r2 =>
        obtain ⟨as, q1, n1⟩ := Dx.reads I sm d _ _ h1 r1
        obtain ⟨bs, q2, n2⟩ := Dx.readsAll I sm ds _ _ h2 r2
        exact ⟨_, ReadsAll.cons q1 q2, fun hm => (List.mem_append.mp hm).elim n1 n2⟩
theorem Dx.readsKv (I : Inv X pins σ H s) (sm : HasSm X.K) : ∀ (kvs : List (PyData × PyData)) (vs : List V) (us : List Value), DxAll X.K H vs (kvs.map (·.2)) → Vals vs us → ∃ as, ReadsAll s.heap us (kvs.map (·.2)) as ∧ sysModules ∉ as
  | [], _, _, h, r => by cases h; cases r; exact ⟨_, ReadsAll.nil, by simp⟩
  | (k, d) :: ds, _, _, h, r => by
    rw [List.map_cons] at h ⊢
    cases h with
    | cons h1 h2 =>
      cases r with
      | cons r1 r2 =>
        obtain ⟨as, q1, n1⟩ := Dx.reads I sm d _ _ h1 r1
        obtain ⟨bs, q2, n2⟩ := Dx.readsKv I sm ds _ _ h2 r2
        exact ⟨_, ReadsAll.cons q1 q2, fun hm => (List.mem_append.mp hm).elim n1 n2⟩
end
/-- what repr may be asked of: ints of less than 1920 bits, nested at most 60 deep, a text that fits -/
def Fine (d : PyData) : Prop := d.showable = true ∧ d.depth ≤ 60 ∧ d.shown.length ≤ sizeLine
def rReprD (K : PySem.W.Frag) : List V → Hp → VK → Prop := fun xs H Q => ∃ x d, xs = [x] ∧ Dx K H x d ∧ Fine d ∧ Q (.str d.shown) H
theorem call_reprD (hA : X.A.guards = some []) (hu : X.A.units + 64 < cLine) (sm : HasSm X.K) : CallR X (.builtin "repr") (rReprD X.K) := by
  intro pins s σ H xs us Q I r h
  obtain ⟨x, d, rfl, hd, ⟨h1, h2, h3⟩, q⟩ := h
  obtain ⟨u, rfl, ru⟩ := vals1 r
  obtain ⟨as, hr, hn⟩ := Dx.reads I sm d x u hd ru
  have fin : ∀ (h' : Heap) (t : Tok) (tk : Nat), (∀ b o, s.heap.get? b = some o → h'.get? b = some o) → EP X pins σ Q (.str d.shown t) { s with heap := h', toks := tk } := fun h' t tk hk =>
    ⟨.str _, H, I.kept (t' := tk) hk, ⟨t, rfl⟩, q⟩
  cases hr with
  | none => exact PySem.P.repr_of_none (fin s.heap _ _ fun _ _ e => e)
  | bool b => exact PySem.P.repr_of_bool (fin s.heap _ _ fun _ _ e => e)
  | int i t => exact PySem.P.repr_of_int (by simpa [PyData.showable] using h1) (fin s.heap _ _ fun _ _ e => e)
  | str y t => exact PySem.P.repr_of_str (fin s.heap _ _ fun _ _ e => e) h3
  | list a1 a2 a3 a4 => exact repr_of_reads' (.list a1 a2 a3 a4) h1 (fun _ => hn) hA (by omega) (fun _ _ e => e) (fun h' u tk hk => fin h' u tk hk) h3
  | tuple a1 a2 a3 a4 => exact repr_of_reads' (.tuple a1 a2 a3 a4) h1 (fun _ => hn) hA (by omega) (fun _ _ e => e) (fun h' u tk hk => fin h' u tk hk) h3
  | dict a1 a2 a3 a4 a5 => exact repr_of_reads' (.dict a1 a2 a3 a4 a5) h1 (fun _ => hn) hA (by omega) (fun _ _ e => e) (fun h' u tk hk => fin h' u tk hk) h3
end
end L2

namespace L2
open PySem PySem.Spec PyProof.Rows
section
variable {P : Program} {w : World} {K : PySem.W.Frag} {mg mb : Str → Option Value} {s₁ : Shared}
/-- the state behind the top, seen with the objects of H tracked: none of them holds names, none is the written part's -/
theorem top_env0 (KX : K.In s₁.heap) (hns : s₁.heap.Ns mainGlobals mg) (hb : s₁.heap.Ns builtinsNs mb) (hbb : ∀ x : Str, x ≠ "__name__" → mb x = bootBuiltins x) (hlim : s₁.heap.NoLimit) (hg : s₁.gens = #[])
    {H : Hp} (hok : HOk P w H s₁.heap) (hA : ∀ b o, H b ≠ none → s₁.heap.get? b = some o → ∀ es ep, o.data ≠ .dict es ep) (hK : ∀ b, H b ≠ none → K.lookup b = none) :
    Env0 P w K mg (hidT s₁.heap H) callerA [] s₁ H ∧ K.In (hidT s₁.heap H) ∧ (hidT s₁.heap H).Ns mainGlobals mg := by
  have keepN : ∀ {b : Addr} {m : Str → Option Value}, s₁.heap.Ns b m → (hidT s₁.heap H).Ns b m := fun {b m} ⟨o, es, ep, e, d, r⟩ =>
    ⟨o, es, ep, hidT_get e (Classical.byContradiction fun z => hA b o z e es ep d), d, r⟩
  have keepK : K.In (hidT s₁.heap H) := fun b o e => hidT_get (KX b o e) (Classical.byContradiction fun z => by rw [hK b z] at e; cases e)
  refine ⟨⟨rfl, ⟨keepK, keepN hns, ⟨mb, keepN hb, hbb⟩, ?_⟩, fun b o e => of_hidT e, Nat.le_of_eq (hidT_size _ _), trivial, fun b hb => ?_, hok, .of_eq hg⟩, keepK, keepN hns⟩
  · obtain ⟨mc, h1, h2⟩ := hlim
    exact ⟨mc, keepN h1, h2⟩
  · exact absurd (show b ∈ ([] : List Addr) from hb) (List.not_mem_nil)
/-- the law's call: its def promises where no repr is under way -/
theorem law_callG {CX : CXT} {k : Nat} {fa a : Addr} {fd : FuncData} {x : Str} {sp : Sp} {vs : List Value} {ns : List Int}
    (KX : K.In s₁.heap) (hns : s₁.heap.Ns mainGlobals mg) (hb : s₁.heap.Ns builtinsNs mb) (hbb : ∀ x : Str, x ≠ "__name__" → mb x = bootBuiltins x) (hlim : s₁.heap.NoLimit) (hg : s₁.gens = #[])
    (ha : s₁.heap.get? a = some { cls := .type "list", data := .seq vs.toArray }) (hi : IntsAre vs ns) (hl : ns.length ≤ sizeLine) (hr : Room k callerA)
    (F : ∀ base : Heap, K.In base → base.Ns mainGlobals mg → FnG P w K mg base CX k fa fd [x] sp) (hbind : ∀ (s : Shared) (u : Value), BindsTo s fd ⟨[u], []⟩ [(x, u)])
    (hsp : ∀ H : Hp, Only H → SqL K H a (ns.map V.int) → sp [.ref a] H (fun v _ => v = .bl true) fun _ _ _ => False)
    (hCX : ∀ H e s', CX [] H s₁ (fun _ _ _ => False) e s' → False) :
    codeAny (model P w) callerA (.call (.ref fa) ⟨[.ref a], []⟩) (fun r s' => r = .ok (.ret (.bool true)) ∧ OldK s₁.heap s'.heap ∧ s'.os = s₁.os ∧ AllBare s'.gens) s₁ := by
  have rv := vals_ints hi
  -- once H is chosen
  have go : ∀ H : Hp, Only H → SqL K H a (ns.map V.int) → HOk P w H s₁.heap → (∀ b, H b ≠ none → b = a ∧ K.lookup b = none) →
      codeAny (model P w) callerA (.call (.ref fa) ⟨[.ref a], []⟩) (fun r s' => r = .ok (.ret (.bool true)) ∧ OldK s₁.heap s'.heap ∧ s'.os = s₁.os ∧ AllBare s'.gens) s₁ := by
    intro H hO hS hok hA
    obtain ⟨e0, b1, b2⟩ := top_env0 (P := P) (w := w) KX hns hb hbb hlim hg hok (fun b o z e es ep d => by
      rw [(hA b z).1, ha] at e
      cases e
      exact Data.noConfusion d) fun b z => (hA b z).2
    refine codeAny_mono ((F _ b1 b2).run callerA [] s₁ H ⟨[.ref a], []⟩ [.ref a] [.ref a] _ _ hr rfl e0 (hbind s₁ (.ref a)) (.cons rfl .nil) (hsp H hO hS)) fun r s' h => ?_
    match r, h with
    | .error e, h => exact (hCX H e s' h).elim
    | .ok .next, h => exact h.elim
    | .ok .brk, h => exact h.elim
    | .ok .cont, h => exact h.elim
    | .ok (.ret u), h =>
      obtain ⟨v, H', os, bare, un, hok', r', q⟩ := h
      have q2 : v = .bl true := q
      subst q2
      obtain rfl : u = Value.bool true := r'
      refine ⟨rfl, OldK.of_keep fun b o e => ?_, os, bare⟩
      rcases hO b with z | ⟨ob, xs, z⟩
      · exact un.keep b o e z (List.not_mem_nil) (List.not_mem_nil)
      · have e1 := (hok b _ z).1
        have e2 := (hok' b _ (un.frzs b ob _ z)).1
        rw [e] at e1
        cases e1
        exact e2
  cases hk : K.lookup a with
  | some o =>
    have e := KX a o hk
    rw [ha] at e
    cases e
    refine go (fun _ => none) (fun _ => .inl rfl) (.inr ⟨_, vs.toArray, _, hk, rfl, rfl, rfl, ?_, by simpa using rv⟩) (fun b u z => nomatch (show (none : Option HO) = some u from z)) fun b z => absurd rfl z
    rw [List.size_toArray, hi.length]
    exact hl
  | none =>
    have at_a : ∀ {b : Addr} {u : HO}, (if b = a then some (HO.frz { cls := .type "list", data := .seq vs.toArray } (.lst (ns.map V.int))) else none) = some u → b = a ∧ u = .frz { cls := .type "list", data := .seq vs.toArray } (.lst (ns.map V.int)) := fun {b u} z => by
      split at z
      · rename_i hb
        cases z
        exact ⟨hb, rfl⟩
      · cases z
    refine go (fun b => if b = a then some (.frz { cls := .type "list", data := .seq vs.toArray } (.lst (ns.map V.int))) else none) (fun b => ?_) (.inl (.inr ⟨{ cls := .type "list", data := .seq vs.toArray }, if_pos rfl⟩)) (fun b u z => ?_) fun b z => ?_
    · by_cases hb : b = a
      · exact .inr ⟨_, _, if_pos hb⟩
      · exact .inl (if_neg hb)
    · obtain ⟨rfl, rfl⟩ := at_a z
      exact ⟨ha, by rw [List.length_map]; exact hl, vs, _, rv, ha⟩
    · obtain ⟨u, hu⟩ := Option.ne_none_iff_exists'.mp z
      obtain ⟨rfl, _⟩ := at_a hu
      exact ⟨rfl, hk⟩
end
/-- a law over a head by facts, its def under no repr -/
theorem walk_ofG {l : PySem.W.OpenLaw} {n k : Nat} {q : Program} {loose : List Str} {XP : (Str → Option Value) → Heap → Prop} {YP : World → Heap → Prop} {d : DefRec} {CX : CXT} {x : Str}
    (hn : l.most = some n) (hn2 : n ≤ sizeLine) (hdf : d.params.defaults = []) (hr : Room k callerA)
    (F : ∀ (w : World) (mg : Str → Option Value) (fa : Addr) (h : Heap), YP w h → h.Ns mainGlobals mg → mg d.name = some (.ref fa) →
      ∃ (K : PySem.W.Frag) (fd : FuncData) (sp : Sp), K.In h ∧ (∀ (s : Shared) (u : Value), BindsTo s fd ⟨[u], []⟩ [(x, u)]) ∧
        (∀ (H : Hp) (a : Addr) (ns : List Int), ns.length ≤ n → Only H → SqL K H a (ns.map V.int) → sp [.ref a] H (fun v _ => v = .bl true) fun _ _ _ => False) ∧
        ∀ base : Heap, K.In base → base.Ns mainGlobals mg → FnG l.prog w K mg base CX k fa fd [x] sp)
    (hCX : ∀ (H : Hp) (s : Shared) (e : Value) (s' : Shared), CX [] H s (fun _ _ _ => False) e s' → False) :
    PySem.W.WalkO q loose XP YP l.row.toRowW d [] (fun f vs => PySem.call f vs) := by
  refine Att.attach_call hn hdf fun w s₀ s₁ mg mb fa o pm cd doc a vs ns G Y ho hd hcd hmg hobj hints hlen hg => ?_
  obtain ⟨K, fd, sp, KX, hb, hsp, hF⟩ := F w mg fa _ Y G.T.g hmg
  exact law_callG KX G.T.g G.T.b G.T.builtins G.T.nolimit hg hobj hints (Nat.le_trans hlen hn2) hr hF hb (fun H => hsp H a ns hlen) fun H e s' => hCX H s₁ e s'
end L2

namespace PySem
namespace EXV
open PySem.W PySem.Calls PyProof.Rows PySem.HandSPX He L2
/-! ### a Hook: facts, defs, any tests of the written part, own error classes -/
abbrev FnC : Type := Option (Str × Str × Arguments × FuncBody × Scope × Addr × List Str × Value × Value × Addr)
def fnC (K : Frag) (a : Addr) : FnC := match K.lookup a with
  | some ⟨_, _, .func fd, _⟩ => some (fd.name, fd.qualname, fd.params, fd.body, fd.scope, fd.globals, fd.closure.map (·.1), fd.defaults, fd.kwdefaults, fd.builtins)
  | _ => none
/-- the text of an own error class: its name, its __init__'s qualified name, the field, the message, the places -/
structure ExD where
  x : Str
  q : Str
  fld : Str
  txt : Str
  k : Nat
  p : Nat → Pos
  p1 : Pos
  p2 : Pos
  b : Nat := 0
  /-- an __init__ without arguments -/
  z : Bool := false
/-- the bases: 0 ValueError, 1 LookupError, 2 KeyError -/
def bNm : Nat → String
  | 0 => "ValueError"
  | 1 => "LookupError"
  | _ => "KeyError"
def bNw : Nat → String
  | 0 => "ValueError.__new__"
  | _ => "LookupError.__new__"
def bIn : Nat → String
  | 0 => "ValueError.__init__"
  | 1 => "LookupError.__init__"
  | _ => "KeyError.__init__"
def bTl : Nat → List Value
  | 0 => [.type "ValueError", .type "Exception", .type "BaseException", .type "object"]
  | 1 => [.type "LookupError", .type "Exception", .type "BaseException", .type "object"]
  | _ => keT
theorem b_base : ∀ b : Nat, BaseX (bNm b) (bNw b) (bIn b) (bTl b)
  | 0 => base_ValueError
  | 1 => base_LookupError
  | _ + 2 => base_KeyError
def ExD.val (d : ExD) : FnC := match d.z with
  | false => some ("__init__", d.q, xArgs d.fld d.p1 d.p2, .stmts (xBody d.fld d.txt d.k d.p), xScope d.fld, mainGlobals, ["__class__"], .none, .none, builtinsNs)
  | true => some ("__init__", d.q, xArgs0 d.p1, .stmts (xBody0 d.txt d.k d.p), xScope0, mainGlobals, ["__class__"], .none, .none, builtinsNs)
def clsB (nw : String) (T : List Value) (K : Frag) (C : Addr) : Bool := match K.lookup C with
  | some ⟨.type "type", _, .cls cd, sl⟩ => (match cd.mro, sl.toList with
    | .ref C' :: bm, [_, _, _, _, some (.builtin n), _] => C' == C && n == nw && !cd.hasDel && cd.hasDict && refsT T bm
    | _, _ => false)
  | _ => false
theorem clsB_ok {nw : String} {T : List Value} {K : Frag} {C : Addr} (h : clsB nw T K C = true) :
    ∃ nm q N bs bm sn sub ab col dd k0 k1 k2 k3 k5, K.lookup C = some (excClassObj nm q C N bs bm true sn sub ab col dd k0 k1 k2 k3 k5 nw) ∧ refsT T bm = true := by
  unfold clsB at h
  split at h
  · rename_i dd cd sl ho
    split at h
    · rename_i C' bm k0 k1 k2 k3 n k5 hm hs
      simp only [Bool.and_eq_true, beq_iff_eq, Bool.not_eq_true'] at h
      obtain ⟨⟨⟨⟨rfl, rfl⟩, h1⟩, h2⟩, h3⟩ := h
      obtain ⟨nm, bs, mro, ns, qn, hd, sn, sub, ab, col, del⟩ := cd
      dsimp only at hm h1 h2
      subst hm h1 h2
      obtain ⟨l⟩ := sl
      have hl : l = [k0, k1, k2, k3, some (.builtin n), k5] := hs
      subst hl
      exact ⟨nm, qn, ns, bs, bm, sn, sub, ab, col, dd, k0, k1, k2, k3, k5, ho, h3⟩
    · cases h
  · cases h
def fileB (K : Frag) (cd : Value) (file : Str) : Bool := match cd with
  | .ref c => (match K.lookup c with
    | some (⟨_, _, .fields vs, _⟩ : Obj) => (match (vs[2]? : Option Value) with
      | some (.str f _) => file == f
      | _ => false)
    | _ => false)
  | _ => false
theorem fileB_ok {K : Frag} {c : Addr} {file : Str} (h : fileB K (.ref c) file = true) :
    ∃ ccl cdd vs ccs f tf, K.lookup c = some ⟨ccl, cdd, .fields vs, ccs⟩ ∧ vs[2]? = some (.str f tf) ∧ (file == f) = true := by
  have h1 : (match K.lookup c with
    | some (⟨_, _, .fields vs, _⟩ : Obj) => (match (vs[2]? : Option Value) with
      | some (.str f _) => file == f
      | _ => false)
    | _ => false) = true := h
  split at h1
  · rename_i a b vs d e
    split at h1
    · rename_i f t e2
      exact ⟨_, _, _, _, _, _, e, e2, h1⟩
    · cases h1
  · cases h1
def cellB (K : Frag) (C : Addr) (l : List (Str × Addr)) : Bool := match l with
  | [(_, cc)] => (match K.lookup cc with
    | some ⟨_, _, .cell (some (.ref D)), _⟩ => D == C
    | _ => false)
  | _ => false
theorem cellB_ok {K : Frag} {C cc : Addr} {y : Str} (h : cellB K C [(y, cc)] = true) : ∃ cl cld csl, K.lookup cc = some ⟨cl, cld, .cell (some (.ref C)), csl⟩ := by
  have h1 : (match K.lookup cc with
    | some ⟨_, _, .cell (some (.ref D)), _⟩ => D == C
    | _ => false) = true := h
  split at h1
  · rename_i a b D d e
    rw [beq_iff_eq] at h1
    rw [← h1]
    exact ⟨_, _, _, e⟩
  · cases h1
def initB (K : Frag) (C fI : Addr) (q file : Str) : Bool := match K.lookup fI with
  | some ⟨_, _, .func fd, _⟩ => codeIn K fd.code q && fileB K fd.code file && cellB K C fd.closure
  | _ => false
def fldB (fld : Str) : Bool := (fld == ("self" : Str)) == false && ((("self" : Str) == fld) == false && ((fld == ("__class__" : Str)) == false && ((("__class__" : Str) == fld) == false && ((fld == ("super" : Str)) == false && ((("super" : Str) == fld) == false && (fld == ("__debug__" : Str)) == false)))))
def ExD.ok (file : Str) (K : Frag) (d : ExD) : Bool :=
  let C := ga K d.x
  let fI := ma K C "__init__"
  eqO (nsIn K mainGlobals d.x) (some (some (.ref C))) && (clsB (bNw d.b) (bTl d.b) K C && (eqO (findIn K (.ref C) "__setattr__") (some (some (.builtin "object.__setattr__"))) && (eqO (findIn K (.ref C) "__getattribute__") (some (some (.builtin "BaseException.__getattribute__"))) &&
  (eqO (findIn K (.ref C) "__getattr__") (some none) && (eqO (findIn K (.ref C) d.fld) (some none) && (eqO (findIn K (.ref C) "__init__") (some (some (.ref fI))) && (decide (typeIn K (.ref fI) = some (.type "function")) && (keepIn K (.ref C) &&
  (decide (subIn K (.ref C) (.type "BaseException") = some true) && (decide (subIn K (.ref C) (.type (bNm d.b)) = some true) && (decide (typeIn K (.ref C) = some (.type "type")) && (hasDictIn K C && (eqO (ks_superIn K C C "__init__") (some (some (.builtin (bIn d.b)))) &&
  (excInitIn K C (bTl d.b) (bNw d.b) && (decide (mroIn K C (.ref C) = some true) && (eqO (nsIn K cStatics "thirdparty.any") (some none) && (eqO (nsIn K mainGlobals "super") (some none) &&
  (initB K C fI d.q file && (((d.p 2).endLine == (d.p 4).line) && fldB d.fld)))))))))))))))))))
theorem ExD.toTxt {P : Program} {K : Frag} {h : Heap} {mg : Str → Option Value} {d : ExD} {file : Str} (X : K.In h) (G : h.Ns mainGlobals mg) (e : fnC K (ma K (ga K d.x) "__init__") = d.val) (c : d.ok file K = true) (hf : P.main.file = file) (hz : d.z = false)
    (topS : (P.main.scope.names.lookup ("super" : Str)).isSome = false)
    (hb : ∀ (doc pm : Value) (an : Option Addr) (cdv ct : Value) (cc : Addr) (a b : Value), bindArgs (ksFn "__init__" d.q (xArgs d.fld d.p1 d.p2) (xBody d.fld d.txt d.k d.p) (xScope d.fld) .none .none doc pm an cdv ct cc) ⟨[a, b], []⟩ = pure [(("self" : Str), a), (d.fld, b)]) :
    ExcTxt P K mg d.x d.q d.fld (ga K d.x) (ma K (ga K d.x) "__init__") := by
  unfold ExD.ok at c
  simp only [Bool.and_eq_true] at c
  obtain ⟨c1, c2, c3, c4, c5, c6, c7, c8, c9, c10, c11, c12, c13, c14, c15, c16, c17, c18, c19, c20, c21⟩ := c
  refine { gC := mg_of X G (eqO_ok c1), base := ⟨_, _, _, _, b_base d.b, clsB_ok c2, of_decide_eq_true c11, eqO_ok c14, c15⟩, sa := eqO_ok c3, ga := eqO_ok c4, gg := eqO_ok c5, noN := eqO_ok c6, iC := eqO_ok c7, tC := of_decide_eq_true c8, kC := c9, exC := of_decide_eq_true c10,
           tyC := of_decide_eq_true c12, hdC := c13, self := of_decide_eq_true c16, third := eqO_ok c17, noS := eqO_ok c18, fn := ?_, fldOk := ?_, topS := topS }
  · unfold initB at c19
    unfold fnC at e
    split at c19
    · rename_i oc od fd osl ho
      rw [ho] at e
      obtain ⟨n1, n2, n3, n4, n5, n6, n7, n8, n9, n10, n11, n12, n13, n14, n15⟩ := fd
      have e2 : (some (n1, n2, n3, n4, n5, n6, n7.map (·.1), n8, n9, n15) : FnC) = d.val := e
      unfold ExD.val at e2
      rw [hz] at e2
      simp only [Option.some.injEq, Prod.mk.injEq] at e2
      obtain ⟨h1, h2, h3, h4, h5, h6, h7, h8, h9, h10⟩ := e2
      subst h1 h2 h3 h4 h5 h6 h8 h9 h10
      match n7, h7 with
      | [(y, cc)], h7 =>
        obtain rfl : y = "__class__" := (List.cons.inj h7).1
        simp only [Bool.and_eq_true] at c19
        obtain ⟨⟨k1, k2⟩, k3⟩ := c19
        have k1' : codeIn K n13 d.q = true := k1
        obtain ⟨cda, rfl⟩ : ∃ c, n13 = .ref c := by
          cases n13 with
          | ref c => exact ⟨c, rfl⟩
          | _ => cases k1'
        refine ⟨oc, od, n10, n11, n12, cda, n14, osl, cc, d.txt, d.k, d.p, d.p1, d.p2, ho, k1', ?_, c20, cellB_ok k3, fun a b => hb _ _ _ _ _ _ _ _⟩
        rw [hf]
        exact fileB_ok k2
    · cases c19
  · unfold fldB at c21
    simp only [Bool.and_eq_true, beq_iff_eq] at c21
    exact c21
theorem ExD.toTxt0 {P : Program} {K : Frag} {h : Heap} {mg : Str → Option Value} {d : ExD} {file : Str} (X : K.In h) (G : h.Ns mainGlobals mg) (e : fnC K (ma K (ga K d.x) "__init__") = d.val) (c : d.ok file K = true) (hf : P.main.file = file) (hz : d.z = true)
    (topS : (P.main.scope.names.lookup ("super" : Str)).isSome = false)
    (hb : ∀ (doc pm : Value) (an : Option Addr) (cdv ct : Value) (cc : Addr) (a : Value), bindArgs (ksFn "__init__" d.q (xArgs0 d.p1) (xBody0 d.txt d.k d.p) xScope0 .none .none doc pm an cdv ct cc) ⟨[a], []⟩ = pure [(("self" : Str), a)]) :
    ExcTxt0 P K mg d.x d.q (ga K d.x) (ma K (ga K d.x) "__init__") := by
  unfold ExD.ok at c
  simp only [Bool.and_eq_true] at c
  obtain ⟨c1, c2, c3, c4, c5, c6, c7, c8, c9, c10, c11, c12, c13, c14, c15, c16, c17, c18, c19, c20, c21⟩ := c
  refine { gC := mg_of X G (eqO_ok c1), base := ⟨_, _, _, _, b_base d.b, clsB_ok c2, of_decide_eq_true c11, eqO_ok c14, c15⟩, sa := eqO_ok c3, ga := eqO_ok c4, gg := eqO_ok c5, iC := eqO_ok c7, tC := of_decide_eq_true c8, kC := c9, exC := of_decide_eq_true c10,
           tyC := of_decide_eq_true c12, hdC := c13, self := of_decide_eq_true c16, third := eqO_ok c17, noS := eqO_ok c18, fn := ?_, topS := topS }
  · unfold initB at c19
    unfold fnC at e
    split at c19
    · rename_i oc od fd osl ho
      rw [ho] at e
      obtain ⟨n1, n2, n3, n4, n5, n6, n7, n8, n9, n10, n11, n12, n13, n14, n15⟩ := fd
      have e2 : (some (n1, n2, n3, n4, n5, n6, n7.map (·.1), n8, n9, n15) : FnC) = d.val := e
      unfold ExD.val at e2
      rw [hz] at e2
      simp only [Option.some.injEq, Prod.mk.injEq] at e2
      obtain ⟨h1, h2, h3, h4, h5, h6, h7, h8, h9, h10⟩ := e2
      subst h1 h2 h3 h4 h5 h6 h8 h9 h10
      match n7, h7 with
      | [(y, cc)], h7 =>
        obtain rfl : y = "__class__" := (List.cons.inj h7).1
        simp only [Bool.and_eq_true] at c19
        obtain ⟨⟨k1, k2⟩, k3⟩ := c19
        have k1' : codeIn K n13 d.q = true := k1
        obtain ⟨cda, rfl⟩ : ∃ c, n13 = .ref c := by
          cases n13 with
          | ref c => exact ⟨c, rfl⟩
          | _ => cases k1'
        refine ⟨oc, od, n10, n11, n12, cda, n14, osl, cc, d.txt, d.k, d.p, d.p1, ho, k1', ?_, c20, cellB_ok k3, fun a => hb _ _ _ _ _ _ _⟩
        rw [hf]
        exact fileB_ok k2
    · cases c19
/-! the Hook -/
abbrev AlX : Type := Bool × List FnW × List FnC
def obsX (file : Str) (bs : List (Frag → Bool)) (fa : List Fa) (fn : List DefD) (ex : List ExD) (K : Frag) : AlX :=
  ((fa.all fun f => f.ok K) && ((fn.all fun d => d.ok K) && ((bs.all fun b => b K) && ex.all fun d => d.ok file K)), fn.map fun d => fnW K d.at_, ex.map fun d => fnC K (ma K (ga K d.x) "__init__"))
def valX (fn : List DefD) (ex : List ExD) : AlX := (true, fn.map DefD.val, ex.map ExD.val)
def SaysX (file : Str) (bs : List (Frag → Bool)) (fa : List Fa) (fn : List DefD) (ex : List ExD) (K : Frag) : Prop := obsX file bs fa fn ex K = valX fn ex
def obsXG (n : Nat) (file : Str) (bs : List (Frag → Bool)) (fa : List Fa) (fn : List DefD) (ex : List ExD) (g : Addr → Option Obj) : AlX := obsX file bs fa fn ex (frG g (asD g n ++ [cStatics, sysModules]))
def hookX (n : Nat) (file : Str) (bs : List (Frag → Bool)) (fa : List Fa) (fn : List DefD) (ex : List ExD) : Hook where
  α := AlX
  obs := fun s => obsXG n file bs fa fn ex s.heap.get?
  val := fun _ => valX fn ex
  says := fun _ h => ∃ K : Frag, K.In h ∧ SaysX file bs fa fn ex K
  of := fun _ _ e => ⟨_, frG_in, e⟩
  keeps := fun _ _ _ ⟨K, hK, c⟩ k => ⟨K, Frag.In.keeps hK k, c⟩
/-- the same over given addresses: no walk through the heap to find them -/
def obsYG (as : List Addr) (file : Str) (bs : List (Frag → Bool)) (fa : List Fa) (fn : List DefD) (ex : List ExD) (g : Addr → Option Obj) : AlX := obsX file bs fa fn ex (frG g as)
def hookY (as : List Addr) (file : Str) (bs : List (Frag → Bool)) (fa : List Fa) (fn : List DefD) (ex : List ExD) : Hook where
  α := AlX
  obs := fun s => obsYG as file bs fa fn ex s.heap.get?
  val := fun _ => valX fn ex
  says := fun _ h => ∃ K : Frag, K.In h ∧ SaysX file bs fa fn ex K
  of := fun _ _ e => ⟨_, frG_in, e⟩
  keeps := fun _ _ _ ⟨K, hK, c⟩ k => ⟨K, Frag.In.keeps hK k, c⟩
theorem obsYG_eq {as : List Addr} {file : Str} {bs : List (Frag → Bool)} {fa : List Fa} {fn : List DefD} {ex : List ExD} {g : Addr → Option Obj} {s : Shared} (h : ∀ a, g a = s.heap.get? a) : obsYG as file bs fa fn ex g = (hookY as file bs fa fn ex).obs s := by
  have e : g = s.heap.get? := funext h
  rw [e] <;> rfl
theorem obsXG_eq {n : Nat} {file : Str} {bs : List (Frag → Bool)} {fa : List Fa} {fn : List DefD} {ex : List ExD} {g : Addr → Option Obj} {s : Shared} (h : ∀ a, g a = s.heap.get? a) : obsXG n file bs fa fn ex g = (hookX n file bs fa fn ex).obs s := by
  have e : g = s.heap.get? := funext h
  rw [e] <;> rfl
section
variable {file : Str} {bs : List (Frag → Bool)} {fa : List Fa} {fn : List DefD} {ex : List ExD} {K : Frag}
theorem SaysX.all (c : SaysX file bs fa fn ex K) : ((fa.all fun f => f.ok K) && ((fn.all fun d => d.ok K) && ((bs.all fun b => b K) && ex.all fun d => d.ok file K))) = true := congrArg (fun z : AlX => z.1) c
theorem SaysX.fact (c : SaysX file bs fa fn ex K) (i : Nat) {f : Fa} (h : fa[i]? = some f := by rfl) : f.ok K = true := List.all_eq_true.mp (ba c.all).1 f (List.mem_of_getElem? h)
theorem SaysX.test (c : SaysX file bs fa fn ex K) (i : Nat) {b : Frag → Bool} (h : bs[i]? = some b := by rfl) : b K = true := List.all_eq_true.mp (ba (ba (ba c.all).2).2).1 b (List.mem_of_getElem? h)
theorem SaysX.def_ (c : SaysX file bs fa fn ex K) (i : Nat) {d : DefD} (h : fn[i]? = some d := by rfl) : ∃ fd, FunD K d.name d.qual d.params d.body d.scope (d.dvs K) (d.kws K) (fAd K d.at_) fd := by
  have c2 := (ba (ba c.all).2).1
  have e : fn.map (fun d => fnW K d.at_) = fn.map DefD.val := congrArg (fun z : AlX => z.2.1) c
  have e2 : (fn.map fun d => fnW K d.at_)[i]? = (fn.map DefD.val)[i]? := by rw [e]
  rw [List.getElem?_map, List.getElem?_map, h] at e2
  exact DefD.funD (Option.some.inj e2) (List.all_eq_true.mp c2 d (List.mem_of_getElem? h))
theorem SaysX.exc (c : SaysX file bs fa fn ex K) {P : Program} {h : Heap} {mg : Str → Option Value} (X : K.In h) (G : h.Ns mainGlobals mg) (hf : P.main.file = file) (topS : (P.main.scope.names.lookup ("super" : Str)).isSome = false) (i : Nat) {d : ExD} (hd : ex[i]? = some d := by rfl)
    (hb : ∀ (doc pm : Value) (an : Option Addr) (cdv ct : Value) (cc : Addr) (a b : Value), bindArgs (ksFn "__init__" d.q (xArgs d.fld d.p1 d.p2) (xBody d.fld d.txt d.k d.p) (xScope d.fld) .none .none doc pm an cdv ct cc) ⟨[a, b], []⟩ = pure [(("self" : Str), a), (d.fld, b)]) (hz : d.z = false := by rfl) :
    ExcTxt P K mg d.x d.q d.fld (ga K d.x) (ma K (ga K d.x) "__init__") := by
  have c2 := (ba (ba (ba c.all).2).2).2
  have e : ex.map (fun d => fnC K (ma K (ga K d.x) "__init__")) = ex.map ExD.val := congrArg (fun z : AlX => z.2.2) c
  have e2 : (ex.map fun d => fnC K (ma K (ga K d.x) "__init__"))[i]? = (ex.map ExD.val)[i]? := by rw [e]
  rw [List.getElem?_map, List.getElem?_map, hd] at e2
  exact ExD.toTxt X G (Option.some.inj e2) (List.all_eq_true.mp c2 d (List.mem_of_getElem? hd)) hf hz topS hb
theorem SaysX.exc0 (c : SaysX file bs fa fn ex K) {P : Program} {h : Heap} {mg : Str → Option Value} (X : K.In h) (G : h.Ns mainGlobals mg) (hf : P.main.file = file) (topS : (P.main.scope.names.lookup ("super" : Str)).isSome = false) (i : Nat) {d : ExD} (hd : ex[i]? = some d := by rfl)
    (hb : ∀ (doc pm : Value) (an : Option Addr) (cdv ct : Value) (cc : Addr) (a : Value), bindArgs (ksFn "__init__" d.q (xArgs0 d.p1) (xBody0 d.txt d.k d.p) xScope0 .none .none doc pm an cdv ct cc) ⟨[a], []⟩ = pure [(("self" : Str), a)]) (hz : d.z = true := by rfl) :
    ExcTxt0 P K mg d.x d.q (ga K d.x) (ma K (ga K d.x) "__init__") := by
  have c2 := (ba (ba (ba c.all).2).2).2
  have e : ex.map (fun d => fnC K (ma K (ga K d.x) "__init__")) = ex.map ExD.val := congrArg (fun z : AlX => z.2.2) c
  have e2 : (ex.map fun d => fnC K (ma K (ga K d.x) "__init__"))[i]? = (ex.map ExD.val)[i]? := by rw [e]
  rw [List.getElem?_map, List.getElem?_map, hd] at e2
  exact ExD.toTxt0 X G (Option.some.inj e2) (List.all_eq_true.mp c2 d (List.mem_of_getElem? hd)) hf hz topS hb
end
def smB (K : Frag) : Bool := match K.lookup sysModules with
  | some ⟨.type c, _, _, _⟩ => c == "dict"
  | _ => false
theorem smB_ok {K : Frag} (h : smB K = true) : L2.HasSm K := by
  unfold smB at h
  split at h
  · rename_i c a b d e
    rw [beq_iff_eq] at h
    subst h
    exact ⟨_, e, rfl⟩
  · cases h
end EXV
end PySem

namespace L2
open PySem PySem.Spec PyProof.Rows
/-! ### try with several clauses, each by one name, with or without 'as'; clauses that are never reached may be of any form -/
inductive Cl where
  | one (c : Value) (ts : Addr → Value → Option Addr → TS)
  | as_ (c : Value) (i : Nat) (ts : Addr → Value → Option Addr → TS)
/-- the ends of a suite whose name goes at its end -/
abbrev goneE (i : Nat) (D : Ends) : Ends := { nx := fun σ' H' => D.nx (σ'.set i none) H', rt := D.rt, bk := fun σ' H' => D.bk (σ'.set i none) H', ct := fun σ' H' => D.ct (σ'.set i none) H' }
def wG (K : PySem.W.Frag) (D : Ends) : List Cl → WX
  | [] => fun _ _ _ _ => False
  | .one c ts :: r => fun cls d σ H => ∃ b, PySem.W.exmOne K cls c = some b ∧ (b = true → ∀ a, H a = none → ts a cls d D σ H) ∧ (b = false → wG K D r cls d σ H)
  | .as_ c i ts :: r => fun cls d σ H => ∃ b, PySem.W.exmOne K cls c = some b ∧ (b = true → ∀ a, H a = none → ts a cls d (goneE i D) (σ.set i (some (.ref a))) H) ∧ (b = false → wG K D r cls d σ H)
/-- a suite of a clause -/
abbrev SuOk (X : Cx) (suite : List Stmt) (ts : Addr → Value → Option Addr → TS) : Prop :=
  ∀ (a : Addr) (oe : Obj) (cls : Value) (d : Option Addr) (pn : List (Addr × Obj)), Zc cls d oe → (∃ vs, oe.data = .fields vs) → PSs (X.suite a ((a, oe) :: pn)) suite (ts a cls d)
inductive HdsG (X : Cx) : List ExceptHandler → List Cl → Prop
  | stop {hds : List ExceptHandler} : HdsG X hds []
  | one {x : Str} {c : Value} {ts : Addr → Value → Option Addr → TS} {b₀ : Stmt} {suite : List Stmt} {np pos' : Pos} {hds : List ExceptHandler} {l : List Cl} (hc : Names X x c) (hsu : SuOk X (b₀ :: suite) ts) (r : HdsG X hds l) :
      HdsG X (.ExceptHandler (some (.Name x np)) none (b₀ :: suite) pos' :: hds) (.one c ts :: l)
  | as_ {x n : Str} {c : Value} {i : Nat} {ts : Addr → Value → Option Addr → TS} {b₀ : Stmt} {suite : List Stmt} {np pos' : Pos} {hds : List ExceptHandler} {l : List Cl} (hN : X.N.Nodup) (hi : X.N[i]? = some n) (hln : X.env.kindOf n = some .local) (hc : Names X x c)
      (hsu : SuOk X (b₀ :: suite) ts) (r : HdsG X hds l) : HdsG X (.ExceptHandler (some (.Name x np)) (some n) (b₀ :: suite) pos' :: hds) (.as_ c i ts :: l)
section
variable {X : Cx} {body : List Stmt} {h₀ : ExceptHandler} {hds : List ExceptHandler} {l : List Cl} {pos : Pos} {tb : WX → TS}
theorem ps_tryG (hs : X.stack = X.env :: X.outer) (hf : X.env.frame = some X.env.locals)
    (hb : ∀ (W : WX) (pn : List (Addr × Obj)) (xe : Value → Shared → Prop), Takes (X.tr pn xe) W → PassesOwn (model X.prog X.w) X.A X.env xe → PSs (X.tr pn xe) body (tb W))
    (hh : HdsG X (h₀ :: hds) l) : PS X (.Try body (h₀ :: hds) [] [] pos) (fun D σ H => tb (wG X.K D l) D σ H) := by
  refine ⟨fun pins s σ H D I h => ?_⟩
  have ok := I.ok
  have hfr : X.A.frames = some (X.env :: X.outer) := by rw [ok.frames, hs]
  -- an end of the body, of a suite
  have done : ∀ {f : Flow} {s1 : Shared} {pn : List (Addr × Obj)} {xe : Value → Shared → Prop}, SP (X.tr (X.pn ++ pins) xe) pn D f s1 → SP X pins D f s1 := fun {f s1 pn xe} hsp => by
    cases f with
    | next => obtain ⟨σ', H', J', q⟩ := hsp; exact ⟨σ', H', J'.ofTry ok, q⟩
    | brk => obtain ⟨σ', H', J', q⟩ := hsp; exact ⟨σ', H', J'.ofTry ok, q⟩
    | cont => obtain ⟨σ', H', J', q⟩ := hsp; exact ⟨σ', H', J'.ofTry ok, q⟩
    | ret u => obtain ⟨v, σ', H', J', r, q⟩ := hsp; exact ⟨v, σ', H', J'.ofTry ok, r, q⟩
  refine wpAny_Try_except ?_
  refine wpAny_mono ((hb (wG X.K D l) (X.pn ++ pins) (fun e s₁ => wpAny (model X.prog X.w) X.A (noteFrame e X.env) (fun _ s₂ => wpAny (model X.prog X.w) X.A (setFlight e none) (fun _ s₃ =>
    wpAny (model X.prog X.w) X.A (handleBy e X.env (h₀ :: hds)) (SP X pins D) X.xe s₃) X.xe s₂) X.xe s₁) (fun u s' xx => ?_) PassesOwn.looking).run [] s σ H D (I.toTry _) h) (fun f s1 hsp => ?_) (fun e s1 he => he)
  · obtain ⟨a, B, sI, pins', σ', H', cls, d, rfl, J', nb, up, sky, na, os, ag, w⟩ := xx
    have J : Inv X pins σ' H' sI := J'.ofTry ok
    have sky' : Sky B (X.env :: X.outer) a (Zc cls d) X.env.locals s'.heap := by rw [← hs]; exact sky
    show wpAny (model X.prog X.w) X.A (noteFrame (.ref a) X.env) _ _ _
    refine Sky.land Zc.steady hfr hf sky' fun h3 fl3 up3 => ?_
    have J3 : Inv X pins σ' H' { s' with heap := h3 } := J.landed nb fl3.1 (up.trans up3) os ag
    obtain ⟨oe3, vs3, he3, hz3, hd3⟩ := fl3.there
    have nfr : a ∉ frs (X.env :: X.outer) := fun hm => by
      obtain ⟨_, o', e', hnf⟩ := fl3.2.2.1.mem hm
      rw [he3] at e'
      cases e'
      exact hnf _ hd3
    have nL : a ≠ X.env.locals := fun z => nfr (List.mem_filterMap.mpr ⟨X.env, List.mem_cons_self, by rw [hf, z]⟩)
    have nF : a ∉ X.fs := fun hm => by
      obtain ⟨e, he, q⟩ := List.mem_filterMap.mp hm
      exact nfr (List.mem_filterMap.mpr ⟨e, List.mem_cons_of_mem _ he, q⟩)
    have S3 := J3.suite he3 hd3 na nL nF
    have LT : PySem.W.Looks (model X.prog X.w) h3 (typeOf (.ref a)) cls := fun A Q E s k q => wpAny_typeOf_ref (k _ _ he3) (by rw [hz3.1]; exact q)
    have test : ∀ {x : Str} {np : Pos} {c : Value} {Q E : Value → Shared → Prop}, Names X x c → Q c { s' with heap := h3 } → wpAny (model X.prog X.w) (X.A.mark (some (.ref a))) (eval (.Name x np) X.env) Q E { s' with heap := h3 } := fun hc q => by
      obtain ⟨hg, hdbg, hm | ⟨hm, hv, hnn⟩⟩ := hc
      · exact ld_glob (X := X.suite a ((a, oe3) :: (X.pn ++ pins))) S3 hg hm q hdbg
      · exact ld_blt (X := X.suite a ((a, oe3) :: (X.pn ++ pins))) S3 hg hm hv q hnn hdbg
    have go : ∀ {hds' : List ExceptHandler} {l' : List Cl}, HdsG X hds' l' → wG X.K D l' cls d σ' H' → wpAny (model X.prog X.w) X.A (handleBy (.ref a) X.env hds') (SP X pins D) X.xe { s' with heap := h3 } := by
      intro hds' l' hk
      induction hk with
      | stop => exact fun w => False.elim w
      | one hc hsu r ih =>
        intro w
        obtain ⟨b, hb1, hyes, hno⟩ := w
        refine wpAny_handleBy_cons (codeAny_handlers_test ?_) (by intro q; cases q)
        refine test hc ((PySem.W.exm_one (M := model X.prog X.w) J3.kIn LT hb1).here ?_)
        cases b with
        | false => exact ih (hno rfl)
        | true =>
          refine codeAny_handlers_suite (HandSPX.lands_againZ fl3 fun h4 fl4 up4 => ?_)
          have J4 : Inv X pins σ' H' { s' with heap := h4 } := J.landed nb fl4.1 ((up.trans up3).trans up4) os ag
          obtain ⟨oe4, vs4, he4, hz4, hd4⟩ := fl4.there
          refine wpAny_mono ((hsu a oe4 cls d (X.pn ++ pins) hz4 ⟨_, hd4⟩).run [] _ _ H' _ (J4.suite he4 hd4 na nL nF) (hyes rfl a na)) (fun f s6 hsp => ?_) (fun _ _ z => False.elim z)
          cases f with
          | next => obtain ⟨σ6, H6, S6, q6⟩ := hsp; exact ⟨_, _, S6.unsuite ok, q6⟩
          | brk => obtain ⟨σ6, H6, S6, q6⟩ := hsp; exact ⟨_, _, S6.unsuite ok, q6⟩
          | cont => obtain ⟨σ6, H6, S6, q6⟩ := hsp; exact ⟨_, _, S6.unsuite ok, q6⟩
          | ret u => obtain ⟨v6, σ6, H6, S6, r6, q6⟩ := hsp; exact ⟨_, _, _, S6.unsuite ok, r6, q6⟩
      | as_ hN hi hln hc hsu r ih =>
        intro w
        obtain ⟨b, hb1, hyes, hno⟩ := w
        refine wpAny_handleBy_cons (codeAny_handlers_test ?_) (by intro q; cases q)
        refine test hc ((PySem.W.exm_one (M := model X.prog X.w) J3.kIn LT hb1).here ?_)
        cases b with
        | false => exact ih (hno rfl)
        | true =>
          refine codeAny_handlers_suite_as (HandSPX.lands_againZ fl3 fun h4 fl4 up4 => ?_)
          have J4 : Inv X pins σ' H' { s' with heap := h4 } := J.landed nb fl4.1 ((up.trans up3).trans up4) os ag
          obtain ⟨oe4, vs4, he4, hz4, hd4⟩ := fl4.there
          refine store_ok (X := X.suite a ((a, oe4) :: (X.pn ++ pins))) (v := .ref a) (J4.suite he4 hd4 na nL nF) hN hi (.inl hln) rfl (fun s5 S5 => ?_) (.inr hln)
          refine wpAny_mono ((hsu a oe4 cls d (X.pn ++ pins) hz4 ⟨_, hd4⟩).run [] s5 _ H' _ S5 (hyes rfl a na)) (fun f s6 hsp => ?_) (fun _ _ z => False.elim z)
          cases f with
          | next => obtain ⟨σ6, H6, S6, q6⟩ := hsp; exact gone_ok (S6.unsuite ok) hN hi hln fun s7 J7 => ⟨_, _, J7, q6⟩
          | brk => obtain ⟨σ6, H6, S6, q6⟩ := hsp; exact gone_ok (S6.unsuite ok) hN hi hln fun s7 J7 => ⟨_, _, J7, q6⟩
          | cont => obtain ⟨σ6, H6, S6, q6⟩ := hsp; exact gone_ok (S6.unsuite ok) hN hi hln fun s7 J7 => ⟨_, _, J7, q6⟩
          | ret u => obtain ⟨v6, σ6, H6, S6, r6, q6⟩ := hsp; exact gone_ok (S6.unsuite ok) hN hi hln fun s7 J7 => ⟨_, _, _, J7, r6, q6⟩
    exact go hh w
  · have r := done hsp
    cases f with
    | next => exact wpAny_execs_nil r
    | brk => exact r
    | cont => exact r
    | ret u => exact r
end
end L2

namespace PySem
namespace EXV
open PySem.W PySem.Calls PyProof.Rows PySem.Spec
section
variable {prog : Program} {w : World} {M : Model} {A : Around} {E : Value → Shared → Prop} {s : Shared} {K : Frag} {x C f : Addr} {ox : Obj} {od : Option Obj}
theorem ifBound_B {name : Str} {id : String} {args : List Value} {Q : Option Value → Shared → Prop} (X : K.In s.heap) (I : InstAt s.heap x ox C od) (hs : findIn K (.ref C) name = some (some (.builtin id)))
    (hb : ∀ self, bindSpecial (.builtin id) self = pure (.builtin id, [self])) (h : wpAny M A (call (.builtin id) (.ref x :: args)) (fun v => Q (some v)) E s) : wpAny M A (callSpecialIfBound? (.ref x) name args) Q E s := by
  simp only [callSpecialIfBound?, bindSpecialIfBound?]
  refine wpAny_holding (wpAny_bind (wpAny_bind (wpAny_bind (I.type.here ((looks_findIn X hs).here ?_)))))
  refine wpAny_bind (wpAny_askSetting (wpAny_ite ?_))
  have fin : wpAny M A (call (.builtin id) ([.ref x] ++ args) >>= fun v => pure (some v)) Q E s := wpAny_bind (wpAny_mono h (fun v s' h' => wpAny_pure h') fun _ _ h' => h')
  split
  · exact wpAny_bind ((Looks.of_pure (hb _)).here (wpAny_pure (by exact fin)))
  · exact wpAny_tryCatch (wpAny_bind ((Looks.of_pure (hb _)).here (wpAny_pure (by exact fin))))
open Builtin in
/-- x != b, x's class has its own __eq__, object's __ne__ -/
theorem ne_K {b tb : Value} {Q : Value → Shared → Prop} (hu : A.units + 1 < cLine) (X : K.In s.heap) (I : InstAt s.heap x ox C od) (hb : Looks (model prog w) s.heap (typeOf b) tb) (hn : notFirst K C tb = true)
    (hne : findIn K (.ref C) "__ne__" = some (some (.builtin "object.__ne__"))) (hm : mroIn K C (.type "object") = some true) (hs : findIn K (.ref C) "__eq__" = some (some (.ref f))) (hf : isFn K (.ref f) = true)
    (h : wpAny (model prog w) A.in1 (call (.ref f) [.ref x, b]) (fun v s' => ∃ r, v = .bool r ∧ Q (.bool (!r)) s') E s) : wpAny (model prog w) A (richCompare .NotEq (.ref x) b) Q E s := by
  have entry : wpAny (model prog w) A.in1 (Builtin.«object.__ne__» ⟨[.ref x, b], []⟩) (fun fin s' => ∃ v, fin = .done (.ret v) ∧ ∃ r, v = .bool (!r) ∧ Q (.bool (!r)) s') E s := by
    unfold Builtin.«object.__ne__»
    repeat (first
      | with_reducible refine wpAny_cRoomFor (by show A.units + 1 < cLine; exact hu) ?_
      | (refine wpAny_bind (m := callSpecialIfBound? (.ref x) (Str.ofString "__eq__") [b])
          (ifBound_K X I hs hf (wpAny_mono h (fun r s' hr => by
            obtain ⟨r, rfl, hq⟩ := hr
            repeat (first | exact ⟨_, rfl, _, rfl, hq⟩ | exact wpAny_pure ⟨_, rfl, _, rfl, hq⟩ | exact wpAny_truthy_bool ⟨_, rfl, _, rfl, hq⟩ | (refine wpAny_bind (m := truthy (.bool _)) (wpAny_truthy_bool ?_)) | wp_step)) fun _ _ e => e)))
      | wp_step)
  have one : wpAny (model prog w) A (tryCompare (.ref x) "__ne__" b) (fun r s' => ∃ v, r = some v ∧ Q v s') E s := by
    unfold tryCompare
    refine wpAny_bind (ifBound_B X I hne PySem.F.slot_object_ne.bind (wpAny_call (codeAny_call_builtin PySem.F.slot_object_ne.plain PySem.F.entry_object_ne
      (check_slot (i := "object.__ne__") (owner := "object") (n := "__ne__") (by decide +kernel) (by decide +kernel) (I.type.andThen (looks_mroIn X hm)) (PySem.F.args_object_ne_2 _ _) (wpAny_mono entry (fun fin s' z => ?_) fun _ _ z => z)))))
    obtain ⟨v, rfl, r, rfl, q⟩ := z
    first | exact wpAny_pure ⟨_, rfl, q⟩ | (show wpAny _ _ _ _ _ _; exact wpAny_pure ⟨_, rfl, q⟩)
  unfold richCompare
  simp only [oneThing_ref]
  refine wpAny_holding (wpAny_bind (wpAny_cRoomFor (Nat.lt_of_succ_lt hu) ?_))
  rw [cmpInfo_NotEq]
  dsimp only
  refine wpAny_bind (I.type.here (wpAny_bind (hb.here ?_)))
  split
  · rename_i q
    have e : subIn K tb (.ref C) = some false := by
      rcases Bool.or_eq_true_iff.mp hn with e | e
      · rw [beq_iff_eq.mp e] at q; simp at q
      · exact beq_iff_eq.mp e
    refine wpAny_bind ((looks_subIn X e).here ?_)
    simp only [Bool.false_eq_true, if_false]
    refine wpAny_bind (wpAny_mono one (fun r s' z => ?_) fun _ _ e => e)
    obtain ⟨v, rfl, hq⟩ := z
    exact wpAny_pure hq
  · refine wpAny_bind (wpAny_pure ?_)
    simp only [Bool.false_eq_true, if_false]
    refine wpAny_bind (wpAny_mono one (fun r s' z => ?_) fun _ _ e => e)
    obtain ⟨v, rfl, hq⟩ := z
    exact wpAny_pure hq
end
end EXV
end PySem
namespace L2
open PySem PySem.Spec PyProof.Rows
section
variable {X : Cx} {CX : CXT} {k : Nat} {C f : Addr} {fd : FuncData} {ps : List Str} {sp : Sp} {E : XK}
/-- the callee runs at another depth of the same frames -/
theorem run_fnAt {A' : Around} {pins : List (Addr × Obj)} {σ : St} {H : Hp} {s : Shared} {Q : VK} {us : List Value} {vs : List V} (hfr : A'.frames = X.A.frames) (F : FnOk X.prog X.w X.K X.mg X.base CX k f fd ps sp) (hr : Room k A') (hb : Binds X.K fd ps []) (hx : Passes CX X E)
    (I : Inv X pins σ H s) (r : Vals vs us) (h : sp vs H Q E) : wpAny (model X.prog X.w) A' (call (.ref f) us) (EP X pins σ Q) X.xe s := by
  have e := I.env0
  have e0 : Env0 X.prog X.w X.K X.mg X.base A' X.stack s H := ⟨by rw [hfr]; exact e.frames, e.mod, e.bs, e.bsz, e.funs, e.frf, e.hok, e.bare⟩
  have b := hb s us I.kIn (by rw [List.append_nil, ← r.length]; exact F.len _ _ _ _ h)
  rw [List.append_nil] at b
  refine wpAny_call (codeAny_mono (F.run A' X.stack s H ⟨us, []⟩ us vs Q E hr e0 b r h) fun r s' hq => ?_)
  match r, hq with
  | .error e, hq => exact hx pins σ H s e s' I hq
  | .ok (.ret u), hq => exact I.after hq
  | .ok .next, hq => exact hq.elim
  | .ok .brk, hq => exact hq.elim
  | .ok .cont, hq => exact hq.elim
/-! ### own ==, != and str, with both answers, the other operand of any type -/
def rEqX (K : PySem.W.Frag) (C : Addr) (sp : Sp) (E : XK) : R2 := fun x y H Q => ∃ a dx fs t, x = .ref a ∧ H a = some (.ins C dx fs) ∧ TyX K H y t ∧ PySem.W.notFirst K C t = true ∧ sp [x, y] H (fun v H' => ∃ b, v = .bl b ∧ Q (.bl b) H') E
def rNeX (K : PySem.W.Frag) (C : Addr) (sp : Sp) (E : XK) : R2 := fun x y H Q => ∃ a dx fs t, x = .ref a ∧ H a = some (.ins C dx fs) ∧ TyX K H y t ∧ PySem.W.notFirst K C t = true ∧ sp [x, y] H (fun v H' => ∃ b, v = .bl b ∧ Q (.bl (!b)) H') E
def rStrX (C : Addr) (sp : Sp) (E : XK) : List V → Hp → VK → Prop := fun xs H Q => ∃ a dx fs, xs = [.ref a] ∧ H a = some (.ins C dx fs) ∧ sp [.ref a] H (fun v H' => ∃ b, v = .str b ∧ Q (.str b) H') E
theorem op_eqX (F : FnOk X.prog X.w X.K X.mg X.base CX k f fd ps sp) (hr : Room k X.A) (hb : Binds X.K fd ps []) (hx : Passes CX X E) (hs : PySem.W.findIn X.K (.ref C) "__eq__" = some (some (.ref f))) (hf : PySem.W.isFn X.K (.ref f) = true) :
    OpR X (compareOp .Eq) (rEqX X.K C sp E) := by
  intro pins s σ H x y v u Q I rx ry h
  obtain ⟨a, dx, fs, t, rfl, ha, ty, hn, hsp⟩ := h
  cases rx
  obtain ⟨mA, J, _⟩ := ins_get I.hok ha
  obtain ⟨od, J, _⟩ := J.look
  obtain ⟨m, hF⟩ := I.fr
  obtain ⟨P, Z, p, _⟩ := kit_of I ry ty
  refine PySem.W.cmp_K (op := .Eq) (tb := t) hr.units0 hF I.ok.mod.kin J (Z.ty _ _ I.kIn p) hn hs hf ?_
  refine wpAny_mono (run_fnAt (vs := [.ref a, y]) rfl F hr hb hx I (.cons rfl (.cons ry .nil)) hsp) (fun w s' z => ?_) fun _ _ z => z
  obtain ⟨v', H', I', rv, b, rfl, q⟩ := z
  obtain rfl : w = .bool b := rv
  exact ⟨.bl b, H', I', rfl, q⟩
theorem op_neX (F : FnOk X.prog X.w X.K X.mg X.base CX k f fd ps sp) (hr : Room (k + 1) X.A) (hb : Binds X.K fd ps []) (hx : Passes CX X E) (hne : PySem.W.findIn X.K (.ref C) "__ne__" = some (some (.builtin "object.__ne__"))) (hm : PySem.W.mroIn X.K C (.type "object") = some true)
    (hs : PySem.W.findIn X.K (.ref C) "__eq__" = some (some (.ref f))) (hf : PySem.W.isFn X.K (.ref f) = true) : OpR X (compareOp .NotEq) (rNeX X.K C sp E) := by
  intro pins s σ H x y v u Q I rx ry h
  obtain ⟨a, dx, fs, t, rfl, ha, ty, hn, hsp⟩ := h
  cases rx
  obtain ⟨mA, J, _⟩ := ins_get I.hok ha
  obtain ⟨od, J, _⟩ := J.look
  obtain ⟨P, Z, p, _⟩ := kit_of I ry ty
  refine PySem.EXV.ne_K (by have := hr.un; omega) I.kIn J (Z.ty _ _ I.kIn p) hn hne hm hs hf ?_
  refine wpAny_mono (run_fnAt (vs := [.ref a, y]) rfl F hr.in1 hb hx I (.cons rfl (.cons ry .nil)) hsp) (fun w s' z => ?_) fun _ _ z => z
  obtain ⟨v', H', I', rv, b, rfl, q⟩ := z
  obtain rfl : w = .bool b := rv
  exact ⟨b, rfl, .bl (!b), H', I', rfl, q⟩
theorem call_strX (F : FnOk X.prog X.w X.K X.mg X.base CX k f fd ps sp) (hr : Room (k + 2) X.A) (hb : Binds X.K fd ps []) (hx : Passes CX X E) (hs : PySem.W.findIn X.K (.ref C) "__str__" = some (some (.ref f))) (hf : PySem.W.isFn X.K (.ref f) = true) :
    CallR X (.type "str") (rStrX C sp E) := by
  intro pins s σ H xs us Q I r h
  obtain ⟨a, dx, fs, rfl, ha, hsp⟩ := h
  obtain ⟨u, rfl, ru⟩ := vals1 r
  cases ru
  obtain ⟨mA, J, _⟩ := ins_get I.hok ha
  obtain ⟨od, J, _⟩ := J.look
  refine PySem.W.kso_call hr.in1.in1.units0 I.kIn J hs hf ?_
  refine wpAny_mono (run_fnAt (vs := [.ref a]) rfl F hr.in1.in1 hb hx I (.cons rfl .nil) hsp) (fun w s' z => ?_) fun _ _ z => z
  obtain ⟨v', H', I', rv, b, rfl, q⟩ := z
  obtain ⟨t, rfl⟩ := rv
  exact ⟨.str b, H', I', ⟨t, rfl⟩, q⟩
end
end L2

namespace PySem
namespace EXV
open L2
/-- an own error class's text, read off its __init__ -/
def exdOf (x q fld txt : Str) (st : Stmt) (b : Nat := 0) : ExD :=
  match defBody st, (defArgs st).args with
  | [.Expr (.Call (.Attribute (.Call (.Name _ a0) _ _ a1) _ a2) [.Constant _ k a3] _ a4) a5, .Assign [.Attribute (.Name _ a6) _ a7] (.Name _ a8) a9], [u, v] =>
    ⟨x, q, fld, txt, k, fun i => [a0, a1, a2, a3, a4, a5, a6, a7, a8, a9].getD i a0, u.pos, v.pos, b, false⟩
  | _, _ => ⟨x, q, fld, txt, 0, fun _ => ⟨0, 0, 0, 0⟩, ⟨0, 0, 0, 0⟩, ⟨0, 0, 0, 0⟩, b, false⟩
/-- .. of an __init__ without arguments -/
def exdOf0 (x q txt : Str) (st : Stmt) (b : Nat := 0) : ExD :=
  match defBody st, (defArgs st).args with
  | [.Expr (.Call (.Attribute (.Call (.Name _ a0) _ _ a1) _ a2) [.Constant _ k a3] _ a4) a5], [u] =>
    ⟨x, q, "", txt, k, fun i => [a0, a1, a2, a3, a4, a5].getD i a0, u.pos, u.pos, b, true⟩
  | _, _ => ⟨x, q, "", txt, 0, fun _ => ⟨0, 0, 0, 0⟩, ⟨0, 0, 0, 0⟩, ⟨0, 0, 0, 0⟩, b, true⟩
end EXV
end PySem
namespace L2
open PySem PySem.Spec PyProof.Rows
/-! ### making an instance, the wish of what is raised at the caller's slots -/
def tMakeS (C : Addr) (sp : Sp) (dvs : List V) (E : St → XK) (t : TA) : TE := fun σ H Q => t σ H fun vs H1 => ∀ x dx, H1 x = none → H1 dx = none → dx ≠ x →
  sp (.ref x :: (vs ++ dvs)) (upd (upd H1 dx (.own x)) x (.ins C dx [])) (fun v H2 => v = .non ∧ Q (.ref x) H2) (E σ)
section
variable {X : Cx} {CX : CXT} {k : Nat} {f C : Addr} {fd : FuncData} {ps : List Str} {sp : Sp} {dvs : List V} {ds : List Value} {E : St → XK} {x : Str} {p pos : Pos} {e : Expr} {es : List Expr} {t : TA}
theorem run_makeS {pins : List (Addr × Obj)} {σ : St} {H : Hp} {s : Shared} {Q : VK} {us : List Value} {vs : List V} (M : Mk X.K C f) (F : FnOk X.prog X.w X.K X.mg X.base CX k f fd ps sp) (hr : Room (k + 1) X.A) (hb : Binds X.K fd ps ds) (hd : Vals dvs ds)
    (hx : PassesAt CX X σ (E σ)) (I : Inv X pins σ H s) (r : Vals vs us)
    (h : ∀ x dx, H x = none → H dx = none → dx ≠ x → sp (.ref x :: (vs ++ dvs)) (upd (upd H dx (.own x)) x (.ins C dx [])) (fun v H2 => v = .non ∧ Q (.ref x) H2) (E σ)) :
    wpAny (model X.prog X.w) X.A (call (.ref C) us) (EP X pins σ Q) X.xe s := by
  have hq := h (s.heap.objs.size + 1) s.heap.objs.size (I.hok.fresh (Nat.le_succ _)) (I.hok.fresh (Nat.le_refl _)) (Nat.ne_of_lt (Nat.lt_succ_self _))
  have I2 := Inv.made (C := C) I
  have r2 : Vals (V.ref (s.heap.objs.size + 1) :: (vs ++ dvs)) (Value.ref (s.heap.objs.size + 1) :: (us ++ ds)) := .cons rfl (r.append hd)
  have hl : (Value.ref (s.heap.objs.size + 1) :: us ++ ds).length = ps.length := (r2.length.symm.trans (F.len _ _ _ _ hq))
  refine wpAny_call (make_map (f := f) I.kIn M.makes M.init (beq_iff_eq.mp M.fn) (codeAny_mono (F.run _ X.stack _ _ ⟨Value.ref (s.heap.objs.size + 1) :: us, []⟩ (Value.ref (s.heap.objs.size + 1) :: (us ++ ds)) _ _ (E σ) (hr.make C us [])
    (I2.env0.make C us []) (hb _ (Value.ref (s.heap.objs.size + 1) :: us) I2.kIn hl) r2 hq) fun r s' hq' => ?_))
  match r, hq' with
  | .error e, hq' => exact hx pins _ _ e s' I2 hq'
  | .ok (.ret u), hq' =>
    obtain ⟨v, H', I3, rv, rfl, q3⟩ := I2.after hq'
    exact ⟨rv, ⟨V.ref (s.heap.objs.size + 1), H', I3, rfl, q3⟩⟩
  | .ok .next, hq' => exact hq'.elim
  | .ok .brk, hq' => exact hq'.elim
  | .ok .cont, hq' => exact hq'.elim
theorem pe_makeS (M : Mk X.K C f) (F : FnOk X.prog X.w X.K X.mg X.base CX k f fd ps sp) (hr : Room (k + 1) X.A) (hg : Gl X x) (hm : X.mg x = some (.ref C)) (hb : Binds X.K fd ps ds) (hd : Vals dvs ds) (hx : ∀ σ, PassesAt CX X σ (E σ))
    (ha : PA X (e :: es) t) (hdb : (x == ("__debug__" : Str)) = false := by decide) (he : starEach (e :: es) X.env = (false, eval e X.env) :: starEach es X.env := by rfl) (hpl : (backTo pos (starEach es X.env)).any (·.1) = false := by rfl) :
    PE X (.Call (.Name x p) (e :: es) [] pos) (tMakeS C sp dvs E t) := by
  refine ⟨fun pins s σ H Q I h => wpAny_Call_Name_kw (ld_glob I hg hm ?_ hdb)⟩
  exact PySem.W.callWith_K (h₀ := X.base) I.ok.mod.kin M.kp (thn (ha.run pos pins s σ H _ I h) fun us s1 ⟨vs, H1, I1, r, q⟩ => ⟨I1.kIn, run_makeS M F hr hb hd (hx σ) I1 r q⟩) he hpl
end
/-- nothing is raised there -/
abbrev E0S : St → XK := fun _ => E0
theorem passS {X : Cx} : ∀ σ, PassesAt (L2.CX X.prog X.w) X σ (E0S σ) := fun _ pins H s e s' I h => passL pins _ H s e s' I h
theorem passS0 {X : Cx} : ∀ σ, PassesAt CX0 X σ (E0S σ) := fun _ _ _ _ _ _ _ h => h.elim
/-! ### an own class among the types -/
def tyNames : List String := ["NoneType", "int", "str", "bool", "list", "tuple", "dict"]
structure OwnC (K : PySem.W.Frag) (C : Addr) : Prop where
  cl : Cls K C
  ia : PySem.W.findIn K (.ref C) "__class__" = some (some (.builtin "object.__class__"))
  ig : PySem.W.specialIn K (.builtin "object.__class__") "__get__" = some (some (.builtin "getset_descriptor.__get__"))
  it : PySem.W.takesIn K (.builtin "object.__class__") = some true
  ob : PySem.W.mroIn K C (.type "object") = some true
  ne : PySem.W.findIn K (.ref C) "__ne__" = some (some (.builtin "object.__ne__"))
  to : ∀ n ∈ ["int", "str", "bool", "list", "tuple", "dict"], PySem.W.kitOne K (.ref C) (.type n) = some false
  fr : ∀ n ∈ tyNames, PySem.W.kitOne K (.type n) (.ref C) = some false
  nf : ∀ n ∈ tyNames, PySem.W.notFirst K C (.type n) = true
  me : PySem.W.kitOne K (.ref C) (.ref C) = some true
  nm : PySem.W.notFirst K C (.ref C) = true
def ownB (K : PySem.W.Frag) (x : Str) : Bool :=
  let C := He.ga K x
  (He.Fa.cls x).ok K && (He.eqO (PySem.W.findIn K (.ref C) "__class__") (some (some (.builtin "object.__class__"))) && (He.eqO (PySem.W.specialIn K (.builtin "object.__class__") "__get__") (some (some (.builtin "getset_descriptor.__get__"))) &&
  (decide (PySem.W.takesIn K (.builtin "object.__class__") = some true) && (decide (PySem.W.mroIn K C (.type "object") = some true) && (He.eqO (PySem.W.findIn K (.ref C) "__ne__") (some (some (.builtin "object.__ne__"))) &&
  ((["int", "str", "bool", "list", "tuple", "dict"].all fun n => decide (PySem.W.kitOne K (.ref C) (.type n) = some false)) && ((tyNames.all fun n => decide (PySem.W.kitOne K (.type n) (.ref C) = some false)) && ((tyNames.all fun n => PySem.W.notFirst K C (.type n)) &&
  (decide (PySem.W.kitOne K (.ref C) (.ref C) = some true) && PySem.W.notFirst K C (.ref C))))))))))
theorem ownB_ok {K : PySem.W.Frag} {x : Str} (h : ownB K x = true) : OwnC K (He.ga K x) := by
  unfold ownB at h
  simp only [Bool.and_eq_true] at h
  obtain ⟨h1, h2, h3, h4, h5, h6, h7, h8, h9, h10, h11⟩ := h
  exact ⟨He.cls_ok h1, He.eqO_ok h2, He.eqO_ok h3, of_decide_eq_true h4, of_decide_eq_true h5, He.eqO_ok h6, fun n hn => of_decide_eq_true (List.all_eq_true.mp h7 n hn), fun n hn => of_decide_eq_true (List.all_eq_true.mp h8 n hn), fun n hn => List.all_eq_true.mp h9 n hn, of_decide_eq_true h10, h11⟩
theorem OwnC.ty {K : PySem.W.Frag} {C : Addr} (O : OwnC K C) {H : Hp} {a dx : Addr} {fs : List (Str × V)} (e : H a = some (.ins C dx fs)) : TyX K H (.ref a) (.ref C) := .base (.ins e O.cl O.ia O.ig O.it O.ob)
theorem Meth.found {X : PySem.W.Frag} {C f : Addr} {m : Str} (h : Meth X C m f) : PySem.W.findIn X (.ref C) m = some (some (.ref f)) := h.1
end L2

/-! module constants, an empty tuple as a default, room for tests of membership -/
namespace PySem
namespace EXV
open PySem.W L2
def conB (x : Str) (i : Int) (K : Frag) : Bool := match nsIn K mainGlobals x with
  | some (some (.int j _)) => decide (j = i)
  | _ => false
theorem conB_ok {K : Frag} {h : Heap} {mg : Str → Option Value} {x : Str} {i : Int} (X : K.In h) (G : h.Ns mainGlobals mg) (c : conB x i K = true) : ∃ t, mg x = some (.int i t) := by
  unfold conB at c
  split at c
  · rename_i j t e
    exact ⟨t, by rw [mg_of X G e, of_decide_eq_true c]⟩
  · cases c
/-- an empty tuple of the written part -/
def IsE (K : Frag) (a : Addr) : Prop := ∃ (o : Obj) (n : Nat), K.lookup a = some o ∧ o.cls = .type "tuple" ∧ o.data = .seq #[] n
theorem IsE.sq {K : Frag} {a : Addr} (h : IsE K a) (H : Hp) : SqT K H a [] := by
  obtain ⟨o, n, h1, h2, h3⟩ := h
  exact .inr ⟨o, #[], n, h1, h2, h3, Nat.zero_le _, .nil⟩
def isEB (K : Frag) (a : Addr) : Bool := match K.lookup a with
  | some ⟨.type c, _, .seq its _, _⟩ => c == "tuple" && its.isEmpty
  | _ => false
theorem isEB_ok {K : Frag} {a : Addr} (h : isEB K a = true) : IsE K a := by
  unfold isEB at h
  split at h
  · rename_i c d its n sl e
    obtain ⟨h1, h2⟩ := Bool.and_eq_true_iff.mp h
    rw [beq_iff_eq] at h1
    have h3 : its = #[] := by simpa using h2
    subst h1 h3
    exact ⟨_, n, e, rfl, rfl⟩
  · cases h
end EXV
end PySem
namespace L2
open PySem
theorem hu65 {A : Around} {k : Nat} (hr : Room k A) : A.units + 65 < cLine := by have := hr.un; omega
def rLenSeq (K : PySem.W.Frag) : List V → Hp → VK → Prop := fun xs H Q => ∃ p ys, xs = [.ref p] ∧ (SqL K H p ys ∨ SqT K H p ys) ∧ Q (.int ys.length) H
def rListOf (K : PySem.W.Frag) : List V → Hp → VK → Prop := fun xs H Q => ∃ p ys, xs = [.ref p] ∧ (SqL K H p ys ∨ SqT K H p ys) ∧ ∀ l, H l = none → Q (.ref l) (upd H l (.lst ys))
def rTupOf (K : PySem.W.Frag) : List V → Hp → VK → Prop := fun xs H Q => ∃ p ys, xs = [.ref p] ∧ ((SqL K H p ys ∧ ∀ l, H l = none → Q (.ref l) (upd H l (.tup ys))) ∨ (SqT K H p ys ∧ Q (.ref p) H))
theorem popP {α : Type} : ∀ {l : List α} {k : Nat} {y : α}, l[k]? = some y → (y :: l.eraseIdx k).Perm l
  | [], _, _, h => by simp at h
  | a :: r, 0, y, h => by
    simp at h
    subst h
    exact List.Perm.refl _
  | a :: r, k + 1, y, h => by
    have h2 := popP (l := r) (k := k) (y := y) (by simpa using h)
    exact (List.Perm.swap a y _).trans (h2.cons a)
end L2

namespace K13
open PySem PySem.Spec PyProof.Rows L2 TL
def top (i : Nat) : Stmt := PySem.Challenge.pw_resampler_k13_overlaps.main.body.getD i (.Pass ⟨0, 0, 0, 0⟩)
abbrev s_is_list : Stmt := top 16
abbrev N_is_list : List Str := ["value", "low", "high"]
theorem sc_is_list : FnScope N_is_list ["value", "low", "high"] (defScope s_is_list) := ⟨rfl, rfl, rfl, by decide +kernel, rfl, by decide +kernel, by decide +kernel⟩
abbrev s_check_distinct : Stmt := top 17
abbrev N_check_distinct : List Str := ["names", "seen", "name"]
theorem sc_check_distinct : FnScope N_check_distinct ["names"] (defScope s_check_distinct) := ⟨rfl, rfl, rfl, by decide +kernel, rfl, by decide +kernel, by decide +kernel⟩
abbrev s_is_name : Stmt := top 19
abbrev N_is_name : List Str := ["value", "letter"]
theorem sc_is_name : FnScope N_is_name ["value"] (defScope s_is_name) := ⟨rfl, rfl, rfl, by decide +kernel, rfl, by decide +kernel, by decide +kernel⟩
abbrev s_is_any_integer : Stmt := top 20
abbrev N_is_any_integer : List Str := ["value"]
theorem sc_is_any_integer : FnScope N_is_any_integer ["value"] (defScope s_is_any_integer) := ⟨rfl, rfl, rfl, by decide +kernel, rfl, by decide +kernel, by decide +kernel⟩
abbrev s_is_integer : Stmt := top 21
abbrev N_is_integer : List Str := ["value", "low", "high"]
theorem sc_is_integer : FnScope N_is_integer ["value", "low", "high"] (defScope s_is_integer) := ⟨rfl, rfl, rfl, by decide +kernel, rfl, by decide +kernel, by decide +kernel⟩
abbrev s_Ratio_init : Stmt := inClass (top 23) 0
abbrev N_Ratio_init : List Str := ["self", "numerator", "denominator", "divisor"]
theorem sc_Ratio_init : FnScope N_Ratio_init ["self", "numerator", "denominator"] (defScope s_Ratio_init) := ⟨rfl, rfl, rfl, by decide +kernel, rfl, by decide +kernel, by decide +kernel⟩
abbrev s_Problem_init : Stmt := inClass (top 27) 0
abbrev N_Problem_init : List Str := ["self", "variables", "events", "name", "size", "place", "scope", "bad_tuples", "_"]
theorem sc_Problem_init : FnScope N_Problem_init ["self", "variables", "events"] (defScope s_Problem_init) := ⟨rfl, rfl, rfl, by decide +kernel, rfl, by decide +kernel, by decide +kernel⟩
abbrev s_Problem_eq : Stmt := inClass (top 27) 1
abbrev N_Problem_eq : List Str := ["self", "other"]
theorem sc_Problem_eq : FnScope N_Problem_eq ["self", "other"] (defScope s_Problem_eq) := ⟨rfl, rfl, rfl, by decide +kernel, rfl, by decide +kernel, by decide +kernel⟩
abbrev s_Problem_variables : Stmt := inClass (top 27) 4
abbrev N_Problem_variables : List Str := ["self"]
theorem sc_Problem_variables : FnScope N_Problem_variables ["self"] (defScope s_Problem_variables) := ⟨rfl, rfl, rfl, by decide +kernel, rfl, by decide +kernel, by decide +kernel⟩
abbrev s_Problem_events : Stmt := inClass (top 27) 5
abbrev N_Problem_events : List Str := ["self"]
theorem sc_Problem_events : FnScope N_Problem_events ["self"] (defScope s_Problem_events) := ⟨rfl, rfl, rfl, by decide +kernel, rfl, by decide +kernel, by decide +kernel⟩
abbrev s_Problem_scope : Stmt := inClass (top 27) 7
abbrev N_Problem_scope : List Str := ["self", "event"]
theorem sc_Problem_scope : FnScope N_Problem_scope ["self", "event"] (defScope s_Problem_scope) := ⟨rfl, rfl, rfl, by decide +kernel, rfl, by decide +kernel, by decide +kernel⟩
abbrev s_Problem_bad_tuples : Stmt := inClass (top 27) 8
abbrev N_Problem_bad_tuples : List Str := ["self", "event"]
theorem sc_Problem_bad_tuples : FnScope N_Problem_bad_tuples ["self", "event"] (defScope s_Problem_bad_tuples) := ⟨rfl, rfl, rfl, by decide +kernel, rfl, by decide +kernel, by decide +kernel⟩
abbrev s_Problem_are_adjacent : Stmt := inClass (top 27) 9
abbrev N_Problem_are_adjacent : List Str := ["self", "one", "other"]
theorem sc_Problem_are_adjacent : FnScope N_Problem_are_adjacent ["self", "one", "other"] (defScope s_Problem_are_adjacent) := ⟨rfl, rfl, rfl, by decide +kernel, rfl, by decide +kernel, by decide +kernel⟩
abbrev s_Problem_is_assignment : Stmt := inClass (top 27) 11
abbrev N_Problem_is_assignment : List Str := ["self", "value"]
theorem sc_Problem_is_assignment : FnScope N_Problem_is_assignment ["self", "value"] (defScope s_Problem_is_assignment) := ⟨rfl, rfl, rfl, by decide +kernel, rfl, by decide +kernel, by decide +kernel⟩
abbrev s_Problem_occurs : Stmt := inClass (top 27) 12
abbrev N_Problem_occurs : List Str := ["self", "event", "assignment"]
theorem sc_Problem_occurs : FnScope N_Problem_occurs ["self", "event", "assignment"] (defScope s_Problem_occurs) := ⟨rfl, rfl, rfl, by decide +kernel, rfl, by decide +kernel, by decide +kernel⟩
abbrev s_Problem_is_event : Stmt := inClass (top 27) 16
abbrev N_Problem_is_event : List Str := ["self", "value"]
theorem sc_Problem_is_event : FnScope N_Problem_is_event ["self", "value"] (defScope s_Problem_is_event) := ⟨rfl, rfl, rfl, by decide +kernel, rfl, by decide +kernel, by decide +kernel⟩
abbrev s_Problem_check_event : Stmt := inClass (top 27) 19
abbrev N_Problem_check_event : List Str := ["self", "value"]
theorem sc_Problem_check_event : FnScope N_Problem_check_event ["self", "value"] (defScope s_Problem_check_event) := ⟨rfl, rfl, rfl, by decide +kernel, rfl, by decide +kernel, by decide +kernel⟩
abbrev s_Problem_check_assignment : Stmt := inClass (top 27) 20
abbrev N_Problem_check_assignment : List Str := ["self", "value"]
theorem sc_Problem_check_assignment : FnScope N_Problem_check_assignment ["self", "value"] (defScope s_Problem_check_assignment) := ⟨rfl, rfl, rfl, by decide +kernel, rfl, by decide +kernel, by decide +kernel⟩
abbrev s_Problem_is_bad : Stmt := inClass (top 27) 21
abbrev N_Problem_is_bad : List Str := ["self", "event", "assignment", "values", "variable"]
theorem sc_Problem_is_bad : FnScope N_Problem_is_bad ["self", "event", "assignment"] (defScope s_Problem_is_bad) := ⟨rfl, rfl, rfl, by decide +kernel, rfl, by decide +kernel, by decide +kernel⟩
abbrev s_check_problem : Stmt := top 28
abbrev N_check_problem : List Str := ["value"]
theorem sc_check_problem : FnScope N_check_problem ["value"] (defScope s_check_problem) := ⟨rfl, rfl, rfl, by decide +kernel, rfl, by decide +kernel, by decide +kernel⟩
abbrev s_find_overlap : Stmt := top 29
abbrev N_find_overlap : List Str := ["problem", "events", "place", "one", "other", "assignment"]
theorem sc_find_overlap : FnScope N_find_overlap ["problem"] (defScope s_find_overlap) := ⟨rfl, rfl, rfl, by decide +kernel, rfl, by decide +kernel, by decide +kernel⟩
abbrev s_is_exclusive : Stmt := top 30
abbrev N_is_exclusive : List Str := ["problem"]
theorem sc_is_exclusive : FnScope N_is_exclusive ["problem"] (defScope s_is_exclusive) := ⟨rfl, rfl, rfl, by decide +kernel, rfl, by decide +kernel, by decide +kernel⟩
abbrev s_shows_overlap : Stmt := top 31
abbrev N_shows_overlap : List Str := ["problem", "value", "one", "other", "assignment"]
theorem sc_shows_overlap : FnScope N_shows_overlap ["problem", "value"] (defScope s_shows_overlap) := ⟨rfl, rfl, rfl, by decide +kernel, rfl, by decide +kernel, by decide +kernel⟩
abbrev s__neighbors_of : Stmt := top 32
abbrev N__neighbors_of : List Str := ["event", "scopes", "found", "other", "scope", "variable"]
theorem sc__neighbors_of : FnScope N__neighbors_of ["event", "scopes"] (defScope s__neighbors_of) := ⟨rfl, rfl, rfl, by decide +kernel, rfl, by decide +kernel, by decide +kernel⟩
abbrev s__joint_assignment : Stmt := top 33
abbrev N__joint_assignment : List Str := ["problem", "one", "other", "values", "variable", "value", "fixed", "more", "added", "name", "_"]
theorem sc__joint_assignment : FnScope N__joint_assignment ["problem", "one", "other"] (defScope s__joint_assignment) := ⟨rfl, rfl, rfl, by decide +kernel, rfl, by decide +kernel, by decide +kernel⟩
abbrev s__are_values : Stmt := top 34
abbrev N__are_values : List Str := ["value", "sizes", "item", "size"]
theorem sc__are_values : FnScope N__are_values ["value", "sizes"] (defScope s__are_values) := ⟨rfl, rfl, rfl, by decide +kernel, rfl, by decide +kernel, by decide +kernel⟩
abbrev s__check_variables : Stmt := top 35
abbrev N__check_variables : List Str := ["variables", "name", "_", "row"]
theorem sc__check_variables : FnScope N__check_variables ["variables"] (defScope s__check_variables) := ⟨rfl, rfl, rfl, by decide +kernel, rfl, by decide +kernel, by decide +kernel⟩
abbrev s__is_variable_row : Stmt := top 36
abbrev N__is_variable_row : List Str := ["row"]
theorem sc__is_variable_row : FnScope N__is_variable_row ["row"] (defScope s__is_variable_row) := ⟨rfl, rfl, rfl, by decide +kernel, rfl, by decide +kernel, by decide +kernel⟩
abbrev s__check_events : Stmt := top 37
abbrev N__check_events : List Str := ["events", "sizes", "names", "name", "scope", "bad_tuples", "row", "variable"]
theorem sc__check_events : FnScope N__check_events ["events", "sizes"] (defScope s__check_events) := ⟨rfl, rfl, rfl, by decide +kernel, rfl, by decide +kernel, by decide +kernel⟩
abbrev s__is_event_row : Stmt := top 38
abbrev N__is_event_row : List Str := ["row"]
theorem sc__is_event_row : FnScope N__is_event_row ["row"] (defScope s__is_event_row) := ⟨rfl, rfl, rfl, by decide +kernel, rfl, by decide +kernel, by decide +kernel⟩
abbrev s__check_scope : Stmt := top 39
abbrev N__check_scope : List Str := ["scope", "sizes", "item"]
theorem sc__check_scope : FnScope N__check_scope ["scope", "sizes"] (defScope s__check_scope) := ⟨rfl, rfl, rfl, by decide +kernel, rfl, by decide +kernel, by decide +kernel⟩
abbrev s__check_variable : Stmt := top 40
abbrev N__check_variable : List Str := ["value", "sizes"]
theorem sc__check_variable : FnScope N__check_variable ["value", "sizes"] (defScope s__check_variable) := ⟨rfl, rfl, rfl, by decide +kernel, rfl, by decide +kernel, by decide +kernel⟩
abbrev s__are_bad_tuples : Stmt := top 41
abbrev N__are_bad_tuples : List Str := ["bad_tuples", "sizes", "known", "values"]
theorem sc__are_bad_tuples : FnScope N__are_bad_tuples ["bad_tuples", "sizes"] (defScope s__are_bad_tuples) := ⟨rfl, rfl, rfl, by decide +kernel, rfl, by decide +kernel, by decide +kernel⟩
abbrev s_l_cell : Stmt := top 43
abbrev N_l_cell : List Str := ["_law_script", "_law_index"]
theorem sc_l_cell : FnScope N_l_cell ["_law_script", "_law_index"] (defScope s_l_cell) := ⟨rfl, rfl, rfl, by decide +kernel, rfl, by decide +kernel, by decide +kernel⟩
abbrev s_l_bag : Stmt := top 44
abbrev N_l_bag : List Str := ["_law_cell_here"]
theorem sc_l_bag : FnScope N_l_bag ["_law_cell_here"] (defScope s_l_bag) := ⟨rfl, rfl, rfl, by decide +kernel, rfl, by decide +kernel, by decide +kernel⟩
abbrev s_l_take : Stmt := top 45
abbrev N_l_take : List Str := ["_law_bag_here", "_law_count", "_law_digit", "_law_mixed"]
theorem sc_l_take : FnScope N_l_take ["_law_bag_here", "_law_count"] (defScope s_l_take) := ⟨rfl, rfl, rfl, by decide +kernel, rfl, by decide +kernel, by decide +kernel⟩
abbrev s_l_names : Stmt := top 46
abbrev N_l_names : List Str := ["_law_bag_here", "_law_count", "_law_letters", "_law_index", "_law_stem", "_law_at", "_law_first", "_law_step", "_law_found", "_law_begun"]
theorem sc_l_names : FnScope N_l_names ["_law_bag_here", "_law_count"] (defScope s_l_names) := ⟨rfl, rfl, rfl, by decide +kernel, rfl, by decide +kernel, by decide +kernel⟩
abbrev s_l_scope : Stmt := top 47
abbrev N_l_scope : List Str := ["_law_bag_here", "_law_names_here", "_law_left", "_law_most", "_law_index"]
theorem sc_l_scope : FnScope N_l_scope ["_law_bag_here", "_law_names_here"] (defScope s_l_scope) := ⟨rfl, rfl, rfl, by decide +kernel, rfl, by decide +kernel, by decide +kernel⟩
abbrev s_l_tuples : Stmt := top 48
abbrev N_l_tuples : List Str := ["_law_bag_here", "_law_sizes", "_law_scope_here", "_law_most", "_law_found", "_law_index", "_law_row", "_law_name"]
theorem sc_l_tuples : FnScope N_l_tuples ["_law_bag_here", "_law_sizes", "_law_scope_here", "_law_most"] (defScope s_l_tuples) := ⟨rfl, rfl, rfl, by decide +kernel, rfl, by decide +kernel, by decide +kernel⟩
abbrev s_l_parts : Stmt := top 49
abbrev N_l_parts : List Str := ["_law_bag_here", "_law_count", "_law_names_here", "_law_sizes", "_law_titles", "_law_title", "_law_rows", "_law_scope_here", "_law_name", "_law_index"]
theorem sc_l_parts : FnScope N_l_parts ["_law_bag_here"] (defScope s_l_parts) := ⟨rfl, rfl, rfl, by decide +kernel, rfl, by decide +kernel, by decide +kernel⟩
abbrev s_l_agree : Stmt := top 50
abbrev N_l_agree : List Str := ["_law_scope_here", "_law_one", "_law_more", "_law_other", "_law_first", "_law_name", "_law_value"]
theorem sc_l_agree : FnScope N_l_agree ["_law_scope_here", "_law_one", "_law_more", "_law_other"] (defScope s_l_agree) := ⟨rfl, rfl, rfl, by decide +kernel, rfl, by decide +kernel, by decide +kernel⟩
abbrev s_l_overlap : Stmt := top 51
abbrev N_l_overlap : List Str := ["_law_sizes", "_law_rows", "_law_index", "_law_row", "_law_other", "_law_one", "_law_near", "_law_values", "_law_name", "_law_two", "_law_size"]
theorem sc_l_overlap : FnScope N_l_overlap ["_law_sizes", "_law_rows"] (defScope s_l_overlap) := ⟨rfl, rfl, rfl, by decide +kernel, rfl, by decide +kernel, by decide +kernel⟩
abbrev s_l_shows : Stmt := top 52
abbrev N_l_shows : List Str := ["_law_sizes", "_law_rows", "_law_value", "_law_one", "_law_other", "_law_row", "_law_part", "_law_found", "_law_pair", "_law_names_here", "_law_name", "_law_size"]
theorem sc_l_shows : FnScope N_l_shows ["_law_sizes", "_law_rows", "_law_value"] (defScope s_l_shows) := ⟨rfl, rfl, rfl, by decide +kernel, rfl, by decide +kernel, by decide +kernel⟩
abbrev s_l_forged : Stmt := top 53
abbrev N_l_forged : List Str := ["_law_bag_here", "_law_sizes", "_law_rows", "_law_found", "_law_row", "_law_titles", "_law_base", "_law_one", "_law_other", "_law_at", "_law_name", "_law_some"]
theorem sc_l_forged : FnScope N_l_forged ["_law_bag_here", "_law_sizes", "_law_rows", "_law_found"] (defScope s_l_forged) := ⟨rfl, rfl, rfl, by decide +kernel, rfl, by decide +kernel, by decide +kernel⟩
abbrev s_l_caught : Stmt := top 54
abbrev N_l_caught : List Str := ["_law_door", "_law_value", "e"]
theorem sc_l_caught : FnScope N_l_caught ["_law_door", "_law_value"] (defScope s_l_caught) := ⟨rfl, rfl, rfl, by decide +kernel, rfl, by decide +kernel, by decide +kernel⟩
abbrev s_law : Stmt := top 55
abbrev N_law : List Str := ["_law_script", "_law_index", "_law_bag_here", "_law_sizes", "_law_rows", "_law_problem", "_law_due", "_law_turn", "_law_value", "_law_stood", "_law_door"]
theorem sc_law : FnScope N_law ["_law_script"] (defScope s_law) := ⟨rfl, rfl, rfl, by decide +kernel, rfl, by decide +kernel, by decide +kernel⟩
structure Txt (P : Program) (K : PySem.W.Frag) (mg : Str → Option Value) where
  e0 : Addr
  t_e0 : PySem.EXV.IsE K e0
  C_Ratio : Addr
  g_Ratio : mg "Ratio" = some (.ref C_Ratio)
  C_Problem : Addr
  g_Problem : mg "Problem" = some (.ref C_Problem)
  f_is_list : Addr
  fd_is_list : FuncData
  F_is_list : FunD K "is_list" "is_list" (defArgs s_is_list) (defBody s_is_list) (defScope s_is_list) [] [] f_is_list fd_is_list
  g_is_list : mg "is_list" = some (.ref f_is_list)
  f_check_distinct : Addr
  fd_check_distinct : FuncData
  F_check_distinct : FunD K "check_distinct" "check_distinct" (defArgs s_check_distinct) (defBody s_check_distinct) (defScope s_check_distinct) [] [] f_check_distinct fd_check_distinct
  g_check_distinct : mg "check_distinct" = some (.ref f_check_distinct)
  f_is_name : Addr
  fd_is_name : FuncData
  F_is_name : FunD K "is_name" "is_name" (defArgs s_is_name) (defBody s_is_name) (defScope s_is_name) [] [] f_is_name fd_is_name
  g_is_name : mg "is_name" = some (.ref f_is_name)
  f_is_any_integer : Addr
  fd_is_any_integer : FuncData
  F_is_any_integer : FunD K "is_any_integer" "is_any_integer" (defArgs s_is_any_integer) (defBody s_is_any_integer) (defScope s_is_any_integer) [] [] f_is_any_integer fd_is_any_integer
  g_is_any_integer : mg "is_any_integer" = some (.ref f_is_any_integer)
  f_is_integer : Addr
  fd_is_integer : FuncData
  F_is_integer : FunD K "is_integer" "is_integer" (defArgs s_is_integer) (defBody s_is_integer) (defScope s_is_integer) [] [] f_is_integer fd_is_integer
  g_is_integer : mg "is_integer" = some (.ref f_is_integer)
  f_Ratio_init : Addr
  fd_Ratio_init : FuncData
  F_Ratio_init : FunD K "__init__" "Ratio.__init__" (defArgs s_Ratio_init) (defBody s_Ratio_init) (defScope s_Ratio_init) [.int 1] [] f_Ratio_init fd_Ratio_init
  f_Problem_init : Addr
  fd_Problem_init : FuncData
  F_Problem_init : FunD K "__init__" "Problem.__init__" (defArgs s_Problem_init) (defBody s_Problem_init) (defScope s_Problem_init) [.ref e0] [] f_Problem_init fd_Problem_init
  f_Problem_eq : Addr
  fd_Problem_eq : FuncData
  F_Problem_eq : FunD K "__eq__" "Problem.__eq__" (defArgs s_Problem_eq) (defBody s_Problem_eq) (defScope s_Problem_eq) [] [] f_Problem_eq fd_Problem_eq
  m_Problem_eq : Meth K C_Problem "__eq__" f_Problem_eq
  f_Problem_variables : Addr
  fd_Problem_variables : FuncData
  F_Problem_variables : FunD K "variables" "Problem.variables" (defArgs s_Problem_variables) (defBody s_Problem_variables) (defScope s_Problem_variables) [] [] f_Problem_variables fd_Problem_variables
  m_Problem_variables : Meth K C_Problem "variables" f_Problem_variables
  f_Problem_events : Addr
  fd_Problem_events : FuncData
  F_Problem_events : FunD K "events" "Problem.events" (defArgs s_Problem_events) (defBody s_Problem_events) (defScope s_Problem_events) [] [] f_Problem_events fd_Problem_events
  m_Problem_events : Meth K C_Problem "events" f_Problem_events
  f_Problem_scope : Addr
  fd_Problem_scope : FuncData
  F_Problem_scope : FunD K "scope" "Problem.scope" (defArgs s_Problem_scope) (defBody s_Problem_scope) (defScope s_Problem_scope) [] [] f_Problem_scope fd_Problem_scope
  m_Problem_scope : Meth K C_Problem "scope" f_Problem_scope
  f_Problem_bad_tuples : Addr
  fd_Problem_bad_tuples : FuncData
  F_Problem_bad_tuples : FunD K "bad_tuples" "Problem.bad_tuples" (defArgs s_Problem_bad_tuples) (defBody s_Problem_bad_tuples) (defScope s_Problem_bad_tuples) [] [] f_Problem_bad_tuples fd_Problem_bad_tuples
  m_Problem_bad_tuples : Meth K C_Problem "bad_tuples" f_Problem_bad_tuples
  f_Problem_are_adjacent : Addr
  fd_Problem_are_adjacent : FuncData
  F_Problem_are_adjacent : FunD K "are_adjacent" "Problem.are_adjacent" (defArgs s_Problem_are_adjacent) (defBody s_Problem_are_adjacent) (defScope s_Problem_are_adjacent) [] [] f_Problem_are_adjacent fd_Problem_are_adjacent
  m_Problem_are_adjacent : Meth K C_Problem "are_adjacent" f_Problem_are_adjacent
  f_Problem_is_assignment : Addr
  fd_Problem_is_assignment : FuncData
  F_Problem_is_assignment : FunD K "is_assignment" "Problem.is_assignment" (defArgs s_Problem_is_assignment) (defBody s_Problem_is_assignment) (defScope s_Problem_is_assignment) [] [] f_Problem_is_assignment fd_Problem_is_assignment
  m_Problem_is_assignment : Meth K C_Problem "is_assignment" f_Problem_is_assignment
  f_Problem_occurs : Addr
  fd_Problem_occurs : FuncData
  F_Problem_occurs : FunD K "occurs" "Problem.occurs" (defArgs s_Problem_occurs) (defBody s_Problem_occurs) (defScope s_Problem_occurs) [] [] f_Problem_occurs fd_Problem_occurs
  m_Problem_occurs : Meth K C_Problem "occurs" f_Problem_occurs
  f_Problem_is_event : Addr
  fd_Problem_is_event : FuncData
  F_Problem_is_event : FunD K "is_event" "Problem.is_event" (defArgs s_Problem_is_event) (defBody s_Problem_is_event) (defScope s_Problem_is_event) [] [] f_Problem_is_event fd_Problem_is_event
  m_Problem_is_event : Meth K C_Problem "is_event" f_Problem_is_event
  f_Problem_check_event : Addr
  fd_Problem_check_event : FuncData
  F_Problem_check_event : FunD K "check_event" "Problem.check_event" (defArgs s_Problem_check_event) (defBody s_Problem_check_event) (defScope s_Problem_check_event) [] [] f_Problem_check_event fd_Problem_check_event
  m_Problem_check_event : Meth K C_Problem "check_event" f_Problem_check_event
  f_Problem_check_assignment : Addr
  fd_Problem_check_assignment : FuncData
  F_Problem_check_assignment : FunD K "_check_assignment" "Problem._check_assignment" (defArgs s_Problem_check_assignment) (defBody s_Problem_check_assignment) (defScope s_Problem_check_assignment) [] [] f_Problem_check_assignment fd_Problem_check_assignment
  m_Problem_check_assignment : Meth K C_Problem "_check_assignment" f_Problem_check_assignment
  f_Problem_is_bad : Addr
  fd_Problem_is_bad : FuncData
  F_Problem_is_bad : FunD K "_is_bad" "Problem._is_bad" (defArgs s_Problem_is_bad) (defBody s_Problem_is_bad) (defScope s_Problem_is_bad) [] [] f_Problem_is_bad fd_Problem_is_bad
  m_Problem_is_bad : Meth K C_Problem "_is_bad" f_Problem_is_bad
  f_check_problem : Addr
  fd_check_problem : FuncData
  F_check_problem : FunD K "check_problem" "check_problem" (defArgs s_check_problem) (defBody s_check_problem) (defScope s_check_problem) [] [] f_check_problem fd_check_problem
  g_check_problem : mg "check_problem" = some (.ref f_check_problem)
  f_find_overlap : Addr
  fd_find_overlap : FuncData
  F_find_overlap : FunD K "find_overlap" "find_overlap" (defArgs s_find_overlap) (defBody s_find_overlap) (defScope s_find_overlap) [] [] f_find_overlap fd_find_overlap
  g_find_overlap : mg "find_overlap" = some (.ref f_find_overlap)
  f_is_exclusive : Addr
  fd_is_exclusive : FuncData
  F_is_exclusive : FunD K "is_exclusive" "is_exclusive" (defArgs s_is_exclusive) (defBody s_is_exclusive) (defScope s_is_exclusive) [] [] f_is_exclusive fd_is_exclusive
  g_is_exclusive : mg "is_exclusive" = some (.ref f_is_exclusive)
  f_shows_overlap : Addr
  fd_shows_overlap : FuncData
  F_shows_overlap : FunD K "shows_overlap" "shows_overlap" (defArgs s_shows_overlap) (defBody s_shows_overlap) (defScope s_shows_overlap) [] [] f_shows_overlap fd_shows_overlap
  g_shows_overlap : mg "shows_overlap" = some (.ref f_shows_overlap)
  f__neighbors_of : Addr
  fd__neighbors_of : FuncData
  F__neighbors_of : FunD K "_neighbors_of" "_neighbors_of" (defArgs s__neighbors_of) (defBody s__neighbors_of) (defScope s__neighbors_of) [] [] f__neighbors_of fd__neighbors_of
  g__neighbors_of : mg "_neighbors_of" = some (.ref f__neighbors_of)
  f__joint_assignment : Addr
  fd__joint_assignment : FuncData
  F__joint_assignment : FunD K "_joint_assignment" "_joint_assignment" (defArgs s__joint_assignment) (defBody s__joint_assignment) (defScope s__joint_assignment) [] [] f__joint_assignment fd__joint_assignment
  g__joint_assignment : mg "_joint_assignment" = some (.ref f__joint_assignment)
  f__are_values : Addr
  fd__are_values : FuncData
  F__are_values : FunD K "_are_values" "_are_values" (defArgs s__are_values) (defBody s__are_values) (defScope s__are_values) [] [] f__are_values fd__are_values
  g__are_values : mg "_are_values" = some (.ref f__are_values)
  f__check_variables : Addr
  fd__check_variables : FuncData
  F__check_variables : FunD K "_check_variables" "_check_variables" (defArgs s__check_variables) (defBody s__check_variables) (defScope s__check_variables) [] [] f__check_variables fd__check_variables
  g__check_variables : mg "_check_variables" = some (.ref f__check_variables)
  f__is_variable_row : Addr
  fd__is_variable_row : FuncData
  F__is_variable_row : FunD K "_is_variable_row" "_is_variable_row" (defArgs s__is_variable_row) (defBody s__is_variable_row) (defScope s__is_variable_row) [] [] f__is_variable_row fd__is_variable_row
  g__is_variable_row : mg "_is_variable_row" = some (.ref f__is_variable_row)
  f__check_events : Addr
  fd__check_events : FuncData
  F__check_events : FunD K "_check_events" "_check_events" (defArgs s__check_events) (defBody s__check_events) (defScope s__check_events) [] [] f__check_events fd__check_events
  g__check_events : mg "_check_events" = some (.ref f__check_events)
  f__is_event_row : Addr
  fd__is_event_row : FuncData
  F__is_event_row : FunD K "_is_event_row" "_is_event_row" (defArgs s__is_event_row) (defBody s__is_event_row) (defScope s__is_event_row) [] [] f__is_event_row fd__is_event_row
  g__is_event_row : mg "_is_event_row" = some (.ref f__is_event_row)
  f__check_scope : Addr
  fd__check_scope : FuncData
  F__check_scope : FunD K "_check_scope" "_check_scope" (defArgs s__check_scope) (defBody s__check_scope) (defScope s__check_scope) [] [] f__check_scope fd__check_scope
  g__check_scope : mg "_check_scope" = some (.ref f__check_scope)
  f__check_variable : Addr
  fd__check_variable : FuncData
  F__check_variable : FunD K "_check_variable" "_check_variable" (defArgs s__check_variable) (defBody s__check_variable) (defScope s__check_variable) [] [] f__check_variable fd__check_variable
  g__check_variable : mg "_check_variable" = some (.ref f__check_variable)
  f__are_bad_tuples : Addr
  fd__are_bad_tuples : FuncData
  F__are_bad_tuples : FunD K "_are_bad_tuples" "_are_bad_tuples" (defArgs s__are_bad_tuples) (defBody s__are_bad_tuples) (defScope s__are_bad_tuples) [] [] f__are_bad_tuples fd__are_bad_tuples
  g__are_bad_tuples : mg "_are_bad_tuples" = some (.ref f__are_bad_tuples)
  f_l_cell : Addr
  fd_l_cell : FuncData
  F_l_cell : FunD K "_law_cell" "_law_cell" (defArgs s_l_cell) (defBody s_l_cell) (defScope s_l_cell) [] [] f_l_cell fd_l_cell
  g_l_cell : mg "_law_cell" = some (.ref f_l_cell)
  f_l_bag : Addr
  fd_l_bag : FuncData
  F_l_bag : FunD K "_law_bag" "_law_bag" (defArgs s_l_bag) (defBody s_l_bag) (defScope s_l_bag) [] [] f_l_bag fd_l_bag
  g_l_bag : mg "_law_bag" = some (.ref f_l_bag)
  f_l_take : Addr
  fd_l_take : FuncData
  F_l_take : FunD K "_law_take" "_law_take" (defArgs s_l_take) (defBody s_l_take) (defScope s_l_take) [] [] f_l_take fd_l_take
  g_l_take : mg "_law_take" = some (.ref f_l_take)
  f_l_names : Addr
  fd_l_names : FuncData
  F_l_names : FunD K "_law_names" "_law_names" (defArgs s_l_names) (defBody s_l_names) (defScope s_l_names) [] [] f_l_names fd_l_names
  g_l_names : mg "_law_names" = some (.ref f_l_names)
  f_l_scope : Addr
  fd_l_scope : FuncData
  F_l_scope : FunD K "_law_scope" "_law_scope" (defArgs s_l_scope) (defBody s_l_scope) (defScope s_l_scope) [] [] f_l_scope fd_l_scope
  g_l_scope : mg "_law_scope" = some (.ref f_l_scope)
  f_l_tuples : Addr
  fd_l_tuples : FuncData
  F_l_tuples : FunD K "_law_tuples" "_law_tuples" (defArgs s_l_tuples) (defBody s_l_tuples) (defScope s_l_tuples) [] [] f_l_tuples fd_l_tuples
  g_l_tuples : mg "_law_tuples" = some (.ref f_l_tuples)
  f_l_parts : Addr
  fd_l_parts : FuncData
  F_l_parts : FunD K "_law_parts" "_law_parts" (defArgs s_l_parts) (defBody s_l_parts) (defScope s_l_parts) [] [] f_l_parts fd_l_parts
  g_l_parts : mg "_law_parts" = some (.ref f_l_parts)
  f_l_agree : Addr
  fd_l_agree : FuncData
  F_l_agree : FunD K "_law_agree" "_law_agree" (defArgs s_l_agree) (defBody s_l_agree) (defScope s_l_agree) [] [] f_l_agree fd_l_agree
  g_l_agree : mg "_law_agree" = some (.ref f_l_agree)
  f_l_overlap : Addr
  fd_l_overlap : FuncData
  F_l_overlap : FunD K "_law_overlap" "_law_overlap" (defArgs s_l_overlap) (defBody s_l_overlap) (defScope s_l_overlap) [] [] f_l_overlap fd_l_overlap
  g_l_overlap : mg "_law_overlap" = some (.ref f_l_overlap)
  f_l_shows : Addr
  fd_l_shows : FuncData
  F_l_shows : FunD K "_law_shows" "_law_shows" (defArgs s_l_shows) (defBody s_l_shows) (defScope s_l_shows) [] [] f_l_shows fd_l_shows
  g_l_shows : mg "_law_shows" = some (.ref f_l_shows)
  f_l_forged : Addr
  fd_l_forged : FuncData
  F_l_forged : FunD K "_law_forged" "_law_forged" (defArgs s_l_forged) (defBody s_l_forged) (defScope s_l_forged) [] [] f_l_forged fd_l_forged
  g_l_forged : mg "_law_forged" = some (.ref f_l_forged)
  f_l_caught : Addr
  fd_l_caught : FuncData
  F_l_caught : FunD K "_law_caught" "_law_caught" (defArgs s_l_caught) (defBody s_l_caught) (defScope s_l_caught) [] [] f_l_caught fd_l_caught
  g_l_caught : mg "_law_caught" = some (.ref f_l_caught)
  f_law : Addr
  fd_law : FuncData
  F_law : FunD K "law" "law" (defArgs s_law) (defBody s_law) (defScope s_law) [] [] f_law fd_law
  g_law : mg "law" = some (.ref f_law)
  C_InvalidProblem : Addr
  I_InvalidProblem : Addr
  x_InvalidProblem : PySem.EXV.ExcTxt P K mg "InvalidProblem" "InvalidProblem.__init__" "value" C_InvalidProblem I_InvalidProblem
  cl_Ratio : Cls K C_Ratio
  mk_Ratio : Mk K C_Ratio f_Ratio_init
  na_Ratio__num : NoAttr K C_Ratio "_num"
  na_Ratio__den : NoAttr K C_Ratio "_den"
  cl_Problem : Cls K C_Problem
  mk_Problem : Mk K C_Problem f_Problem_init
  na_Problem__variables : NoAttr K C_Problem "_variables"
  na_Problem__sizes : NoAttr K C_Problem "_sizes"
  na_Problem__places : NoAttr K C_Problem "_places"
  na_Problem__events : NoAttr K C_Problem "_events"
  na_Problem__scopes : NoAttr K C_Problem "_scopes"
  na_Problem__bad_tuples : NoAttr K C_Problem "_bad_tuples"
  na_Problem__neighbors : NoAttr K C_Problem "_neighbors"
  ow_Problem : OwnC K C_Problem
  ow_Ratio : OwnC K C_Ratio
  exm_InvalidProblem_InvalidProblem : PySem.W.exmOne K (.ref C_InvalidProblem) (.ref C_InvalidProblem) = some true
  g_gcd : mg "gcd" = some (.builtin "math.gcd")
  sm : HasSm K
  kit_Ratio_Problem : PySem.W.kitOne K (.ref C_Ratio) (.ref C_Problem) = some false
  n_all : mg "all" = none
  n_any : mg "any" = none
  n_bool : mg "bool" = none
  n_dict : mg "dict" = none
  n_enumerate : mg "enumerate" = none
  n_int : mg "int" = none
  n_isinstance : mg "isinstance" = none
  n_len : mg "len" = none
  n_list : mg "list" = none
  n_max : mg "max" = none
  n_min : mg "min" = none
  n_range : mg "range" = none
  n_repr : mg "repr" = none
  n_sorted : mg "sorted" = none
  n_str : mg "str" = none
  n_tuple : mg "tuple" = none
  n_zip : mg "zip" = none
  c_MOST_VARIABLES : ∃ t, mg "MOST_VARIABLES" = some (.int 8 t)
  c_MOST_EVENTS : ∃ t, mg "MOST_EVENTS" = some (.int 8 t)
theorem b_is_list {P : Program} {K : PySem.W.Frag} {mg : Str → Option Value} (T : Txt P K mg) : Binds K T.fd_is_list ["value", "low", "high"] [] := T.F_is_list.bindsN fun _ _ _ _ _ _ us hl => match us, hl with | [_, _, _], _ => rfl
theorem b_check_distinct {P : Program} {K : PySem.W.Frag} {mg : Str → Option Value} (T : Txt P K mg) : Binds K T.fd_check_distinct ["names"] [] := T.F_check_distinct.bindsN fun _ _ _ _ _ _ us hl => match us, hl with | [_], _ => rfl
theorem b_is_name {P : Program} {K : PySem.W.Frag} {mg : Str → Option Value} (T : Txt P K mg) : Binds K T.fd_is_name ["value"] [] := T.F_is_name.bindsN fun _ _ _ _ _ _ us hl => match us, hl with | [_], _ => rfl
theorem b_is_any_integer {P : Program} {K : PySem.W.Frag} {mg : Str → Option Value} (T : Txt P K mg) : Binds K T.fd_is_any_integer ["value"] [] := T.F_is_any_integer.bindsN fun _ _ _ _ _ _ us hl => match us, hl with | [_], _ => rfl
theorem b_is_integer {P : Program} {K : PySem.W.Frag} {mg : Str → Option Value} (T : Txt P K mg) : Binds K T.fd_is_integer ["value", "low", "high"] [] := T.F_is_integer.bindsN fun _ _ _ _ _ _ us hl => match us, hl with | [_, _, _], _ => rfl
theorem b_Ratio_init_1 {P : Program} {K : PySem.W.Frag} {mg : Str → Option Value} (T : Txt P K mg) : ∃ ds, Vals (([.int 1] : List V).drop 0) ds ∧ Binds K T.fd_Ratio_init ["self", "numerator", "denominator"] ds := T.F_Ratio_init.binds1 (ps := ["self", "numerator", "denominator"]) 2 0 (by simp) (by rfl) fun _ _ _ _ _ _ _ us its h1 h2 => match us, its, h1, h2 with | [_, _], [_], _, _ => ⟨_, rfl, rfl⟩
theorem b_Ratio_init {P : Program} {K : PySem.W.Frag} {mg : Str → Option Value} (T : Txt P K mg) : Binds K T.fd_Ratio_init ["self", "numerator", "denominator"] [] := by
  obtain ⟨ds, v, b⟩ := T.F_Ratio_init.binds1 (ps := ["self", "numerator", "denominator"]) 3 1 (by simp) (by rfl) fun _ _ _ _ _ _ _ us its h1 h2 => match us, its, h1, h2 with | [_, _, _], [_], _, _ => ⟨_, rfl, rfl⟩
  cases v
  exact b
theorem b_Problem_init_1 {P : Program} {K : PySem.W.Frag} {mg : Str → Option Value} (T : Txt P K mg) : ∃ ds, Vals (([.ref T.e0] : List V).drop 0) ds ∧ Binds K T.fd_Problem_init ["self", "variables", "events"] ds := T.F_Problem_init.binds1 (ps := ["self", "variables", "events"]) 2 0 (by simp) (by rfl) fun _ _ _ _ _ _ _ us its h1 h2 => match us, its, h1, h2 with | [_, _], [_], _, _ => ⟨_, rfl, rfl⟩
theorem b_Problem_init {P : Program} {K : PySem.W.Frag} {mg : Str → Option Value} (T : Txt P K mg) : Binds K T.fd_Problem_init ["self", "variables", "events"] [] := by
  obtain ⟨ds, v, b⟩ := T.F_Problem_init.binds1 (ps := ["self", "variables", "events"]) 3 1 (by simp) (by rfl) fun _ _ _ _ _ _ _ us its h1 h2 => match us, its, h1, h2 with | [_, _, _], [_], _, _ => ⟨_, rfl, rfl⟩
  cases v
  exact b
theorem b_Problem_eq {P : Program} {K : PySem.W.Frag} {mg : Str → Option Value} (T : Txt P K mg) : Binds K T.fd_Problem_eq ["self", "other"] [] := T.F_Problem_eq.bindsN fun _ _ _ _ _ _ us hl => match us, hl with | [_, _], _ => rfl
theorem b_Problem_variables {P : Program} {K : PySem.W.Frag} {mg : Str → Option Value} (T : Txt P K mg) : Binds K T.fd_Problem_variables ["self"] [] := T.F_Problem_variables.bindsN fun _ _ _ _ _ _ us hl => match us, hl with | [_], _ => rfl
theorem b_Problem_events {P : Program} {K : PySem.W.Frag} {mg : Str → Option Value} (T : Txt P K mg) : Binds K T.fd_Problem_events ["self"] [] := T.F_Problem_events.bindsN fun _ _ _ _ _ _ us hl => match us, hl with | [_], _ => rfl
theorem b_Problem_scope {P : Program} {K : PySem.W.Frag} {mg : Str → Option Value} (T : Txt P K mg) : Binds K T.fd_Problem_scope ["self", "event"] [] := T.F_Problem_scope.bindsN fun _ _ _ _ _ _ us hl => match us, hl with | [_, _], _ => rfl
theorem b_Problem_bad_tuples {P : Program} {K : PySem.W.Frag} {mg : Str → Option Value} (T : Txt P K mg) : Binds K T.fd_Problem_bad_tuples ["self", "event"] [] := T.F_Problem_bad_tuples.bindsN fun _ _ _ _ _ _ us hl => match us, hl with | [_, _], _ => rfl
theorem b_Problem_are_adjacent {P : Program} {K : PySem.W.Frag} {mg : Str → Option Value} (T : Txt P K mg) : Binds K T.fd_Problem_are_adjacent ["self", "one", "other"] [] := T.F_Problem_are_adjacent.bindsN fun _ _ _ _ _ _ us hl => match us, hl with | [_, _, _], _ => rfl
theorem b_Problem_is_assignment {P : Program} {K : PySem.W.Frag} {mg : Str → Option Value} (T : Txt P K mg) : Binds K T.fd_Problem_is_assignment ["self", "value"] [] := T.F_Problem_is_assignment.bindsN fun _ _ _ _ _ _ us hl => match us, hl with | [_, _], _ => rfl
theorem b_Problem_occurs {P : Program} {K : PySem.W.Frag} {mg : Str → Option Value} (T : Txt P K mg) : Binds K T.fd_Problem_occurs ["self", "event", "assignment"] [] := T.F_Problem_occurs.bindsN fun _ _ _ _ _ _ us hl => match us, hl with | [_, _, _], _ => rfl
theorem b_Problem_is_event {P : Program} {K : PySem.W.Frag} {mg : Str → Option Value} (T : Txt P K mg) : Binds K T.fd_Problem_is_event ["self", "value"] [] := T.F_Problem_is_event.bindsN fun _ _ _ _ _ _ us hl => match us, hl with | [_, _], _ => rfl
theorem b_Problem_check_event {P : Program} {K : PySem.W.Frag} {mg : Str → Option Value} (T : Txt P K mg) : Binds K T.fd_Problem_check_event ["self", "value"] [] := T.F_Problem_check_event.bindsN fun _ _ _ _ _ _ us hl => match us, hl with | [_, _], _ => rfl
theorem b_Problem_check_assignment {P : Program} {K : PySem.W.Frag} {mg : Str → Option Value} (T : Txt P K mg) : Binds K T.fd_Problem_check_assignment ["self", "value"] [] := T.F_Problem_check_assignment.bindsN fun _ _ _ _ _ _ us hl => match us, hl with | [_, _], _ => rfl
theorem b_Problem_is_bad {P : Program} {K : PySem.W.Frag} {mg : Str → Option Value} (T : Txt P K mg) : Binds K T.fd_Problem_is_bad ["self", "event", "assignment"] [] := T.F_Problem_is_bad.bindsN fun _ _ _ _ _ _ us hl => match us, hl with | [_, _, _], _ => rfl
theorem b_check_problem {P : Program} {K : PySem.W.Frag} {mg : Str → Option Value} (T : Txt P K mg) : Binds K T.fd_check_problem ["value"] [] := T.F_check_problem.bindsN fun _ _ _ _ _ _ us hl => match us, hl with | [_], _ => rfl
theorem b_find_overlap {P : Program} {K : PySem.W.Frag} {mg : Str → Option Value} (T : Txt P K mg) : Binds K T.fd_find_overlap ["problem"] [] := T.F_find_overlap.bindsN fun _ _ _ _ _ _ us hl => match us, hl with | [_], _ => rfl
theorem b_is_exclusive {P : Program} {K : PySem.W.Frag} {mg : Str → Option Value} (T : Txt P K mg) : Binds K T.fd_is_exclusive ["problem"] [] := T.F_is_exclusive.bindsN fun _ _ _ _ _ _ us hl => match us, hl with | [_], _ => rfl
theorem b_shows_overlap {P : Program} {K : PySem.W.Frag} {mg : Str → Option Value} (T : Txt P K mg) : Binds K T.fd_shows_overlap ["problem", "value"] [] := T.F_shows_overlap.bindsN fun _ _ _ _ _ _ us hl => match us, hl with | [_, _], _ => rfl
theorem b__neighbors_of {P : Program} {K : PySem.W.Frag} {mg : Str → Option Value} (T : Txt P K mg) : Binds K T.fd__neighbors_of ["event", "scopes"] [] := T.F__neighbors_of.bindsN fun _ _ _ _ _ _ us hl => match us, hl with | [_, _], _ => rfl
theorem b__joint_assignment {P : Program} {K : PySem.W.Frag} {mg : Str → Option Value} (T : Txt P K mg) : Binds K T.fd__joint_assignment ["problem", "one", "other"] [] := T.F__joint_assignment.bindsN fun _ _ _ _ _ _ us hl => match us, hl with | [_, _, _], _ => rfl
theorem b__are_values {P : Program} {K : PySem.W.Frag} {mg : Str → Option Value} (T : Txt P K mg) : Binds K T.fd__are_values ["value", "sizes"] [] := T.F__are_values.bindsN fun _ _ _ _ _ _ us hl => match us, hl with | [_, _], _ => rfl
theorem b__check_variables {P : Program} {K : PySem.W.Frag} {mg : Str → Option Value} (T : Txt P K mg) : Binds K T.fd__check_variables ["variables"] [] := T.F__check_variables.bindsN fun _ _ _ _ _ _ us hl => match us, hl with | [_], _ => rfl
theorem b__is_variable_row {P : Program} {K : PySem.W.Frag} {mg : Str → Option Value} (T : Txt P K mg) : Binds K T.fd__is_variable_row ["row"] [] := T.F__is_variable_row.bindsN fun _ _ _ _ _ _ us hl => match us, hl with | [_], _ => rfl
theorem b__check_events {P : Program} {K : PySem.W.Frag} {mg : Str → Option Value} (T : Txt P K mg) : Binds K T.fd__check_events ["events", "sizes"] [] := T.F__check_events.bindsN fun _ _ _ _ _ _ us hl => match us, hl with | [_, _], _ => rfl
theorem b__is_event_row {P : Program} {K : PySem.W.Frag} {mg : Str → Option Value} (T : Txt P K mg) : Binds K T.fd__is_event_row ["row"] [] := T.F__is_event_row.bindsN fun _ _ _ _ _ _ us hl => match us, hl with | [_], _ => rfl
theorem b__check_scope {P : Program} {K : PySem.W.Frag} {mg : Str → Option Value} (T : Txt P K mg) : Binds K T.fd__check_scope ["scope", "sizes"] [] := T.F__check_scope.bindsN fun _ _ _ _ _ _ us hl => match us, hl with | [_, _], _ => rfl
theorem b__check_variable {P : Program} {K : PySem.W.Frag} {mg : Str → Option Value} (T : Txt P K mg) : Binds K T.fd__check_variable ["value", "sizes"] [] := T.F__check_variable.bindsN fun _ _ _ _ _ _ us hl => match us, hl with | [_, _], _ => rfl
theorem b__are_bad_tuples {P : Program} {K : PySem.W.Frag} {mg : Str → Option Value} (T : Txt P K mg) : Binds K T.fd__are_bad_tuples ["bad_tuples", "sizes"] [] := T.F__are_bad_tuples.bindsN fun _ _ _ _ _ _ us hl => match us, hl with | [_, _], _ => rfl
theorem b_l_cell {P : Program} {K : PySem.W.Frag} {mg : Str → Option Value} (T : Txt P K mg) : Binds K T.fd_l_cell ["_law_script", "_law_index"] [] := T.F_l_cell.bindsN fun _ _ _ _ _ _ us hl => match us, hl with | [_, _], _ => rfl
theorem b_l_bag {P : Program} {K : PySem.W.Frag} {mg : Str → Option Value} (T : Txt P K mg) : Binds K T.fd_l_bag ["_law_cell_here"] [] := T.F_l_bag.bindsN fun _ _ _ _ _ _ us hl => match us, hl with | [_], _ => rfl
theorem b_l_take {P : Program} {K : PySem.W.Frag} {mg : Str → Option Value} (T : Txt P K mg) : Binds K T.fd_l_take ["_law_bag_here", "_law_count"] [] := T.F_l_take.bindsN fun _ _ _ _ _ _ us hl => match us, hl with | [_, _], _ => rfl
theorem b_l_names {P : Program} {K : PySem.W.Frag} {mg : Str → Option Value} (T : Txt P K mg) : Binds K T.fd_l_names ["_law_bag_here", "_law_count"] [] := T.F_l_names.bindsN fun _ _ _ _ _ _ us hl => match us, hl with | [_, _], _ => rfl
theorem b_l_scope {P : Program} {K : PySem.W.Frag} {mg : Str → Option Value} (T : Txt P K mg) : Binds K T.fd_l_scope ["_law_bag_here", "_law_names_here"] [] := T.F_l_scope.bindsN fun _ _ _ _ _ _ us hl => match us, hl with | [_, _], _ => rfl
theorem b_l_tuples {P : Program} {K : PySem.W.Frag} {mg : Str → Option Value} (T : Txt P K mg) : Binds K T.fd_l_tuples ["_law_bag_here", "_law_sizes", "_law_scope_here", "_law_most"] [] := T.F_l_tuples.bindsN fun _ _ _ _ _ _ us hl => match us, hl with | [_, _, _, _], _ => rfl
theorem b_l_parts {P : Program} {K : PySem.W.Frag} {mg : Str → Option Value} (T : Txt P K mg) : Binds K T.fd_l_parts ["_law_bag_here"] [] := T.F_l_parts.bindsN fun _ _ _ _ _ _ us hl => match us, hl with | [_], _ => rfl
theorem b_l_agree {P : Program} {K : PySem.W.Frag} {mg : Str → Option Value} (T : Txt P K mg) : Binds K T.fd_l_agree ["_law_scope_here", "_law_one", "_law_more", "_law_other"] [] := T.F_l_agree.bindsN fun _ _ _ _ _ _ us hl => match us, hl with | [_, _, _, _], _ => rfl
theorem b_l_overlap {P : Program} {K : PySem.W.Frag} {mg : Str → Option Value} (T : Txt P K mg) : Binds K T.fd_l_overlap ["_law_sizes", "_law_rows"] [] := T.F_l_overlap.bindsN fun _ _ _ _ _ _ us hl => match us, hl with | [_, _], _ => rfl
theorem b_l_shows {P : Program} {K : PySem.W.Frag} {mg : Str → Option Value} (T : Txt P K mg) : Binds K T.fd_l_shows ["_law_sizes", "_law_rows", "_law_value"] [] := T.F_l_shows.bindsN fun _ _ _ _ _ _ us hl => match us, hl with | [_, _, _], _ => rfl
theorem b_l_forged {P : Program} {K : PySem.W.Frag} {mg : Str → Option Value} (T : Txt P K mg) : Binds K T.fd_l_forged ["_law_bag_here", "_law_sizes", "_law_rows", "_law_found"] [] := T.F_l_forged.bindsN fun _ _ _ _ _ _ us hl => match us, hl with | [_, _, _, _], _ => rfl
theorem b_l_caught {P : Program} {K : PySem.W.Frag} {mg : Str → Option Value} (T : Txt P K mg) : Binds K T.fd_l_caught ["_law_door", "_law_value"] [] := T.F_l_caught.bindsN fun _ _ _ _ _ _ us hl => match us, hl with | [_, _], _ => rfl
theorem b_law {P : Program} {K : PySem.W.Frag} {mg : Str → Option Value} (T : Txt P K mg) : Binds K T.fd_law ["_law_script"] [] := T.F_law.bindsN fun _ _ _ _ _ _ us hl => match us, hl with | [_], _ => rfl

end K13
namespace K13
open PySem PySem.Spec PyProof.Rows L2 TL
def d_is_list : He.DefD := ⟨("is_list", none), "is_list", "is_list", defArgs s_is_list, defBody s_is_list, defScope s_is_list, [], []⟩
def d_check_distinct : He.DefD := ⟨("check_distinct", none), "check_distinct", "check_distinct", defArgs s_check_distinct, defBody s_check_distinct, defScope s_check_distinct, [], []⟩
def d_is_name : He.DefD := ⟨("is_name", none), "is_name", "is_name", defArgs s_is_name, defBody s_is_name, defScope s_is_name, [], []⟩
def d_is_any_integer : He.DefD := ⟨("is_any_integer", none), "is_any_integer", "is_any_integer", defArgs s_is_any_integer, defBody s_is_any_integer, defScope s_is_any_integer, [], []⟩
def d_is_integer : He.DefD := ⟨("is_integer", none), "is_integer", "is_integer", defArgs s_is_integer, defBody s_is_integer, defScope s_is_integer, [], []⟩
def d_Ratio_init : He.DefD := ⟨("Ratio", some "__init__"), "__init__", "Ratio.__init__", defArgs s_Ratio_init, defBody s_Ratio_init, defScope s_Ratio_init, [.int 1], []⟩
def d_Problem_init : He.DefD := ⟨("Problem", some "__init__"), "__init__", "Problem.__init__", defArgs s_Problem_init, defBody s_Problem_init, defScope s_Problem_init, [.adr (He.dflAt ("Problem", some "__init__") 0)], []⟩
def d_Problem_eq : He.DefD := ⟨("Problem", some "__eq__"), "__eq__", "Problem.__eq__", defArgs s_Problem_eq, defBody s_Problem_eq, defScope s_Problem_eq, [], []⟩
def d_Problem_variables : He.DefD := ⟨("Problem", some "variables"), "variables", "Problem.variables", defArgs s_Problem_variables, defBody s_Problem_variables, defScope s_Problem_variables, [], []⟩
def d_Problem_events : He.DefD := ⟨("Problem", some "events"), "events", "Problem.events", defArgs s_Problem_events, defBody s_Problem_events, defScope s_Problem_events, [], []⟩
def d_Problem_scope : He.DefD := ⟨("Problem", some "scope"), "scope", "Problem.scope", defArgs s_Problem_scope, defBody s_Problem_scope, defScope s_Problem_scope, [], []⟩
def d_Problem_bad_tuples : He.DefD := ⟨("Problem", some "bad_tuples"), "bad_tuples", "Problem.bad_tuples", defArgs s_Problem_bad_tuples, defBody s_Problem_bad_tuples, defScope s_Problem_bad_tuples, [], []⟩
def d_Problem_are_adjacent : He.DefD := ⟨("Problem", some "are_adjacent"), "are_adjacent", "Problem.are_adjacent", defArgs s_Problem_are_adjacent, defBody s_Problem_are_adjacent, defScope s_Problem_are_adjacent, [], []⟩
def d_Problem_is_assignment : He.DefD := ⟨("Problem", some "is_assignment"), "is_assignment", "Problem.is_assignment", defArgs s_Problem_is_assignment, defBody s_Problem_is_assignment, defScope s_Problem_is_assignment, [], []⟩
def d_Problem_occurs : He.DefD := ⟨("Problem", some "occurs"), "occurs", "Problem.occurs", defArgs s_Problem_occurs, defBody s_Problem_occurs, defScope s_Problem_occurs, [], []⟩
def d_Problem_is_event : He.DefD := ⟨("Problem", some "is_event"), "is_event", "Problem.is_event", defArgs s_Problem_is_event, defBody s_Problem_is_event, defScope s_Problem_is_event, [], []⟩
def d_Problem_check_event : He.DefD := ⟨("Problem", some "check_event"), "check_event", "Problem.check_event", defArgs s_Problem_check_event, defBody s_Problem_check_event, defScope s_Problem_check_event, [], []⟩
def d_Problem_check_assignment : He.DefD := ⟨("Problem", some "_check_assignment"), "_check_assignment", "Problem._check_assignment", defArgs s_Problem_check_assignment, defBody s_Problem_check_assignment, defScope s_Problem_check_assignment, [], []⟩
def d_Problem_is_bad : He.DefD := ⟨("Problem", some "_is_bad"), "_is_bad", "Problem._is_bad", defArgs s_Problem_is_bad, defBody s_Problem_is_bad, defScope s_Problem_is_bad, [], []⟩
def d_check_problem : He.DefD := ⟨("check_problem", none), "check_problem", "check_problem", defArgs s_check_problem, defBody s_check_problem, defScope s_check_problem, [], []⟩
def d_find_overlap : He.DefD := ⟨("find_overlap", none), "find_overlap", "find_overlap", defArgs s_find_overlap, defBody s_find_overlap, defScope s_find_overlap, [], []⟩
def d_is_exclusive : He.DefD := ⟨("is_exclusive", none), "is_exclusive", "is_exclusive", defArgs s_is_exclusive, defBody s_is_exclusive, defScope s_is_exclusive, [], []⟩
def d_shows_overlap : He.DefD := ⟨("shows_overlap", none), "shows_overlap", "shows_overlap", defArgs s_shows_overlap, defBody s_shows_overlap, defScope s_shows_overlap, [], []⟩
def d__neighbors_of : He.DefD := ⟨("_neighbors_of", none), "_neighbors_of", "_neighbors_of", defArgs s__neighbors_of, defBody s__neighbors_of, defScope s__neighbors_of, [], []⟩
def d__joint_assignment : He.DefD := ⟨("_joint_assignment", none), "_joint_assignment", "_joint_assignment", defArgs s__joint_assignment, defBody s__joint_assignment, defScope s__joint_assignment, [], []⟩
def d__are_values : He.DefD := ⟨("_are_values", none), "_are_values", "_are_values", defArgs s__are_values, defBody s__are_values, defScope s__are_values, [], []⟩
def d__check_variables : He.DefD := ⟨("_check_variables", none), "_check_variables", "_check_variables", defArgs s__check_variables, defBody s__check_variables, defScope s__check_variables, [], []⟩
def d__is_variable_row : He.DefD := ⟨("_is_variable_row", none), "_is_variable_row", "_is_variable_row", defArgs s__is_variable_row, defBody s__is_variable_row, defScope s__is_variable_row, [], []⟩
def d__check_events : He.DefD := ⟨("_check_events", none), "_check_events", "_check_events", defArgs s__check_events, defBody s__check_events, defScope s__check_events, [], []⟩
def d__is_event_row : He.DefD := ⟨("_is_event_row", none), "_is_event_row", "_is_event_row", defArgs s__is_event_row, defBody s__is_event_row, defScope s__is_event_row, [], []⟩
def d__check_scope : He.DefD := ⟨("_check_scope", none), "_check_scope", "_check_scope", defArgs s__check_scope, defBody s__check_scope, defScope s__check_scope, [], []⟩
def d__check_variable : He.DefD := ⟨("_check_variable", none), "_check_variable", "_check_variable", defArgs s__check_variable, defBody s__check_variable, defScope s__check_variable, [], []⟩
def d__are_bad_tuples : He.DefD := ⟨("_are_bad_tuples", none), "_are_bad_tuples", "_are_bad_tuples", defArgs s__are_bad_tuples, defBody s__are_bad_tuples, defScope s__are_bad_tuples, [], []⟩
def d_l_cell : He.DefD := ⟨("_law_cell", none), "_law_cell", "_law_cell", defArgs s_l_cell, defBody s_l_cell, defScope s_l_cell, [], []⟩
def d_l_bag : He.DefD := ⟨("_law_bag", none), "_law_bag", "_law_bag", defArgs s_l_bag, defBody s_l_bag, defScope s_l_bag, [], []⟩
def d_l_take : He.DefD := ⟨("_law_take", none), "_law_take", "_law_take", defArgs s_l_take, defBody s_l_take, defScope s_l_take, [], []⟩
def d_l_names : He.DefD := ⟨("_law_names", none), "_law_names", "_law_names", defArgs s_l_names, defBody s_l_names, defScope s_l_names, [], []⟩
def d_l_scope : He.DefD := ⟨("_law_scope", none), "_law_scope", "_law_scope", defArgs s_l_scope, defBody s_l_scope, defScope s_l_scope, [], []⟩
def d_l_tuples : He.DefD := ⟨("_law_tuples", none), "_law_tuples", "_law_tuples", defArgs s_l_tuples, defBody s_l_tuples, defScope s_l_tuples, [], []⟩
def d_l_parts : He.DefD := ⟨("_law_parts", none), "_law_parts", "_law_parts", defArgs s_l_parts, defBody s_l_parts, defScope s_l_parts, [], []⟩
def d_l_agree : He.DefD := ⟨("_law_agree", none), "_law_agree", "_law_agree", defArgs s_l_agree, defBody s_l_agree, defScope s_l_agree, [], []⟩
def d_l_overlap : He.DefD := ⟨("_law_overlap", none), "_law_overlap", "_law_overlap", defArgs s_l_overlap, defBody s_l_overlap, defScope s_l_overlap, [], []⟩
def d_l_shows : He.DefD := ⟨("_law_shows", none), "_law_shows", "_law_shows", defArgs s_l_shows, defBody s_l_shows, defScope s_l_shows, [], []⟩
def d_l_forged : He.DefD := ⟨("_law_forged", none), "_law_forged", "_law_forged", defArgs s_l_forged, defBody s_l_forged, defScope s_l_forged, [], []⟩
def d_l_caught : He.DefD := ⟨("_law_caught", none), "_law_caught", "_law_caught", defArgs s_l_caught, defBody s_l_caught, defScope s_l_caught, [], []⟩
def d_law : He.DefD := ⟨("law", none), "law", "law", defArgs s_law, defBody s_law, defScope s_law, [], []⟩
def fn : List He.DefD := [d_is_list, d_check_distinct, d_is_name, d_is_any_integer, d_is_integer, d_Ratio_init, d_Problem_init, d_Problem_eq, d_Problem_variables, d_Problem_events, d_Problem_scope, d_Problem_bad_tuples, d_Problem_are_adjacent, d_Problem_is_assignment, d_Problem_occurs, d_Problem_is_event, d_Problem_check_event, d_Problem_check_assignment, d_Problem_is_bad, d_check_problem, d_find_overlap, d_is_exclusive, d_shows_overlap, d__neighbors_of, d__joint_assignment, d__are_values, d__check_variables, d__is_variable_row, d__check_events, d__is_event_row, d__check_scope, d__check_variable, d__are_bad_tuples, d_l_cell, d_l_bag, d_l_take, d_l_names, d_l_scope, d_l_tuples, d_l_parts, d_l_agree, d_l_overlap, d_l_shows, d_l_forged, d_l_caught, d_law]
def fa : List He.Fa := [.glo "is_list", .glo "check_distinct", .glo "is_name", .glo "is_any_integer", .glo "is_integer", .glo "check_problem", .glo "find_overlap", .glo "is_exclusive", .glo "shows_overlap", .glo "_neighbors_of", .glo "_joint_assignment", .glo "_are_values", .glo "_check_variables", .glo "_is_variable_row", .glo "_check_events", .glo "_is_event_row", .glo "_check_scope", .glo "_check_variable", .glo "_are_bad_tuples", .glo "_law_cell", .glo "_law_bag", .glo "_law_take", .glo "_law_names", .glo "_law_scope", .glo "_law_tuples", .glo "_law_parts", .glo "_law_agree", .glo "_law_overlap", .glo "_law_shows", .glo "_law_forged", .glo "_law_caught", .glo "law", .glo "Ratio", .glo "Problem", .meth "Problem" "__eq__", .meth "Problem" "variables", .meth "Problem" "events", .meth "Problem" "scope", .meth "Problem" "bad_tuples", .meth "Problem" "are_adjacent", .meth "Problem" "is_assignment", .meth "Problem" "occurs", .meth "Problem" "is_event", .meth "Problem" "check_event", .meth "Problem" "_check_assignment", .meth "Problem" "_is_bad", .free "all", .free "any", .free "bool", .free "dict", .free "enumerate", .free "int", .free "isinstance", .free "len", .free "list", .free "max", .free "min", .free "range", .free "repr", .free "sorted", .free "str", .free "tuple", .free "zip", .cls "Ratio", .mkr "Ratio", .noat "Ratio" "_num", .noat "Ratio" "_den", .cls "Problem", .mkr "Problem", .noat "Problem" "_variables", .noat "Problem" "_sizes", .noat "Problem" "_places", .noat "Problem" "_events", .noat "Problem" "_scopes", .noat "Problem" "_bad_tuples", .noat "Problem" "_neighbors", .exm "InvalidProblem" "InvalidProblem" true]
abbrev R : PySem.W.OpenRow := PySem.W.OpenLaw.row PySem.Challenge.rw_resampler_k13_overlaps
def x_InvalidProblem : PySem.EXV.ExD := PySem.EXV.exdOf "InvalidProblem" "InvalidProblem.__init__" "value" "not a problem" (inClass (top 10) 0) 0
def exs : List PySem.EXV.ExD := [x_InvalidProblem]
def tests : List (PySem.W.Frag → Bool) := [(fun K => ownB K "Problem"), (fun K => ownB K "Ratio"), (fun K => He.eqO (PySem.W.nsIn K mainGlobals "gcd") (some (some (.builtin "math.gcd")))), PySem.EXV.smB, (fun K => decide (PySem.W.kitOne K (.ref (He.ga K "Ratio")) (.ref (He.ga K "Problem")) = some false)), (PySem.EXV.conB "MOST_VARIABLES" 8), (PySem.EXV.conB "MOST_EVENTS" 8), (fun K => PySem.EXV.isEB K (He.dflAt ("Problem", some "__init__") 0 K))]
def file : Str := PySem.Challenge.pw_resampler_k13_overlaps.main.file
def asv : List PySem.Addr := [3, 405, 404, 578, 577, 191, 190, 284, 283, 291, 290, 296, 295, 303, 302, 310, 309, 325, 324, 318, 423, 422, 418, 430, 429, 451, 450, 458, 457, 472, 471, 479, 478, 486, 485, 500, 499, 507, 506, 535, 534, 556, 555, 563, 562, 568, 567, 589, 588, 596, 595, 603, 602, 610, 609, 615, 614, 620, 619, 625, 624, 630, 629, 637, 636, 642, 641, 649, 648, 656, 655, 663, 662, 670, 669, 677, 676, 684, 683, 691, 690, 696, 695, 701, 700, 706, 705, 711, 710, 716, 715, 721, 720, 726, 725, 731, 730, 738, 737, 745, 744, 417, 59, 58, 188, 187, 176, 1, 2]
abbrev hk : PySem.W.Hook := PySem.EXV.hookY asv file tests fa fn exs
def ob (s : PySem.W.SharedT) : PySem.EXV.AlX := PySem.EXV.obsYG asv file tests fa fn exs (HandSHeadRun.getT s)
theorem ob_eq (s : PySem.W.SharedT) : ob s = hk.obs s.abs := PySem.EXV.obsYG_eq (HandSHeadRun.getT_eq s)
def loose : List Str := [("_wall" : Str), ("ResampleError" : Str), ("MissingError" : Str), ("StateError" : Str), ("InvalidInteger" : Str), ("InvalidRatio" : Str), ("InvalidVariables" : Str), ("InvalidEvents" : Str), ("InvalidProblem" : Str), ("InvalidAssignment" : Str), ("DuplicateName" : Str), ("UnknownVariable" : Str), ("UnknownEvent" : Str), ("is_list" : Str), ("check_distinct" : Str), ("is_name" : Str), ("is_any_integer" : Str), ("is_integer" : Str), ("Ratio" : Str), ("Problem" : Str), ("check_problem" : Str), ("find_overlap" : Str), ("is_exclusive" : Str), ("shows_overlap" : Str), ("_neighbors_of" : Str), ("_joint_assignment" : Str), ("_are_values" : Str), ("_check_variables" : Str), ("_is_variable_row" : Str), ("_check_events" : Str), ("_is_event_row" : Str), ("_check_scope" : Str), ("_check_variable" : Str), ("_are_bad_tuples" : Str), ("_law_cell" : Str), ("_law_bag" : Str), ("_law_take" : Str), ("_law_names" : Str), ("_law_scope" : Str), ("_law_tuples" : Str), ("_law_parts" : Str), ("_law_agree" : Str), ("_law_overlap" : Str), ("_law_shows" : Str), ("_law_forged" : Str), ("_law_caught" : Str), ("MOST_VARIABLES" : Str), ("MOST_EVENTS" : Str)]
theorem run (w : World) : HandSHeadRun.RunEqI R (PySem.W.view R.prog [0, 55]) hk ob 8000 loose w := by
  unfold HandSHeadRun.RunEqI
  kernel_rfl


end K13
namespace L2
open PySem PySem.Spec PyProof.Rows
/-! ### data whose repr fits -/
def CpOk (x : Str) : Prop := ∀ c ∈ x.cps.toList, c < 16 ^ 8
theorem cpOk_of (s : String) : CpOk (Str.ofString s) := by
  intro c hc
  rw [Str.ofString_eq_toList] at hc
  obtain ⟨ch, _, rfl⟩ := List.mem_map.mp (show c ∈ s.toList.map Char.toNat by simpa using hc)
  have h : ch.toNat < 4294967296 := ch.val.toNat_lt
  exact h
theorem cpOk_app {x y : Str} (hx : CpOk x) (hy : CpOk y) : CpOk (x ++ y) := by
  intro c hc
  have e : (x ++ y).cps.toList = x.cps.toList ++ y.cps.toList := by show (x.cps ++ y.cps).toList = _; simp
  rw [e] at hc
  exact (List.mem_append.mp hc).elim (hx c) (hy c)
theorem cpOk_empty : CpOk Str.empty := fun c hc => by cases hc
/-- repr fits in B signs, nested at most k deep -/
structure OkD (B k : Nat) (d : PyData) : Prop where
  sh : d.showable = true
  dp : d.depth ≤ k
  ln : d.shown.length ≤ B
theorem OkD.mono {B B' k k' : Nat} {d : PyData} (h : OkD B k d) (hB : B ≤ B') (hk : k ≤ k') : OkD B' k' d := ⟨h.sh, Nat.le_trans h.dp hk, Nat.le_trans h.ln hB⟩
theorem OkD.fine {B k : Nat} {d : PyData} (h : OkD B k d) (hB : B ≤ 16777216) (hk : k ≤ 60) : Fine d := ⟨h.sh, Nat.le_trans h.dp hk, by rw [sizeLine_eq]; exact Nat.le_trans h.ln hB⟩
theorem okd_none : OkD 4 0 .none := ⟨rfl, Nat.le_refl _, Nat.le_refl _⟩
theorem okd_bool (b : Bool) : OkD 5 0 (.bool b) := ⟨rfl, Nat.le_refl _, by cases b <;> decide⟩
theorem okd_int {i : Int} (h : i.natAbs < 10 ^ 500) : OkD 501 0 (.int i) := by
  refine ⟨?_, Nat.le_refl _, ?_⟩
  · have e : i.natAbs.log2 < 1900 := PySem.Flt.log2_lt_of (k := 1900) (by decide) (Nat.lt_of_lt_of_le h (by decide +kernel))
    simp only [PyData.showable, decide_eq_true_eq]
    omega
  · show (Str.ofString (toString i)).length ≤ 501
    rw [PySem.ofString_length]
    exact int_text_length_le10 (k := 500) (by decide) h
theorem okd_str {x : Str} {n : Nat} (h : CpOk x) (l : x.length ≤ n) : OkD (10 * n + 2) 0 (.str x) := by
  refine ⟨rfl, Nat.le_refl _, ?_⟩
  have := StrLaws.reprText_len x h
  simp only [PyData.shown]
  omega
theorem showableAll_of : ∀ {ds : List PyData}, (∀ d ∈ ds, d.showable = true) → PyData.showableAll ds = true
  | [], _ => rfl
  | d :: ds, h => by
    simp only [PyData.showableAll, Bool.and_eq_true]
    exact ⟨h d List.mem_cons_self, showableAll_of fun x hx => h x (List.mem_cons_of_mem _ hx)⟩
theorem depthAll_of {k : Nat} : ∀ {ds : List PyData}, (∀ d ∈ ds, d.depth ≤ k) → PyData.depthAll ds ≤ k
  | [], _ => Nat.zero_le _
  | d :: ds, h => by
    simp only [PyData.depthAll]
    exact Nat.max_le.mpr ⟨h d List.mem_cons_self, depthAll_of fun x hx => h x (List.mem_cons_of_mem _ hx)⟩
theorem shownAll_sum {B : Nat} : ∀ {ds : List PyData}, (∀ d ∈ ds, d.shown.length ≤ B) → ((PyData.shownAll ds).map (·.length)).sum ≤ ds.length * B
  | [], _ => Nat.zero_le _
  | d :: ds, h => by
    have h1 := h d List.mem_cons_self
    have h2 := shownAll_sum (ds := ds) fun x hx => h x (List.mem_cons_of_mem _ hx)
    simp only [PyData.shownAll, List.map_cons, List.sum_cons, List.length_cons, Nat.add_mul, Nat.one_mul]
    omega
theorem okd_list {B k m : Nat} {ds : List PyData} (h : ∀ d ∈ ds, OkD B k d) (hm : ds.length ≤ m) : OkD (m * (B + 2) + 3) (k + 1) (.list ds) := by
  refine ⟨?_, ?_, ?_⟩
  · simp only [PyData.showable]; exact showableAll_of fun d hd => (h d hd).sh
  · simp only [PyData.depth]; exact Nat.succ_le_succ (depthAll_of fun d hd => (h d hd).dp)
  · have h1 := shownAll_sum fun d hd => (h d hd).ln
    have h2 := listText_len_le (PyData.shownAll ds)
    have h3 := PyData.shownAll_length ds
    have h4 : ds.length * (B + 2) ≤ m * (B + 2) := Nat.mul_le_mul_right _ hm
    rw [Nat.mul_add] at h4
    simp only [PyData.shown]
    omega
theorem okd_tuple {B k m : Nat} {ds : List PyData} (h : ∀ d ∈ ds, OkD B k d) (hm : ds.length ≤ m) : OkD (m * (B + 2) + 3) (k + 1) (.tuple ds) := by
  refine ⟨?_, ?_, ?_⟩
  · simp only [PyData.showable]; exact showableAll_of fun d hd => (h d hd).sh
  · simp only [PyData.depth]; exact Nat.succ_le_succ (depthAll_of fun d hd => (h d hd).dp)
  · have h1 := shownAll_sum fun d hd => (h d hd).ln
    have h2 := tupleText_len_le (PyData.shownAll ds)
    have h3 := PyData.shownAll_length ds
    have h4 : ds.length * (B + 2) ≤ m * (B + 2) := Nat.mul_le_mul_right _ hm
    rw [Nat.mul_add] at h4
    simp only [PyData.shown]
    omega
theorem all1 {P : PyData → Prop} {a : PyData} (ha : P a) : ∀ d ∈ [a], P d := fun d hd => by
  rw [List.mem_singleton.mp hd]; exact ha
theorem allC {P : PyData → Prop} {a : PyData} {l : List PyData} (ha : P a) (hl : ∀ d ∈ l, P d) : ∀ d ∈ a :: l, P d := fun d hd => (List.mem_cons.mp hd).elim (fun e => e ▸ ha) (hl d)
theorem all0 {P : PyData → Prop} : ∀ d ∈ ([] : List PyData), P d := fun d hd => by cases hd
/-! ### data that stays -/
mutual
theorem Dx.same {K : PySem.W.Frag} {H H' : Hp} (s : ∀ a o, H a = some o → H' a = some o) : ∀ {d : PyData} {v : V}, Dx K H v d → Dx K H' v d
  | .none, _, h => by cases h; exact .non
  | .bool b, _, h => by cases h; exact .bl b
  | .int i, _, h => by cases h; exact .int i
  | .str x, _, h => by cases h; exact .str x
  | .list ds, _, h => by
    cases h with
    | lst hs ha => exact .lst (hs.ext s) (DxAll.same s ha)
  | .tuple ds, _, h => by
    cases h with
    | tup hs ha => exact .tup (hs.ext s) (DxAll.same s ha)
  | .dict kvs, _, h => by
    cases h with
    | dic hs hk ha => exact .dic (hs.elim (fun h => .inl (s _ _ h)) fun ⟨o, h⟩ => .inr ⟨o, s _ _ h⟩) hk (DxKv.same s ha)
theorem DxAll.same {K : PySem.W.Frag} {H H' : Hp} (s : ∀ a o, H a = some o → H' a = some o) : ∀ {ds : List PyData} {vs : List V}, DxAll K H vs ds → DxAll K H' vs ds
  | [], _, h => by cases h; exact .nil
  | d :: ds, _, h => by
    cases h with
    | cons h1 h2 => exact .cons (Dx.same s h1) (DxAll.same s h2)
theorem DxKv.same {K : PySem.W.Frag} {H H' : Hp} (s : ∀ a o, H a = some o → H' a = some o) : ∀ {kvs : List (PyData × PyData)} {vs : List V}, DxAll K H vs (kvs.map (·.2)) → DxAll K H' vs (kvs.map (·.2))
  | [], _, h => by cases h; exact .nil
  | (k, d) :: ds, _, h => by
    rw [List.map_cons] at h ⊢
    cases h with
    | cons h1 h2 => exact .cons (Dx.same s h1) (DxKv.same s h2)
end
end L2

/-! enumerate(a dict): its keys by turns. -/
namespace PySem
open Sem (wp)
section
variable {prog : Program} {w : World} {A : Around} {E : Value → Shared → Prop} {st : Shared}
theorem ekey_item {jt dd : Addr} {j n ep : Nat} {ob : Obj} {es : Array DictEntry} {en : DictEntry} {P : Value → Shared → Prop} (g : st.heap.IsKeyIter jt dd j n ep) (gd : st.heap.get? dd = some ob) (cd : ob.data = .dict es ep)
    (zs : es.size = n) (hx : es[j]? = some en) (hQ : ∀ h', h'.IsKeyIter jt dd (j + 1) n ep → Heap.SameBut jt st.heap h' → P en.key { st with heap := h' }) :
    wpAny (model prog w) A (Builtin.SmallTypes.nextOf (.ref jt)) P E st := by
  obtain ⟨oi, gi, ci, di⟩ := id g
  unfold Builtin.SmallTypes.nextOf
  refine wpAny_bind (wpAny_callSpecial?_slot (name := Str.ofString "__next__") g.typeIs F.slot_dict_keyiterator_next (wpAny_call_entry F.slot_dict_keyiterator_next g.typeIs F.entry_dict_keyiterator_next ?_ (F.args_dict_keyiterator_next_1 _)))
  refine wpAny_bind <| wpAny_pure ?_
  refine wpAny_bind (wpAny_bind ?_)
  first | refine wpAny_bind (wpAny_typeNameOfWhole_keyiter g.typeIs (wpAny_pure ?_)) | refine wpAny_bind (wpAny_typeNameOf_keyiter g.typeIs (wpAny_pure ?_))
  refine wpAny_bind (wpAny_fieldsOf gi di ?_)
  have ow : Builtin.Dict_items.ownsTuple "dict_keyiterator" = false := by decide
  simp only [ow, Bool.false_eq_true, if_false]
  show wpAny _ _ (if (Value.ref dd == Value.none) = true then _ else _) _ _ st
  rw [if_neg (show ¬ ((Value.ref dd == Value.none) = true) from Bool.false_ne_true)]
  refine wpAny_bind (wpAny_pure (wpAny_bind (wpAny_dictEntries gd cd ?_)))
  rw [if_neg (by rw [zs]; simp)]
  refine wpAny_bind (wpAny_pure (wpAny_bind (wpAny_dictEpoch gd cd ?_)))
  rw [if_neg (by simp)]
  refine wpAny_pure ?_
  obtain ⟨lt, hen⟩ := Array.getElem?_eq_some_iff.mp hx
  simp only [show ¬ ((j : Int) < 0) from by omega, if_false, Int.toNat_natCast, Array.getElem?_eq_getElem lt]
  refine wpAny_bind ?_
  first | refine wpAny_bind (wpAny_typeNameOfWhole_keyiter g.typeIs (wpAny_pure ?_)) | refine wpAny_bind (wpAny_typeNameOf_keyiter g.typeIs (wpAny_pure ?_))
  refine wpAny_bind (wpAny_isOneOf_keyiter g.typeIs ?_)
  show wpAny _ _ (setField (.ref jt) 1 (rawInt ((j : Int) + 1)) >>= _) _ _ st
  refine wpAny_bind (wpAny_setField gi di (by simp) ?_)
  have g' : (st.heap.update jt (Obj.mapFields (·.setIfInBounds 1 (rawInt ((j : Int) + 1))))).IsKeyIter jt dd (j + 1) n ep :=
    ⟨_, Heap.get?_update_self _ gi (Obj.isFreed_of_fields (Obj.data_mapFields di _)), (Obj.cls_mapFields ..).trans ci, by rw [Obj.data_mapFields di]; simp [rawInt]⟩
  refine wpAny_bind (wpAny_holding (wpAny_bind (wpAny_isOneOf_keyiter (s := { st with heap := st.heap.update jt (Obj.mapFields (·.setIfInBounds 1 (rawInt ((j : Int) + 1)))) }) g'.typeIs ?_)))
  show wpAny _ _ (pure es[j].key) _ _ _
  rw [hen]
  exact wpAny_pure (wpAny_pure ⟨_, rfl, wpAny_pure (hQ _ g' (Heap.SameBut.update ..))⟩)
theorem ekey_end {jt dd : Addr} {j n ep : Nat} {ob : Obj} {es : Array DictEntry} {P : Value → Shared → Prop} (hh : A.handled = none) (g : st.heap.IsKeyIter jt dd j n ep) (gd : st.heap.get? dd = some ob) (cd : ob.data = .dict es ep)
    (zs : es.size = n) (ge : n ≤ j) (hE : ∀ h' e, Heap.ExtBut jt st.heap h' → (∃ o, h'.get? e = some o ∧ o.cls = .type "StopIteration") → E (.ref e) { st with heap := h' }) :
    wpAny (model prog w) A (Builtin.SmallTypes.nextOf (.ref jt)) P E st := by
  obtain ⟨oi, gi, ci, di⟩ := id g
  unfold Builtin.SmallTypes.nextOf
  refine wpAny_bind (wpAny_callSpecial?_slot (name := Str.ofString "__next__") g.typeIs F.slot_dict_keyiterator_next (wpAny_call_entry F.slot_dict_keyiterator_next g.typeIs F.entry_dict_keyiterator_next ?_ (F.args_dict_keyiterator_next_1 _)))
  refine wpAny_bind <| wpAny_pure ?_
  refine wpAny_bind (wpAny_bind ?_)
  first | refine wpAny_bind (wpAny_typeNameOfWhole_keyiter g.typeIs (wpAny_pure ?_)) | refine wpAny_bind (wpAny_typeNameOf_keyiter g.typeIs (wpAny_pure ?_))
  refine wpAny_bind (wpAny_fieldsOf gi di ?_)
  have ow : Builtin.Dict_items.ownsTuple "dict_keyiterator" = false := by decide
  simp only [ow, Bool.false_eq_true, if_false]
  show wpAny _ _ (if (Value.ref dd == Value.none) = true then _ else _) _ _ st
  rw [if_neg (show ¬ ((Value.ref dd == Value.none) = true) from Bool.false_ne_true)]
  refine wpAny_bind (wpAny_pure (wpAny_bind (wpAny_dictEntries gd cd ?_)))
  rw [if_neg (by rw [zs]; simp)]
  refine wpAny_bind (wpAny_pure (wpAny_bind (wpAny_dictEpoch gd cd ?_)))
  rw [if_neg (by simp)]
  refine wpAny_pure ?_
  have ge' : es.size ≤ j := by rw [zs]; exact ge
  simp only [show ¬ ((j : Int) < 0) from by omega, if_false, Int.toNat_natCast, Array.getElem?_eq_none ge']
  refine wpAny_bind ?_
  first | refine wpAny_bind (wpAny_typeNameOfWhole_keyiter g.typeIs (wpAny_pure ?_)) | refine wpAny_bind (wpAny_typeNameOf_keyiter g.typeIs (wpAny_pure ?_))
  show wpAny _ _ (setField (.ref jt) 0 .none >>= _) _ _ st
  refine wpAny_bind (wpAny_setField gi di (by simp) ?_)
  show wpAny _ _ (newExc (.type "StopIteration") [] >>= fun x => raiseNew x) _ _ _
  refine wpAny_bind (by
    simp only [newExc, newTuple]
    refine wpAny_bind (wpAny_newObj_type ?_ (by size_fits))
    refine wpAny_bind (m := firstArgMember _ _) (wpAny_of_eq (a := Value.none) (by first | rfl | (simp only [firstArgMember]; rfl)) (wpAny_newObj_type ?_ (by size_fits)))
    simp only [raiseNew]
    refine wpAny_bind (wpAny_handled ?_)
    rw [show A.in1.handled = none from hh]
    exact wpAny_bind (wpAny_pure (wpAny_throw (hE _ _ (((Heap.SameBut.update ..).extBut.push _).push _) ⟨_, Heap.get?_push_size _ rfl, rfl⟩))))
/-- the keys' iterator drawn, over a dict that stands -/
theorem ekey_draws (hh : A.handled = none) (jt dd : Addr) (ne : dd ≠ jt) (ob : Obj) (es : Array DictEntry) (ep : Nat) (cd : ob.data = .dict es ep) :
    Draws prog w A jt [jt, dd] es.size (fun j v => ∃ en, es[j]? = some en ∧ v = en.key) (fun j h => h.IsKeyIter jt dd j es.size ep ∧ h.get? dd = some ob) where
  live := fun _ _ s => let ⟨o, ho, _⟩ := s.1; ⟨o, ho⟩
  frame := fun _ _ _ s hk => ⟨s.1.at fun o e => hk jt (by simp) o e, hk dd (by simp) _ s.2⟩
  item := fun j s Q E hj g hQ => ekey_item g.1 g.2 cd rfl (Array.getElem?_eq_getElem hj) fun h' g' sb => hQ _ h' s.toks ⟨_, Array.getElem?_eq_getElem hj, rfl⟩ ⟨g', (sb.2 dd ne).trans g.2⟩ sb
  done := fun s Q E g hE => ekey_end hh g.1 g.2 cd rfl (Nat.le_refl _) hE
end
end PySem
namespace PySem
open Sem (wp)
section
theorem begins_keys {dd : Addr} {ob : Obj} {es : Array DictEntry} {ep : Nat} (sys : (dd == sysModules) = false) (cx : ob.ExactDict) (cd : ob.data = .dict es ep) :
    Begins (.ref dd) { cls := .type "dict_keyiterator", data := .fields #[.ref dd, .int 0 0, .int es.size 0, .int ep 0] } fun h => h.get? dd = some ob where
  iter := fun _ _ _ _ _ _ gd h => L2.iter_keys sys gd cx cd h
  keeps := fun _ _ x hk => hk _ _ x
  free := rfl
theorem meets_enum1 {v : Value} {o : Obj} {H : Heap → Prop} (B : Begins v o H) :
    Meets (Builtin.«enumerate.__new__» ⟨[.type "enumerate", v], []⟩) (fun _ R z => H z.heap ∧
      R (.ok (.ret (.ref (z.heap.push o).objs.size))) { z with heap := (z.heap.push o).push { cls := .type "enumerate", data := .fields #[.none, .bool false, .ref z.heap.objs.size, rawInt 0, .none, .none] } }) :=
  .of_wp fun prog w A R z h => by
    obtain ⟨hp, g, d, tk, os⟩ := z; obtain ⟨h1, h⟩ := h
    have hsub := sub_enumerate
    have q1 : ∀ {A' : Around} {E : Value → Shared → Prop} {Q : Value → Shared → Prop}, Q (.ref hp.objs.size) ⟨hp.push o, g, d, tk, os⟩ → wpAny (model prog w) A' (pyIter v) Q E ⟨hp, g, d, tk, os⟩ := fun q => B.iter prog w _ _ ⟨hp, g, d, tk, os⟩ _ h1 q
    wp_walk using q1
    refine wpAny_stack_any fun ss => wpAny_pure ?_
    split
    · rename_i c _ _ _ _ _
      cases (c == Value.type "enumerate") <;> (wp_walk using q1; exact ⟨_, rfl, h⟩)
    · wp_walk using q1
      exact ⟨_, rfl, h⟩
variable {prog : Program} {w : World} {A : Around} {E : Value → Shared → Prop} {st : Shared}
theorem enum1_begins {v : Value} {o : Obj} {H : Heap → Prop} {Q : Value → Shared → Prop} (B : Begins v o H) (h1 : H st.heap)
    (h : ∀ h', IsEnum h' (st.heap.objs.size + 1) st.heap.objs.size 0 .none → h'.get? st.heap.objs.size = some o → (∀ b o, st.heap.get? b = some o → h'.get? b = some o) → Q (.ref (st.heap.objs.size + 1)) { st with heap := h' }) :
    wpAny (model prog w) A (call (.type "enumerate") [v]) Q E st := by
  refine callType_new F.called_enumerate (by decide) (F.typeCall_enumerate_1 _) (F.newCall_enumerate_1 _) (fun obj => F.args_object_init_2 obj _) F.entry_enumerate_new (meets_enum1 B) ⟨h1, ?_⟩
  have z1 : (st.heap.push o).objs.size = st.heap.objs.size + 1 := Heap.size_push ..
  show _ ∧ _
  rw [z1]
  have g : IsEnum ((st.heap.push o).push { cls := .type "enumerate", data := .fields #[.none, .bool false, .ref st.heap.objs.size, rawInt 0, .none, .none] }) (st.heap.objs.size + 1) st.heap.objs.size 0 .none := by
    have q := Heap.get?_push_size (st.heap.push o) (o := { cls := .type "enumerate", data := .fields #[.none, .bool false, .ref st.heap.objs.size, rawInt 0, .none, .none] }) rfl
    rw [z1] at q; exact q
  exact ⟨⟨_, g, rfl⟩, h _ g (Heap.get?_push_of_some _ (Heap.get?_push_size _ B.free)) fun b o x => Heap.get?_push_of_some _ (Heap.get?_push_of_some _ x)⟩
end
end PySem
namespace L2
open PySem PySem.Spec PyProof.Rows
/-- the keys of a locked dict, numbered, each in a new pair -/
def Ited (d : Addr) (o : Obj) (kvs : List (Key × V)) : It :=
  ⟨fun i H => H d = some (.frz o (.dK kvs)) ∧ i < kvs.length, fun i H x H' => ∃ T k v, kvs[i]? = some (k, v) ∧ x = .ref T ∧ H T = none ∧ H' = upd H T (.tup [.int (i : Nat), kV k]), fun i H => H d = some (.frz o (.dK kvs)) ∧ kvs.length ≤ i⟩
theorem turn_enumD {P : Program} {w : World} {K : PySem.W.Frag} {elts : List Expr} {kk : Nat} {tpos : Pos} {d : Addr} {o : Obj} {es : Array DictEntry} {ep : Nat} {kvs : List (Key × V)} (e it : Addr) (hod : o.data = .dict es ep) :
    Turn P w K (.Tuple elts kk tpos) (Ited d o kvs) [e, it] e (fun i h => (∃ old, IsEnum h e it ((i : Nat) : Int) old) ∧ h.IsKeyIter it d i es.size ep ∧ e ≠ it ∧ i ≤ es.size) where
  mem := by simp
  obj := fun i h sx b hb => by
    obtain ⟨⟨old, he⟩, ⟨o, ho, hc, hd⟩, _⟩ := sx
    rcases (by simpa using hb : b = e ∨ b = it) with z | z
    · rw [z]; exact ⟨_, he, fun v q => nomatch q⟩
    · rw [z]; exact ⟨o, ho, fun v q => by rw [hd] at q; cases q⟩
  keep := fun i h h' sx k => let ⟨⟨old, he⟩, hi, hne⟩ := sx; ⟨⟨old, k e (by simp) _ he⟩, hi.at fun o q => k it (by simp) o q, hne⟩
  item := by
    intro X hP hw hK hc i pins s σ H E I hf sx hg
    subst hP hw hK
    obtain ⟨⟨old, he⟩, hit, hne, hle⟩ := sx
    obtain ⟨hd, hi⟩ := hg
    obtain ⟨hs, hgd, hx, es', ep', vs, hdt, hsz, kv, hm⟩ := I.frzK hd
    obtain ⟨rfl, rfl⟩ := dict_ep hod hdt
    obtain ⟨⟨k, v⟩, hkv⟩ : ∃ p, kvs[i]? = some p := ⟨kvs[i], List.getElem?_eq_getElem hi⟩
    obtain ⟨u, hu, ru⟩ := kv_get kv hkv
    have hel : e < s.heap.objs.size := Heap.lt_size he
    have hil : it < s.heap.objs.size := by obtain ⟨_, q, _⟩ := hit; exact Heap.lt_size q
    have ned : ∀ b ∈ [e, it], b ≠ d := fun b hb z => by have q := (hf b hb).1; rw [z, hd] at q; cases q
    refine wpAny_pyNext_enum_itemD (ekey_draws (A := X.A.in1) (I.ok.hd hc) it d (ned it (by simp)).symm o es' ep' hdt) he ⟨hit, hgd⟩ (by rw [hsz]; exact hi) hne (by simp; exact ⟨hne, ned e (by simp)⟩) fun x h' tk hen ho hit' hT hz hk => ?_
    obtain ⟨en, hen, rfl⟩ := hen
    have hkey : keyIs k en.key = true := by
      obtain ⟨o2, es2, g2, c2, d2, ko, ps, nd⟩ := hm
      rw [hgd] at g2
      cases g2
      obtain ⟨rfl, _⟩ := dict_ep hdt d2
      exact (Pairs.get? ps (by rw [Array.getElem?_toList]; exact hen) hu).1
    refine ⟨_, rfl, wpAny_letOwnedTupleGo_enum (s := { s with heap := h', toks := tk + 1 }) ho fun h'' he' sb => ?_⟩
    have hT2 : h''.get? s.heap.objs.size = some { cls := .type "tuple", data := .seq #[.int i tk, en.key] } := (sb.2 _ (Nat.ne_of_gt hel)).trans hT
    have new : ObjOk X.prog X.w (upd H s.heap.objs.size (.tup [.int (i : Nat), kV k])) h'' s.heap.objs.size (.tup [.int (i : Nat), kV k]) :=
      ⟨by show 2 ≤ sizeLine; decide, [.int i tk, en.key], .cons ⟨_, rfl⟩ (.cons (relV_key hkey) .nil), ⟨_, hT2, rfl, _, rfl⟩⟩
    have I1 : Inv X pins σ (upd H s.heap.objs.size (.tup [.int (i : Nat), kV k])) { s with heap := h'', toks := tk + 1 } :=
      I.turnedNew (ch := [e, it]) (fun b ob hb q => (sb.2 b (fun z => hb (by simp [z]))).trans (hk b ob (fun z => hb (by simp [z])) (fun z => hb (by simp [z])) q)) hf (Nat.le_refl _) new
    have he3 : IsEnum h'' e it (((i + 1 : Nat) : Int)) en.key := by
      have e1 : ((i + 1 : Nat) : Int) = (i : Int) + 1 := by omega
      rw [e1]; exact he'
    have fz : ∀ b ∈ [e, it], upd H s.heap.objs.size (.tup [.int (i : Nat), kV k]) b = none := fun b hb => by
      have hb' : b < s.heap.objs.size := by
        rcases (by simpa using hb : b = e ∨ b = it) with z | z
        · rw [z]; exact hel
        · rw [z]; exact hil
      rw [upd_ne (Nat.ne_of_lt hb')]
      exact (hf b hb).1
    exact ⟨.ref s.heap.objs.size, _, I1, rfl, ⟨_, k, v, hkv, rfl, I.hok.fresh (Nat.le_refl _), rfl⟩, ⟨⟨en.key, he3⟩, hit'.1.at fun o q => (sb.2 it (Ne.symm hne)).trans q, hne, by rw [hsz]; exact hi⟩, fz⟩
  done := by
    intro X hP hw hK hc i pins s σ H E I hf sx hg
    subst hP hw hK
    obtain ⟨⟨old, he⟩, hit, hne, hle⟩ := sx
    obtain ⟨hd, hi⟩ := hg
    obtain ⟨hs, hgd, hx, es', ep', vs, hdt, hsz, kv, hm⟩ := I.frzK hd
    obtain ⟨rfl, rfl⟩ := dict_ep hod hdt
    obtain ⟨f0, f1, f2, f3, f4, f5⟩ := hf it (by simp)
    have ned : it ≠ d := fun z => by rw [z, hd] at f0; cases f0
    have ei : i = es'.size := Nat.le_antisymm hle (by rw [hsz]; exact hi)
    subst ei
    exact wpAny_pyNext_enum_endD (ekey_draws (A := X.A.in1) (I.ok.hd hc) it d ned.symm o es' ep' hdt) he ⟨hit, hgd⟩ fun h' eb => ⟨rfl, I.turned (t' := s.toks) (fun b o hb q => eb b o hb q) f0 f1 f3 f4 f5⟩
  self := fun A i s Q E sx h => let ⟨⟨_, he⟩, _⟩ := sx; wpAny_pyIter_enum he h
def iEnumD (td : TA) : TI := fun σ H R => td σ H fun vs H1 => ∃ d o kvs, vs = [.ref d] ∧ H1 d = some (.frz o (.dK kvs)) ∧ R (Ited d o kvs) H1
theorem pi_enumD {X : Cx} {e : Expr} {ta : TA} {p pos tpos : Pos} {elts : List Expr} {kk : Nat} (hg : Gl X "enumerate") (hm : X.mg "enumerate" = none) (ha : PA X [e] ta) (hs : starEach [e] X.env = [(false, eval e X.env)] := by rfl) :
    PI X (.Tuple elts kk tpos) (.Call (.Name "enumerate" p) [e] [] pos) (iEnumD ta) := by
  refine ⟨fun pins s σ H R I h => ?_⟩
  refine Call_ (ld_blt I hg hm boot_enumerate (PyProof.Rows.callWith_type1 (thn (ha.run pos pins s σ H _ I h) fun us s1 ⟨vs, H1, I1, r1, d, o, kvs, ex, hd, q⟩ => ?_) hs rfl))
  subst ex
  cases r1 with
  | cons r rr =>
    cases rr
    cases r
    obtain ⟨sys, hgd, hx, es, ep, ws, hdt, hsz, kv, hm⟩ := I1.frzK hd
    refine enum1_begins (begins_keys sys hx hdt) hgd fun h' he hit hk => wpAny_pyIter_enum he ?_
    have I2 : Inv X pins σ H1 { s1 with heap := h' } := I1.kept (t' := s1.toks) hk
    refine ⟨s1.heap.objs.size + 1, [s1.heap.objs.size + 1, s1.heap.objs.size], _, _, H1, rfl, I2, turn_enumD (s1.heap.objs.size + 1) s1.heap.objs.size hdt, ⟨⟨.none, he⟩, ⟨_, hit, rfl, rfl⟩, Nat.succ_ne_self _, Nat.zero_le _⟩, fun b hb => ?_, q⟩
    have le : s1.heap.objs.size ≤ b := by
      rcases (by simpa using hb : b = s1.heap.objs.size + 1 ∨ b = s1.heap.objs.size) with z | z
      · rw [z]; exact Nat.le_add_right _ _
      · rw [z]; exact Nat.le_refl _
    exact I1.fpOk le (I1.hok.fresh le)
/-- walked by one rule or by another, as the value is -/
theorem pi_or {X : Cx} {tg e : Expr} {w1 w2 : TI} (h1 : PI X tg e w1) (h2 : PI X tg e w2) : PI X tg e fun σ H R => w1 σ H R ∨ w2 σ H R :=
  ⟨fun pins s σ H R I h => h.elim (h1.run pins s σ H R I) (h2.run pins s σ H R I)⟩
end L2

/-! sorted(xs), xs a list or a tuple of tuples of small ints, all of one length. -/
namespace STT
open PySem PyProof.Rows TS
section
variable {prog : Program} {w : World} {A : Around} {E : Value → Shared → Prop} {st : Shared}
theorem coll_seq {l : Addr} {o : Obj} {vs : List Value} {n : Nat} {Q : List Value → Shared → Prop} (gl : st.heap.get? l = some o) (cl : o.cls = .type "list" ∨ o.cls = .type "tuple") (dl : o.data = .seq vs.toArray n) (z : vs.length ≤ sizeLine)
    (h : Q vs { st with heap := (st.heap.push (seqObj "list" #[] 0)).update st.heap.objs.size (Obj.mapSeq (· ++ vs.toArray)) }) : wpAny (model prog w) A (collect (.ref l)) Q E st := by
  rcases cl with cl | cl
  · exact collect_list ⟨o, gl, cl, n, dl⟩ h z
  · unfold collect
    refine wpAny_bind (wpAny_runValue (codeAny_builtin entry_proto_collect' ?_))
    show wpAny _ _ (do again (.builtin "list.__iadd__" ⟨[← newList [], .ref l], []⟩)) _ _ st
    refine wpAny_bind (wpAny_newList (wpAny_pure ⟨Code.quiet_builtin _ (by decide +kernel), codeAny_builtin entry_list_iadd' ?_⟩))
    show wpAny _ _ (Builtin.List.listExtendWith (.ref st.heap.objs.size) (.ref l) (.ref st.heap.objs.size)) _ _ { st with heap := st.heap.push (seqObj "list" #[] 0) }
    unfold Builtin.List.listExtendWith
    have gl' : (st.heap.push (seqObj "list" #[] 0)).get? l = some o := Heap.get?_push_of_some _ gl
    refine wpAny_bind (wpAny_typeOf (T := "tuple") ⟨o, gl', cl⟩ ?_)
    rw [if_pos (by rw [show (Value.type "tuple" == Value.type "tuple") = true from rfl]; simp)]
    refine wpAny_bind (listItems_at gl' dl (wpAny_bind (listItems_at (xs := #[]) (n := 0) (Heap.get?_push_size _ rfl) rfl ?_)))
    rw [if_neg (by simp)]
    refine wpAny_bind (listUpdate_at (xs := #[]) (n := 0) (Heap.get?_push_size _ rfl) rfl ?_ (Nat.zero_le _) (by show (#[] ++ vs.toArray).size ≤ sizeLine + 1; simp only [Array.size_append, List.size_toArray, List.length_nil]; omega))
    refine wpAny_pure ?_
    show wpAny (model prog w) A (do
        let oo ← load st.heap.objs.size
        match oo.data with
        | .seq xs _ => pure xs.toList
        | _ => unsupported "internal:collect") Q E { st with heap := (st.heap.push (seqObj "list" #[] 0)).update st.heap.objs.size (Obj.mapSeq (· ++ vs.toArray)) }
    refine wpAny_bind (wpAny_load (get?_update_seq (Heap.get?_push_size _ rfl) _) ?_)
    show wpAny _ _ (pure ((#[] : Array Value) ++ vs.toArray).toList) Q E _
    rw [show ((#[] : Array Value) ++ vs.toArray).toList = vs by simp]
    exact wpAny_pure h
theorem sorted_tt {l : Addr} {o : Obj} {vs : List Value} {n d : Nat} {B : Int} {Q : Value → Shared → Prop} (gl : st.heap.get? l = some o) (cl : o.cls = .type "list" ∨ o.cls = .type "tuple") (dl : o.data = .seq vs.toArray n) (lt : vs.length < 64) (hd : 1 ≤ d) (x : TupsOk st.heap d B vs)
    (h : ∀ out : Array Value, out.toList.Perm vs → out.toList.Pairwise (fun u v => code B (intsOf st.heap u) ≤ code B (intsOf st.heap v)) → Q (.ref (st.heap.objs.size + 1)) { st with heap := sortedAll st.heap vs out }) :
    wpAny (model prog w) A (call (.builtin "sorted") [.ref l]) Q E st := by
  refine Calls.call_function_entry kind_sorted plain_sorted entry_sorted (args_sorted1 _) ?_
  unfold Builtin.«sorted»
  refine wpAny_bind (m := checkCount "sorted" 1 1 _) (wpAny_pure (wpAny_bind (coll_seq gl cl dl (by rw [sizeLine_eq]; omega) (wpAny_bind (wpAny_newList ?_ (by rw [sizeLine_eq]; omega))))))
  have zz : ((st.heap.push (seqObj "list" #[] 0)).update st.heap.objs.size (Obj.mapSeq (· ++ vs.toArray))).objs.size = st.heap.objs.size + 1 := by rw [Heap.size_update, size_push']
  have gN : (((st.heap.push (seqObj "list" #[] 0)).update st.heap.objs.size (Obj.mapSeq (· ++ vs.toArray))).push (seqObj "list" vs.toArray 0)).get? (st.heap.objs.size + 1) = some (seqObj "list" vs.toArray 0) := by rw [← zz]; exact Heap.get?_push_size _ rfl
  have keep : ∀ b o, st.heap.get? b = some o → o.cls = .type "tuple" → (((st.heap.push (seqObj "list" #[] 0)).update st.heap.objs.size (Obj.mapSeq (· ++ vs.toArray))).push (seqObj "list" vs.toArray 0)).get? b = some o := fun b o q _ => by
    have lb : b < st.heap.objs.size := Heap.lt_size q
    rw [Heap.get?_push_ne _ _ _ (by rw [zz]; exact Nat.ne_of_lt (Nat.lt_succ_of_lt lb)), Heap.get?_update_ne _ _ _ _ (Nat.ne_of_lt lb), Heap.get?_push_ne _ _ _ (Nat.ne_of_lt lb)]
    exact q
  show wpAny _ _ _ _ _ { st with heap := ((st.heap.push (seqObj "list" #[] 0)).update st.heap.objs.size (Obj.mapSeq (· ++ vs.toArray))).push (seqObj "list" vs.toArray 0) }
  rw [zz]
  refine wpAny_bind (wpAny_holding (wpAny_call_entry slot_list_sort ⟨_, gN, rfl⟩ entry_list_sort (sort_tups gN lt hd (x.keeps keep) (fun v => code B (intsOf st.heap v)) (fun v hv ns t => ?_) fun out a1 a2 => ⟨_, rfl, ?_⟩) (args_list_sort _)))
  · obtain ⟨ns0, t0, _⟩ := x v hv
    rw [show ns = ns0 from t.ints.symm.trans (t0.keeps keep).ints]
    show code B (intsOf st.heap v) = code B ns0
    rw [t0.ints]
  · exact wpAny_pure ⟨_, rfl, h out a1 a2⟩
end
end STT
namespace L2
open PySem PySem.Spec PyProof.Rows
section
variable {X : Cx}
/-- sorted(xs), xs a list or a tuple of tuples of ints, d each, within [0, B) -/
def rSortTT (K : PySem.W.Frag) : List V → Hp → VK → Prop := fun vs H Q => ∃ (a : Addr) (xs : List V) (f : V → List Int) (d : Nat) (B : Int), vs = [V.ref a] ∧ (SqL K H a xs ∨ SqT K H a xs) ∧ xs.length < 64 ∧ 1 ≤ d ∧
  (∀ x ∈ xs, ∃ t, x = V.ref t ∧ SqT K H t ((f x).map V.int) ∧ (f x).length = d ∧ TS.Bd B (f x)) ∧
  ∀ ys p, ys.Perm xs → ys.Pairwise (fun x y => TS.code B (f x) ≤ TS.code B (f y)) → H p = none → Q (.ref p) (upd H p (.lst ys))
theorem cr_sortTT : CallR X (.builtin "sorted") (rSortTT X.K) := by
  intro pins s σ H vs us Q I r h
  obtain ⟨a, xs, f, d, B, rfl, hs, lt, hd, hx, q⟩ := h
  obtain ⟨u, rfl, ru⟩ := vals1 r
  obtain rfl : u = Value.ref a := ru
  obtain ⟨its, rv, o, n, gl, cl, dl⟩ : ∃ its : List Value, Vals xs its ∧ ∃ o n, s.heap.get? a = some o ∧ (o.cls = .type "list" ∨ o.cls = .type "tuple") ∧ o.data = .seq its.toArray n := by
    rcases hs with hs | hs
    · obtain ⟨its, rv, pl, _⟩ := I.list hs
      obtain ⟨o, go, co, n, dn⟩ := pl.isList
      exact ⟨its, rv, o, n, go, .inl co, dn⟩
    · obtain ⟨its, rv, ⟨o, go, co, n, dn⟩, _⟩ := I.tuple hs
      exact ⟨its, rv, o, n, go, .inr co, dn⟩
  obtain ⟨e1, e2⟩ := refs_back rv fun x m => by
    obtain ⟨t, e, _⟩ := hx x m
    exact ⟨t, e⟩
  have tups : ∀ v ∈ its, TS.TupInts s.heap v (f (backV v)) ∧ (f (backV v)).length = d ∧ TS.Bd B (f (backV v)) := fun v hv => by
    obtain ⟨t, rfl⟩ := e2 v hv
    have hm : V.ref t ∈ xs := by rw [e1]; exact List.mem_map.mpr ⟨_, hv, rfl⟩
    obtain ⟨t', e, sq, l, b⟩ := hx _ hm
    cases e
    obtain ⟨us, r2, tp, _⟩ := I.tuple sq
    exact ⟨⟨t, _, rfl, tp, by rw [List.toList_toArray]; exact intsAre_of r2⟩, l, b⟩
  refine STT.sorted_tt gl cl dl (by rw [← rv.length]; exact lt) hd (fun v hv => ⟨_, tups v hv⟩) fun out pm pw => ?_
  obtain ⟨e, ge⟩ := sortedAll_at s.heap its out
  have h3 : ∀ u ∈ out.toList, ∃ a, u = Value.ref a := fun u hu => e2 u (pm.mem_iff.mp hu)
  have lo : (out.toList.map backV).length ≤ sizeLine := by
    rw [List.length_map, pm.length_eq, ← rv.length, sizeLine_eq]; omega
  have hp : s.heap.objs.size ≤ s.heap.objs.size + 1 := Nat.le_succ _
  refine ⟨.ref (s.heap.objs.size + 1), upd H (s.heap.objs.size + 1) (.lst (out.toList.map backV)), I.laid (t' := s.toks) (fun b o q => sortedAll_old q) hp ⟨lo, out.toList, e, vals_back h3, by simpa using ge⟩, rfl, q _ _ ?_ ?_ (I.hok.fresh hp)⟩
  · rw [e1]; exact pm.map backV
  · rw [List.pairwise_map]
    refine pw.imp_of_mem fun {u v} hu hv l => ?_
    rw [(tups u (pm.mem_iff.mp hu)).1.ints, (tups v (pm.mem_iff.mp hv)).1.ints] at l
    exact l
end
end L2

/-! len(o), repr(o) of an own instance with __len__, __repr__; {x!r} of nested data. -/
namespace PySem
namespace EXV
open PySem.W PySem.Calls PyProof.Rows PySem.Spec
section
variable {prog : Program} {w : World} {A : Around} {E : Value → Shared → Prop} {st : Shared} {K : Frag} {x C f : Addr} {ox : Obj} {od : Option Obj}
theorem own_len {Q : Value → Shared → Prop} (X : K.In st.heap) (I : InstAt st.heap x ox C od) (hl : findIn K (.ref C) "__len__" = some (some (.ref f))) (hf : typeIn K (.ref f) = some (.type "function"))
    (h : wpAny (model prog w) A.in1 (call (.ref f) [.ref x]) (fun v s' => ∃ (n : Nat) (t : Tok), v = .int n t ∧ n < 2 ^ 62 ∧ ∀ t', Q (.int n t') { s' with toks := s'.toks + 1 }) E st) : wpAny (model prog w) A (call (.builtin "len") [.ref x]) Q E st := by
  refine Calls.call_function_entry kind_len plain_len entry_len (args_len1 _) ?_
  unfold Builtin.«len»
  refine wpAny_bind (m := oneArg "len" _) (wpAny_pure (wpAny_bind (m := callSpecial? (.ref x) (Str.ofString "__len__")) (special_fn X I hl hf (wpAny_mono h (fun r s' z => ?_) fun _ _ z => z))))
  obtain ⟨n, t, rfl, lt, q⟩ := z
  refine wpAny_bind (wpAny_holding (wpAny_pure (wpAny_bind (wpAny_letGo ?_))))
  show wpAny _ _ (if ((n : Nat) : Int) < 0 then _ else _) _ _ _
  rw [if_neg (by omega)]
  show wpAny _ _ (if ((n : Nat) : Int) ≥ 2 ^ 63 then _ else _) _ _ _
  rw [if_neg (by omega)]
  exact wpAny_bind (wpAny_mkInt (wpAny_pure ⟨_, rfl, q _⟩))
theorem own_repr {Q : Value → Shared → Prop} (hu : A.units + 1 < cLine) (X : K.In st.heap) (I : InstAt st.heap x ox C od) (hs : findIn K (.ref C) "__repr__" = some (some (.ref f))) (hf : isFn K (.ref f) = true)
    (h : wpAny (model prog w) A.in1 (call (.ref f) [.ref x]) (fun r s₁ => ∃ y t, r = .str y t ∧ Q r s₁) E st) : wpAny (model prog w) A (call (.builtin "repr") [.ref x]) Q E st := by
  refine Calls.call_function_entry PySem.F.kind_repr PySem.F.plain_repr PySem.F.entry_repr (PySem.F.args_repr1 _) ?_
  unfold Builtin.«repr»
  refine wpAny_bind (m := oneArg "repr" _) (wpAny_pure (wpAny_bind (m := cRoomFor _ _) (wpAny_cRoomFor (by show A.units + 1 < cLine; exact hu) ?_)))
  have sp : ∀ {Q' : Option Value → Shared → Prop}, Q' (some (.ref f)) st → wpAny (model prog w) A.in1 (specialOf (.ref x) "__repr__") Q' E st := fun q => by
    unfold specialOf
    exact wpAny_bind (I.type.here ((PySem.W.looks_findIn X hs).here q))
  refine wpAny_bind (sp ?_)
  refine wpAny_bind (m := callSpecialIfBound? (.ref x) (Str.ofString "__repr__")) (ifBound_K X I hs hf (wpAny_mono h (fun r s₁ z => ?_) fun _ _ z => z))
  obtain ⟨y, t, rfl, q⟩ := z
  refine wpAny_bind (wpAny_isInstance (T := "str") (b := true) rfl isSubtype_str_str ?_)
  exact wpAny_pure ⟨_, rfl, q⟩
end
end EXV
end PySem
namespace L2
open PySem PySem.Spec PyProof.Rows
section
variable {X : Cx} {CX : CXT} {k : Nat} {C f : Addr} {fd : FuncData} {ps : List Str} {sp : Sp} {E : XK}
def rLenX (C : Addr) (sp : Sp) (E : XK) : List V → Hp → VK → Prop := fun xs H Q => ∃ a dx fs, xs = [.ref a] ∧ H a = some (.ins C dx fs) ∧ sp [.ref a] H (fun v H' => ∃ n : Nat, v = .int n ∧ n < 2 ^ 62 ∧ Q (.int n) H') E
theorem call_lenX (F : FnOk X.prog X.w X.K X.mg X.base CX k f fd ps sp) (hr : Room (k + 1) X.A) (hb : Binds X.K fd ps []) (hx : Passes CX X E) (hs : PySem.W.findIn X.K (.ref C) "__len__" = some (some (.ref f))) (hf : PySem.W.isFn X.K (.ref f) = true) :
    CallR X (.builtin "len") (rLenX C sp E) := by
  intro pins s σ H xs us Q I r h
  obtain ⟨a, dx, fs, rfl, ha, hsp⟩ := h
  obtain ⟨u, rfl, ru⟩ := vals1 r
  cases ru
  obtain ⟨mA, J, _⟩ := ins_get I.hok ha
  obtain ⟨od, J, _⟩ := J.look
  refine PySem.EXV.own_len I.kIn J hs (beq_iff_eq.mp hf) ?_
  refine wpAny_mono (run_fnAt (vs := [.ref a]) rfl F hr.in1 hb hx I (.cons rfl .nil) hsp) (fun w s' z => ?_) fun _ _ z => z
  obtain ⟨v', H', I', rv, n, rfl, lt, q⟩ := z
  obtain ⟨t, rfl⟩ := rv
  exact ⟨n, t, rfl, lt, fun t' => ⟨.int n, H', I'.tok _, ⟨t', rfl⟩, q⟩⟩
/-- the callee, where no repr is under way, at another depth of the same frames -/
theorem run_fnGAt {A' : Around} {pins : List (Addr × Obj)} {σ : St} {H : Hp} {s : Shared} {Q : VK} {us : List Value} {vs : List V} (hfr : A'.frames = X.A.frames) (hA : A'.guards = some []) (F : FnG X.prog X.w X.K X.mg X.base CX k f fd ps sp) (hr : Room k A') (hb : Binds X.K fd ps []) (hx : Passes CX X E)
    (I : Inv X pins σ H s) (r : Vals vs us) (h : sp vs H Q E) : wpAny (model X.prog X.w) A' (call (.ref f) us) (EP X pins σ Q) X.xe s := by
  have e := I.env0
  have e0 : Env0 X.prog X.w X.K X.mg X.base A' X.stack s H := ⟨by rw [hfr]; exact e.frames, e.mod, e.bs, e.bsz, e.funs, e.frf, e.hok, e.bare⟩
  have b := hb s us I.kIn (by rw [List.append_nil, ← r.length]; exact F.len _ _ _ _ h)
  rw [List.append_nil] at b
  refine wpAny_call (codeAny_mono (F.run A' X.stack s H ⟨us, []⟩ us vs Q E hr hA e0 b r h) fun r s' hq => ?_)
  match r, hq with
  | .error e, hq => exact hx pins σ H s e s' I hq
  | .ok (.ret u), hq => exact I.after hq
  | .ok .next, hq => exact hq.elim
  | .ok .brk, hq => exact hq.elim
  | .ok .cont, hq => exact hq.elim
theorem call_reprX (hA : X.A.guards = some []) (F : FnG X.prog X.w X.K X.mg X.base CX k f fd ps sp) (hr : Room (k + 1) X.A) (hb : Binds X.K fd ps []) (hx : Passes CX X E) (hs : PySem.W.findIn X.K (.ref C) "__repr__" = some (some (.ref f))) (hf : PySem.W.isFn X.K (.ref f) = true) :
    CallR X (.builtin "repr") (rStrX C sp E) := by
  intro pins s σ H xs us Q I r h
  obtain ⟨a, dx, fs, rfl, ha, hsp⟩ := h
  obtain ⟨u, rfl, ru⟩ := vals1 r
  cases ru
  obtain ⟨mA, J, _⟩ := ins_get I.hok ha
  obtain ⟨od, J, _⟩ := J.look
  refine PySem.EXV.own_repr (by have := hr.un; omega) I.kIn J hs hf ?_
  refine wpAny_mono (run_fnGAt (vs := [.ref a]) rfl hA F hr.in1 hb hx I (.cons rfl .nil) hsp) (fun w s' z => ?_) fun _ _ z => z
  obtain ⟨v', H', I', rv, b, rfl, q⟩ := z
  obtain ⟨t, rfl⟩ := rv
  exact ⟨b, t, rfl, .str b, H', I', ⟨t, rfl⟩, q⟩
/-- {x!r} of nested data -/
def tFmtD (K : PySem.W.Frag) (te : TE) : TE := fun σ H Q => te σ H fun x H1 => ∃ (a : Addr) (d : PyData), x = .ref a ∧ Dx K H1 x d ∧ Fine d ∧ Q (.str d.shown) H1
theorem pe_fmtD {e : Expr} {te : TE} {pos : Pos} (hA : X.A.guards = some []) (hu : X.A.units + 64 < cLine) (sm : HasSm X.K) (he : PE X e te) : PE X (.FormattedValue e 114 none pos) (tFmtD X.K te) := by
  refine ⟨fun pins s σ H Q I h => ?_⟩
  refine wpAny_FormattedValue_repr (thn (he.run pins s σ H _ I h) fun v s1 hv => ?_)
  obtain ⟨x, H1, I1, r1, a, d, rfl, hd, ⟨h1, h2, h3⟩, q⟩ := hv
  obtain ⟨as, hr, hn⟩ := Dx.reads I1 sm d _ v hd r1
  cases r1
  refine pyReprObj_of_reads hr h1 (fun _ => hn) hA (by omega) (fun _ _ e => e) (fun h' u tk hk => ?_) h3
  have I2 : Inv X pins σ H1 { s1 with heap := h', toks := tk } := I1.kept (t' := tk) hk
  exact wpAny_formatField_str ⟨.str d.shown, H1, I2, ⟨_, rfl⟩, q⟩ ⟨.str d.shown, H1, I2.tok _, ⟨_, rfl⟩, q⟩ h3
end
end L2

/-! zip(a tuple, a list). -/
namespace L2
open PySem PySem.Spec PyProof.Rows
def Itzm (K : PySem.W.Frag) (a b : Addr) (xs ys : List V) : It :=
  ⟨fun i H => (SqT K H a xs ∧ SqL K H b ys) ∧ i < min xs.length ys.length, fun i H v H' => ∃ T x y, v = .ref T ∧ H T = none ∧ H' = upd H T (.tup [x, y]) ∧ xs[i]? = some x ∧ ys[i]? = some y,
    fun i H => (SqT K H a xs ∧ SqL K H b ys) ∧ min xs.length ys.length ≤ i⟩
theorem turn_zipM {P : Program} {w : World} {K : PySem.W.Frag} {elts : List Expr} {kk : Nat} {tpos : Pos} {a b z TI TO i1 i2 : Addr} {xs ys : List V} (D : ZipSep2 z TI TO i1 i2 [i1, a] [i2, b]) :
    Turn P w K (.Tuple elts kk tpos) (Itzm K a b xs ys) [z, TI, TO, i1, i2] z (fun i h => IsZip h z TI TO .none ∧ IsTupOf2 h TI (.ref i1) (.ref i2) ∧ (∃ x y, IsTupOf2 h TO x y) ∧ h.IsTupleIter i1 a i ∧ h.IsListIter i2 b i ∧ i ≤ xs.length ∧ i ≤ ys.length) where
  mem := by simp
  obj := fun i h st c hc => by
    obtain ⟨hz, hTI, ⟨x, y, hTO⟩, ⟨o1, e1, _, d1⟩, ⟨o2, e2, _, d2⟩, _⟩ := st
    rcases (by simpa using hc : c = z ∨ c = TI ∨ c = TO ∨ c = i1 ∨ c = i2) with q | q | q | q | q
    · rw [q]; exact ⟨_, hz, fun v q => nomatch q⟩
    · rw [q]; exact ⟨_, hTI, fun v q => nomatch q⟩
    · rw [q]; exact ⟨_, hTO, fun v q => nomatch q⟩
    · rw [q]; exact ⟨o1, e1, fun v q => by rw [d1] at q; cases q⟩
    · rw [q]; exact ⟨o2, e2, fun v q => by rw [d2] at q; cases q⟩
  keep := fun i h h' st k => by
    obtain ⟨hz, hTI, ⟨x, y, hTO⟩, h1, h2, l⟩ := st
    exact ⟨k z (by simp) _ hz, k TI (by simp) _ hTI, ⟨x, y, k TO (by simp) _ hTO⟩, h1.at fun o q => k i1 (by simp) o q, h2.at fun o q => k i2 (by simp) o q, l⟩
  item := by
    intro X hP hw hK hc i pins s σ H E I hf st hg
    subst hP hw hK
    obtain ⟨hz, hTI, ⟨x0, y0, hTO⟩, h1, h2, l1, l2⟩ := st
    obtain ⟨⟨hqx, hqy⟩, hi⟩ := hg
    obtain ⟨its, rv, tp, _⟩ := I.tuple hqx
    obtain ⟨its2, rv2, p2, _⟩ := I.list hqy
    have hx : xs[i]? = some (xs[i]'(by omega)) := List.getElem?_eq_getElem _
    have hy : ys[i]? = some (ys[i]'(by omega)) := List.getElem?_eq_getElem _
    obtain ⟨u, hu, ru⟩ := rv.get hx
    obtain ⟨u2, hu2, ru2⟩ := rv2.get hy
    have hzl : z < s.heap.objs.size := Heap.lt_size hz
    have n1 := rv.length
    have n2 := rv2.length
    have hd1 : X.A.in1.handled = none := I.ok.hd hc
    have nea : a ≠ i1 := fun q => by
      obtain ⟨o, ho, hc1, _⟩ := id tp
      obtain ⟨o', ho', hc2, _⟩ := id h1
      rw [q, ho'] at ho; cases ho; rw [hc2] at hc1; exact absurd (Value.type.inj hc1) (by decide)
    have neb : b ≠ i2 := fun q => by
      obtain ⟨o, ho, hc1, _⟩ := id p2.isList
      obtain ⟨o', ho', hc2, _⟩ := id h2
      rw [q, ho'] at ho; cases ho; rw [hc2] at hc1; exact absurd (Value.type.inj hc1) (by decide)
    refine wpAny_pyNext_zipD2_item D (Draws.tuple hd1 i1 a nea its.toArray) (Draws.list hd1 i2 b neb its2.toArray) hz hTI hTO ⟨h1, tp⟩ ⟨h2, p2.isList⟩ (by simp; omega) (by simp; omega) fun v1 v2 h' tk e1 e2 z' TO' s1 s2 hT hsz hk => ?_
    have w1 : v1 = u := by rw [show its.toArray[i]? = some u by simpa using hu] at e1; exact (Option.some.inj e1).symm
    have w2 : v2 = u2 := by rw [show its2.toArray[i]? = some u2 by simpa using hu2] at e2; exact (Option.some.inj e2).symm
    subst w1 w2
    refine ⟨_, rfl, wpAny_letOwnedTupleGo_zip (s := { s with heap := h', toks := tk }) z' fun h'' z'' sb => ?_⟩
    have hT2 : h''.get? s.heap.objs.size = some { cls := .type "tuple", data := .seq #[v1, v2] } := (sb.2 _ (Nat.ne_of_gt hzl)).trans hT
    have new : ObjOk X.prog X.w (upd H s.heap.objs.size (.tup [xs[i]'(by omega), ys[i]'(by omega)])) h'' s.heap.objs.size (.tup [xs[i]'(by omega), ys[i]'(by omega)]) :=
      ⟨by show 2 ≤ sizeLine; decide, [v1, v2], .cons ru (.cons ru2 .nil), ⟨_, hT2, rfl, _, rfl⟩⟩
    have kk5 : ∀ c o, c ∉ [z, TI, TO, i1, i2] → s.heap.get? c = some o → h''.get? c = some o := fun c o hb q => (sb.2 c (fun q' => hb (by simp [q']))).trans (hk c o (fun q' => hb (by simp [q'])) (fun q' => hb (by simp [q'])) (fun q' => hb (by simp [q'])) (fun q' => hb (by simp [q'])) q)
    have I1 : Inv X pins σ (upd H s.heap.objs.size (.tup [xs[i]'(by omega), ys[i]'(by omega)])) { s with heap := h'', toks := tk } := I.turnedNew (t' := tk) (ch := [z, TI, TO, i1, i2]) kk5 hf (Nat.le_refl _) new
    have fz : ∀ c ∈ [z, TI, TO, i1, i2], upd H s.heap.objs.size (.tup [xs[i]'(by omega), ys[i]'(by omega)]) c = none := fun c hcm => by
      have hlt : c < s.heap.objs.size := by
        rcases (by simpa using hcm : c = z ∨ c = TI ∨ c = TO ∨ c = i1 ∨ c = i2) with q | q | q | q | q
        · rw [q]; exact hzl
        · rw [q]; exact Heap.lt_size hTI
        · rw [q]; exact Heap.lt_size hTO
        · rw [q]; obtain ⟨_, e1, _⟩ := h1; exact Heap.lt_size e1
        · rw [q]; obtain ⟨_, e2, _⟩ := h2; exact Heap.lt_size e2
      rw [upd_ne (Nat.ne_of_lt hlt)]
      exact (hf c hcm).1
    have tI : h''.get? TI = some { cls := .type "tuple", data := .seq #[.ref i1, .ref i2] } := (sb.2 _ D.TIz).trans (hk _ _ D.TIz D.TITO D.TIi1 D.TIi2 hTI)
    have nn : i + 1 ≤ xs.length ∧ i + 1 ≤ ys.length := by omega
    exact ⟨.ref s.heap.objs.size, _, I1, rfl, ⟨_, _, _, rfl, I.hok.fresh (Nat.le_refl _), rfl, hx, hy⟩, ⟨z'', tI, ⟨_, _, (sb.2 _ D.TOz).trans TO'⟩, s1.1.at fun o q => (sb.2 _ D.zi1.symm).trans q, s2.1.at fun o q => (sb.2 _ D.zi2.symm).trans q, nn⟩, fz⟩
  done := by
    intro X hP hw hK hc i pins s σ H E I hf st hg
    subst hP hw hK
    obtain ⟨hz, hTI, ⟨x0, y0, hTO⟩, h1, h2, l1, l2⟩ := st
    obtain ⟨⟨hqx, hqy⟩, hi⟩ := hg
    obtain ⟨its, rv, tp, _⟩ := I.tuple hqx
    obtain ⟨its2, rv2, p2, _⟩ := I.list hqy
    have n1 := rv.length
    have n2 := rv2.length
    have hd1 : X.A.in1.handled = none := I.ok.hd hc
    have nea : a ≠ i1 := fun q => by
      obtain ⟨o, ho, hc1, _⟩ := id tp
      obtain ⟨o', ho', hc2, _⟩ := id h1
      rw [q, ho'] at ho; cases ho; rw [hc2] at hc1; exact absurd (Value.type.inj hc1) (by decide)
    have neb : b ≠ i2 := fun q => by
      obtain ⟨o, ho, hc1, _⟩ := id p2.isList
      obtain ⟨o', ho', hc2, _⟩ := id h2
      rw [q, ho'] at ho; cases ho; rw [hc2] at hc1; exact absurd (Value.type.inj hc1) (by decide)
    exact wpAny_pyNext_zipD2_end D (Draws.tuple hd1 i1 a nea its.toArray) (Draws.list hd1 i2 b neb its2.toArray) hz hTI hTO ⟨h1, tp⟩ ⟨h2, p2.isList⟩ (by simp; omega) (by simp; omega) (by simp; omega) fun h' tk hk => ⟨rfl, I.turnedL (t' := tk) (ch := [z, TI, TO, i1, i2]) (fun c o hb q =>
      hk c o (fun q' => hb (by simp [q'])) (fun q' => hb (by simp [q'])) (fun q' => hb (by simp [q'])) (fun q' => hb (by simp [q'])) q) hf⟩
  self := fun A i s Q E st h => wpAny_pyIter_zip st.1 h
def iZipM (K : PySem.W.Frag) (ta : TA) : TI := fun σ H R => ta σ H fun vs H1 => ∃ a b xs ys, vs = [.ref a, .ref b] ∧ SqT K H1 a xs ∧ SqL K H1 b ys ∧ R (Itzm K a b xs ys) H1
theorem pi_zipM {X : Cx} {e e2 : Expr} {ta : TA} {p pos tpos : Pos} {elts : List Expr} {kk : Nat} (hg : Gl X "zip") (hm : X.mg "zip" = none) (ha : PA X [e, e2] ta)
    (hs : starEach [e, e2] X.env = (false, eval e X.env) :: starEach [e2] X.env := by rfl) (hpl : (backTo pos (starEach [e2] X.env)).any (·.1) = false := by rfl) :
    PI X (.Tuple elts kk tpos) (.Call (.Name "zip" p) [e, e2] [] pos) (iZipM X.K ta) := by
  refine ⟨fun pins s σ H R I h => ?_⟩
  refine Call_ (ld_blt I hg hm PyProof.Rows.boot_zip (PyProof.Rows.callWith_type1 (thn (ha.run pos pins s σ H _ I h) fun us s1 ⟨vs, H1, I1, r1, a, b, xs, ys, ex, hqx, hqy, q⟩ => ?_) hs hpl))
  subst ex
  cases r1 with
  | cons r rr =>
    cases rr with
    | cons r' rr =>
      cases rr
      cases r
      cases r'
      obtain ⟨its, rv, tp, _⟩ := I1.tuple hqx
      obtain ⟨its2, rv2, p2, _⟩ := I1.list hqy
      have la : a < s1.heap.objs.size := tp.lt
      have lb : b < s1.heap.objs.size := p2.lt
      refine zip_begins2 (begins_tuple a its.toArray) (begins_list b its2.toArray) tp p2.isList fun h' hz hTI hTO h1 h2 hsz hk => wpAny_pyIter_zip hz ?_
      have I2 : Inv X pins σ H1 { s1 with heap := h' } := I1.kept (t' := s1.toks) hk
      refine ⟨s1.heap.objs.size + 4, [s1.heap.objs.size + 4, s1.heap.objs.size + 2, s1.heap.objs.size + 3, s1.heap.objs.size, s1.heap.objs.size + 1], _, _, H1, rfl, I2, turn_zipM ?_, ⟨hz, hTI, ⟨_, _, hTO⟩, ⟨_, h1, rfl, rfl⟩, ⟨_, h2, rfl, rfl⟩, Nat.zero_le _, Nat.zero_le _⟩, fun c hcm => ?_, q⟩
      · have A : ∀ k : Nat, s1.heap.objs.size + k ≠ a := fun k => Nat.ne_of_gt (Nat.lt_of_lt_of_le la (Nat.le_add_right _ _))
        have B : ∀ k : Nat, s1.heap.objs.size + k ≠ b := fun k => Nat.ne_of_gt (Nat.lt_of_lt_of_le lb (Nat.le_add_right _ _))
        have C : ∀ j k : Nat, j ≠ k → s1.heap.objs.size + j ≠ s1.heap.objs.size + k := fun j k hjk z => hjk (Nat.add_left_cancel z)
        have N2 : ∀ {x y c : Nat}, c ≠ x → c ≠ y → c ∉ [x, y] := fun h1 h2 hm => by
          rcases List.mem_cons.mp hm with q | q
          · exact h1 q
          · exact h2 (List.mem_singleton.mp q)
        exact ⟨C 2 4 (by decide), C 3 4 (by decide), C 2 3 (by decide), C 2 0 (by decide), List.mem_cons_self, N2 (C 4 0 (by decide)) (A 4), N2 (C 3 0 (by decide)) (A 3), C 2 1 (by decide), List.mem_cons_self, N2 (C 4 1 (by decide)) (B 4), N2 (C 3 1 (by decide)) (B 3), N2 (C 0 1 (by decide)) (B 0), N2 (C 1 0 (by decide)) (A 1)⟩
      · have hle : s1.heap.objs.size ≤ c := by
          rcases (by simpa using hcm : c = s1.heap.objs.size + 4 ∨ c = s1.heap.objs.size + 2 ∨ c = s1.heap.objs.size + 3 ∨ c = s1.heap.objs.size ∨ c = s1.heap.objs.size + 1) with z | z | z | z | z <;> rw [z] <;> first | exact Nat.le_refl _ | exact Nat.le_add_right _ _
        exact I1.fpOk hle (I1.hok.fresh hle)
end L2

/-! walks over a list or a tuple, whichever it is; dict comprehensions over any walk -/
namespace L2
open PySem PySem.Spec PyProof.Rows
/-- what stands at a goes on standing -/
def Kp (K : PySem.W.Frag) (a : Addr) (H H' : Hp) : Prop := (∀ xs, SqL K H a xs → SqL K H' a xs) ∧ ∀ xs, SqT K H a xs → SqT K H' a xs
theorem Kp.at {K : PySem.W.Frag} {a : Addr} {H H' : Hp} (h : ∀ o, H a = some o → H' a = some o) : Kp K a H H' := by
  refine ⟨fun xs q => ?_, fun xs q => ?_⟩
  · rcases q with (q | ⟨o, q⟩) | q
    · exact .inl (.inl (h _ q))
    · exact .inl (.inr ⟨o, h _ q⟩)
    · exact .inr q
  · rcases q with (q | ⟨o, q⟩) | q
    · exact .inl (.inl (h _ q))
    · exact .inl (.inr ⟨o, h _ q⟩)
    · exact .inr q
theorem Kp.trans {K : PySem.W.Frag} {a : Addr} {H H1 H2 : Hp} (x : Kp K a H H1) (y : Kp K a H1 H2) : Kp K a H H2 := ⟨fun xs q => y.1 xs (x.1 xs q), fun xs q => y.2 xs (x.2 xs q)⟩
theorem Kp.sq {K : PySem.W.Frag} {a : Addr} {H H' : Hp} {xs : List V} (k : Kp K a H H') (h : SqL K H a xs ∨ SqT K H a xs) : SqL K H' a xs ∨ SqT K H' a xs := h.imp (k.1 xs) (k.2 xs)
theorem or_walk {K : PySem.W.Frag} {tl : TE} {σ : St} {H : Hp} {R : It → Hp → Prop} {a : Addr} {xs : List V} (ht : ∀ R' : VK, R' (.ref a) H → tl σ H R') (hS : SqL K H a xs ∨ SqT K H a xs)
    (h : ∀ (J : It) (G : Hp → Prop), Walk J xs.length G (YAt xs) → (∀ H', Kp K a H H' → G H') → R J H) : iList K tl σ H R ∨ iTup K tl σ H R := by
  rcases hS with hS | hS
  · exact .inl (ht _ ⟨a, rfl, ⟨xs, hS⟩, h _ _ walk_list fun H' k => k.1 xs hS⟩)
  · exact .inr (ht _ ⟨a, rfl, ⟨xs, hS⟩, h _ _ walk_tup fun H' k => k.2 xs hS⟩)
/-- a dict comprehension over a walk -/
theorem dc_it {J : It} {n : Nat} {G : Hp → Prop} {Y : Nat → Hp → V → Hp → Prop} (w : Walk J n G Y) {g : TG} {tt : TT} {tk tv : TE} {vs : List Nat} {σ : St} {H1 : Hp} {D : Addr} {Qd : Hp → Prop} (Pv : Nat → Hp → Prop) (h0 : Pv 0 (upd H1 D (.dK []))) (hG : ∀ i H, i ≤ n → Pv i H → G H)
    (hs : ∀ i x H H', i < n → Pv i H → Y i H x H' → g x (wipe σ vs) H' fun σ2 H2 => wipe σ2 vs = wipe σ vs ∧ tt σ2 H2 fun b H3 =>
      if b = true then tk σ2 H3 fun y H4 => tv σ2 H4 fun z H5 => ∃ kvs k, y = kV k ∧ H5 D = some (.dK kvs) ∧ kvs.length < sizeLine ∧ Pv (i + 1) (upd H5 D (.dK (putK kvs k z))) else Pv (i + 1) H3) (hd : ∀ H, Pv n H → Qd H) :
    ∃ W : Nat → Nat → Hp → Prop, (∃ m, W 0 m (upd H1 D (.dK []))) ∧ ∀ i m H, W i m H →
      (J.stop i H ∧ Qd H) ∨ (J.go i H ∧ ∃ Nx : Hp → Prop, (∀ H', Nx H' → ∃ m', m' < m ∧ W (i + 1) m' H') ∧ ∀ x H', J.yld i H x H' → g x (wipe σ vs) H' fun σ2 H2 => wipe σ2 vs = wipe σ vs ∧ tt σ2 H2 fun b H3 =>
        if b = true then tk σ2 H3 fun y H4 => tv σ2 H4 fun z H5 => ∃ kvs k, y = kV k ∧ H5 D = some (.dK kvs) ∧ kvs.length < sizeLine ∧ Nx (upd H5 D (.dK (putK kvs k z))) else Nx H3) := by
  refine ⟨fun i m H => m = n - i ∧ i ≤ n ∧ Pv i H, ⟨n, by simp, Nat.zero_le _, h0⟩, ?_⟩
  rintro i m H ⟨em, hi, p⟩
  subst em
  by_cases lt : i < n
  · exact .inr ⟨w.goes i H lt (hG i H hi p), Pv (i + 1), fun H' p' => ⟨n - (i + 1), by omega, rfl, lt, p'⟩, fun x H' y => hs i x H H' lt p (w.yields i H x H' lt (hG i H hi p) y)⟩
  · have e : i = n := by omega
    subst e
    exact .inl ⟨w.stops H (hG i H hi p), hd H p⟩
/-- the numbered keys of a locked dict -/
theorem walk_enumD {d : Addr} {o : Obj} {kvs : List (Key × V)} : Walk (Ited d o kvs) kvs.length (fun H => H d = some (.frz o (.dK kvs))) (YPair (fun i => some (.int (i : Nat))) (fun i => kvs[i]?.map fun kv => kV kv.1)) :=
  ⟨fun _ _ hi q => ⟨q, hi⟩, fun _ q => ⟨q, Nat.le_refl _⟩, fun i _ x _ hi q y => by
    obtain ⟨T, k, v, hk, ex, hT, hH⟩ := y
    exact ⟨T, _, _, ex, hT, hH, rfl, by show Option.map _ kvs[i]? = _; rw [hk]; rfl⟩⟩
end L2

/-! enumerate(a tuple); reversed(a tuple) walked; list.insert, with names. -/
namespace L2
open PySem PySem.Spec PyProof.Rows
/-- the items of a tuple, numbered, each in a new pair -/
def Itet (K : PySem.W.Frag) (a : Addr) (xs : List V) : It :=
  ⟨fun i H => SqT K H a xs ∧ i < xs.length, fun i H v H' => ∃ T x, v = .ref T ∧ H T = none ∧ H' = upd H T (.tup [.int (i : Nat), x]) ∧ xs[i]? = some x, fun i H => SqT K H a xs ∧ xs.length ≤ i⟩
theorem turn_enumT {P : Program} {w : World} {K : PySem.W.Frag} {elts : List Expr} {kk : Nat} {tpos : Pos} {a : Addr} {xs : List V} (e it : Addr) :
    Turn P w K (.Tuple elts kk tpos) (Itet K a xs) [e, it] e (fun i h => (∃ old, IsEnum h e it ((i : Nat) : Int) old) ∧ h.IsTupleIter it a i ∧ e ≠ it ∧ e ≠ a ∧ i ≤ xs.length) where
  mem := by simp
  obj := fun i h sx b hb => by
    obtain ⟨⟨old, he⟩, ⟨o, ho, hc, hd⟩, _⟩ := sx
    rcases (by simpa using hb : b = e ∨ b = it) with z | z
    · rw [z]; exact ⟨_, he, fun v q => nomatch q⟩
    · rw [z]; exact ⟨o, ho, fun v q => by rw [hd] at q; cases q⟩
  keep := fun i h h' sx k => let ⟨⟨old, he⟩, hi, hne⟩ := sx; ⟨⟨old, k e (by simp) _ he⟩, hi.at fun o q => k it (by simp) o q, hne⟩
  item := by
    intro X hP hw hK hc i pins s σ H E I hf sx hg
    subst hP hw hK
    obtain ⟨⟨old, he⟩, hit, hne, hea, hle⟩ := sx
    obtain ⟨hq, hi⟩ := hg
    obtain ⟨its, rv, p2, _⟩ := I.tuple hq
    have hx : xs[i]? = some xs[i] := List.getElem?_eq_getElem hi
    obtain ⟨u, hu, ru⟩ := rv.get hx
    have n1 := rv.length
    have hel : e < s.heap.objs.size := Heap.lt_size he
    have hil : it < s.heap.objs.size := by obtain ⟨_, q, _⟩ := hit; exact Heap.lt_size q
    have hd1 : X.A.in1.handled = none := I.ok.hd hc
    have nea : a ≠ it := fun q => by
      obtain ⟨o, ho, hc1, _⟩ := id p2
      obtain ⟨o', ho', hc2, _⟩ := id hit
      rw [q, ho'] at ho; cases ho; rw [hc2] at hc1; exact absurd (Value.type.inj hc1) (by decide)
    refine wpAny_pyNext_enum_itemD (Draws.tuple hd1 it a nea its.toArray) he ⟨hit, p2⟩ (by simp; omega) hne (by simp; exact ⟨hne, hea⟩) fun x h' tk hen ho hit' hT hz hk => ?_
    have w1 : x = u := by rw [show its.toArray[i]? = some u by simpa using hu] at hen; exact (Option.some.inj hen).symm
    subst w1
    refine ⟨_, rfl, wpAny_letOwnedTupleGo_enum (s := { s with heap := h', toks := tk + 1 }) ho fun h'' he' sb => ?_⟩
    have hT2 : h''.get? s.heap.objs.size = some { cls := .type "tuple", data := .seq #[.int i tk, x] } := (sb.2 _ (Nat.ne_of_gt hel)).trans hT
    have new : ObjOk X.prog X.w (upd H s.heap.objs.size (.tup [.int (i : Nat), xs[i]])) h'' s.heap.objs.size (.tup [.int (i : Nat), xs[i]]) :=
      ⟨by show 2 ≤ sizeLine; decide, [.int i tk, x], .cons ⟨_, rfl⟩ (.cons ru .nil), ⟨_, hT2, rfl, _, rfl⟩⟩
    have I1 : Inv X pins σ (upd H s.heap.objs.size (.tup [.int (i : Nat), xs[i]])) { s with heap := h'', toks := tk + 1 } :=
      I.turnedNew (ch := [e, it]) (fun b ob hb q => (sb.2 b (fun z => hb (by simp [z]))).trans (hk b ob (fun z => hb (by simp [z])) (fun z => hb (by simp [z])) q)) hf (Nat.le_refl _) new
    have he3 : IsEnum h'' e it (((i + 1 : Nat) : Int)) x := by
      have e1 : ((i + 1 : Nat) : Int) = (i : Int) + 1 := by omega
      rw [e1]; exact he'
    have fz : ∀ b ∈ [e, it], upd H s.heap.objs.size (.tup [.int (i : Nat), xs[i]]) b = none := fun b hb => by
      have hb' : b < s.heap.objs.size := by
        rcases (by simpa using hb : b = e ∨ b = it) with z | z
        · rw [z]; exact hel
        · rw [z]; exact hil
      rw [upd_ne (Nat.ne_of_lt hb')]
      exact (hf b hb).1
    exact ⟨.ref s.heap.objs.size, _, I1, rfl, ⟨_, xs[i], rfl, I.hok.fresh (Nat.le_refl _), rfl, hx⟩, ⟨⟨x, he3⟩, hit'.1.at fun o q => (sb.2 it (Ne.symm hne)).trans q, hne, hea, hi⟩, fz⟩
  done := by
    intro X hP hw hK hc i pins s σ H E I hf sx hg
    subst hP hw hK
    obtain ⟨⟨old, he⟩, hit, hne, hea, hle⟩ := sx
    obtain ⟨hq, hi⟩ := hg
    obtain ⟨its, rv, p2, _⟩ := I.tuple hq
    have n1 := rv.length
    obtain ⟨f0, f1, f2, f3, f4, f5⟩ := hf it (by simp)
    have hd1 : X.A.in1.handled = none := I.ok.hd hc
    have nea : a ≠ it := fun q => by
      obtain ⟨o, ho, hc1, _⟩ := id p2
      obtain ⟨o', ho', hc2, _⟩ := id hit
      rw [q, ho'] at ho; cases ho; rw [hc2] at hc1; exact absurd (Value.type.inj hc1) (by decide)
    have ei : i = its.toArray.size := by simp; omega
    subst ei
    exact wpAny_pyNext_enum_endD (Draws.tuple hd1 it a nea its.toArray) he ⟨hit, p2⟩ fun h' eb => ⟨rfl, I.turned (t' := s.toks) (fun b o hb q => eb b o hb q) f0 f1 f3 f4 f5⟩
  self := fun A i s Q E sx h => let ⟨⟨_, he⟩, _⟩ := sx; wpAny_pyIter_enum he h
def iEnumT (K : PySem.W.Frag) (td : TA) : TI := fun σ H R => td σ H fun vs H1 => ∃ a xs, vs = [.ref a] ∧ SqT K H1 a xs ∧ R (Itet K a xs) H1
theorem pi_enumT {X : Cx} {e : Expr} {ta : TA} {p pos tpos : Pos} {elts : List Expr} {kk : Nat} (hg : Gl X "enumerate") (hm : X.mg "enumerate" = none) (ha : PA X [e] ta) (hs : starEach [e] X.env = [(false, eval e X.env)] := by rfl) :
    PI X (.Tuple elts kk tpos) (.Call (.Name "enumerate" p) [e] [] pos) (iEnumT X.K ta) := by
  refine ⟨fun pins s σ H R I h => ?_⟩
  refine Call_ (ld_blt I hg hm boot_enumerate (PyProof.Rows.callWith_type1 (thn (ha.run pos pins s σ H _ I h) fun us s1 ⟨vs, H1, I1, r1, a, xs, ex, hq, q⟩ => ?_) hs rfl))
  subst ex
  cases r1 with
  | cons r rr =>
    cases rr
    cases r
    obtain ⟨its, rv, p2, _⟩ := I1.tuple hq
    have la : a < s1.heap.objs.size := p2.lt
    refine enum1_begins (begins_tuple a its.toArray) p2 fun h' he hit hk => wpAny_pyIter_enum he ?_
    have I2 : Inv X pins σ H1 { s1 with heap := h' } := I1.kept (t' := s1.toks) hk
    refine ⟨s1.heap.objs.size + 1, [s1.heap.objs.size + 1, s1.heap.objs.size], _, _, H1, rfl, I2, turn_enumT (s1.heap.objs.size + 1) s1.heap.objs.size, ⟨⟨.none, he⟩, ⟨_, hit, rfl, rfl⟩, Nat.succ_ne_self _, Nat.ne_of_gt (Nat.lt_succ_of_lt la), Nat.zero_le _⟩, fun b hb => ?_, q⟩
    have le : s1.heap.objs.size ≤ b := by
      rcases (by simpa using hb : b = s1.heap.objs.size + 1 ∨ b = s1.heap.objs.size) with z | z
      · rw [z]; exact Nat.le_add_right _ _
      · rw [z]; exact Nat.le_refl _
    exact I1.fpOk le (I1.hok.fresh le)
def rInsL : V → List V → Hp → VK → Prop := fun x vs H Q => ∃ (l : Addr) (xs : List V) (i : Int) (y : V), x = .ref l ∧ vs = [.int i, y] ∧ H l = some (.lst xs) ∧ xs.length < sizeLine ∧ 0 ≤ i ∧ i < 2 ^ 63 ∧ Q .non (upd H l (.lst (xs.take i.toNat ++ [y] ++ xs.drop i.toNat)))
theorem walk_enumT {K : PySem.W.Frag} {a : Addr} {xs : List V} : Walk (Itet K a xs) xs.length (fun H => SqT K H a xs) (YPair (fun i => some (.int (i : Nat))) (fun i => xs[i]?)) :=
  ⟨fun i H hi q => ⟨q, hi⟩, fun _ q => ⟨q, Nat.le_refl _⟩, fun i H x H' hi q ⟨T, y, h1, h2, h3, h4⟩ => ⟨T, _, y, h1, h2, h3, rfl, h4⟩⟩
end L2

/-! o.m(..), m a method that lets own errors out: they go on to the caller's end, at its slots. -/
namespace L2
open PySem PySem.Spec PyProof.Rows
def tMethX (C : Addr) (m : Str) (sp : Sp) (E : St → XK) (ta : TE) (t : TA) : TE := fun σ H Q => ta σ H fun x H1 => ∃ a dx fs, x = .ref a ∧ H1 a = some (.ins C dx fs) ∧ fs.lookup m = none ∧ t σ H1 fun vs H2 => sp (x :: vs) H2 Q (E σ)
section
variable {X : Cx} {CX : CXT} {k : Nat} {f C : Addr} {fd : FuncData} {ps : List Str} {sp : Sp} {E : St → XK} {m : Str} {pos apos : Pos} {e o : Expr} {es : List Expr} {ta : TE} {t : TA}
theorem pe_methX {pl : Sem Bool} (ho : PE X o ta) (cl : Cls X.K C) (hm : Meth X.K C m f) (F : FnOk X.prog X.w X.K X.mg X.base CX k f fd ps sp) (hr : Room k X.A) (hb : Binds X.K fd ps []) (hx : ∀ σ, PassesAt CX X σ (E σ)) (ha : PA X (e :: es) t)
    (s1 : starEach (e :: es) X.env = (false, eval e X.env) :: starEach es X.env := by rfl) (s2 : (backTo pos (starEach es X.env)).any (·.1) = false := by rfl)
    (line : eval (.Call (.Attribute o m apos) (e :: es) [] pos) X.env = (eval o X.env >>= fun ov => standAt apos.atName >>= fun _ => holding [ov] (getMethod ov m pl) >>= fun fm =>
      callWith pos fm.1 fm.2 (backTo pos (starEach (e :: es) X.env)) (backToKw pos (keywordEach [] X.env))) := by rfl) :
    PE X (.Call (.Attribute o m apos) (e :: es) [] pos) (tMethX C m sp E ta t) := by
  constructor
  intro pins s σ H Q I h
  refine PySem.W.methodCall_KW (pl := pl) (thn (ho.run pins s σ H _ I h) fun u st hh => ?_) line
  obtain ⟨x, H1, I1, rx, a, dx, fs, rfl, ha1, nl, q⟩ := hh
  obtain rfl : u = Value.ref a := rx
  refine getmeth_ok I1 ha1 cl hm nl (PySem.W.callWith_K (first := [.ref a]) (h₀ := X.base) I.ok.mod.kin hm.kp (thn (ha.run pos pins st σ H1 _ I1 q) fun us st2 h2 => ?_) s1 s2)
  obtain ⟨vs, H2, I2, r, q2⟩ := h2
  exact ⟨I2.kIn, run_fnS (us := .ref a :: us) (vs := .ref a :: vs) F hr hb (hx σ) I2 (.cons rfl r) q2⟩
theorem pe_methX0 {pl : Sem Bool} (ho : PE X o ta) (cl : Cls X.K C) (hm : Meth X.K C m f) (F : FnOk X.prog X.w X.K X.mg X.base CX k f fd ps sp) (hr : Room k X.A) (hb : Binds X.K fd ps []) (hx : ∀ σ, PassesAt CX X σ (E σ))
    (line : eval (.Call (.Attribute o m apos) [] [] pos) X.env = (eval o X.env >>= fun ov => standAt apos.atName >>= fun _ => holding [ov] (getMethod ov m pl) >>= fun fm =>
      callWith pos fm.1 fm.2 (backTo pos (starEach [] X.env)) (backToKw pos (keywordEach [] X.env))) := by rfl) :
    PE X (.Call (.Attribute o m apos) [] [] pos) (tMethX C m sp E ta tNil) := by
  constructor
  intro pins s σ H Q I h
  refine PySem.W.methodCall_KW (pl := pl) (thn (ho.run pins s σ H _ I h) fun u st hh => ?_) line
  obtain ⟨x, H1, I1, rx, a, dx, fs, rfl, ha1, nl, q⟩ := hh
  obtain rfl : u = Value.ref a := rx
  refine getmeth_ok I1 ha1 cl hm nl ?_
  exact PySem.W.callWith_K0 (first := [.ref a]) I1.kIn hm.kp (run_fnS (us := [.ref a]) (vs := [.ref a]) F hr hb (hx σ) I1 (.cons rfl .nil) q)
end
end L2

/-! x in a list of texts, x of any kind. -/
namespace PySem.SeqAt
open AutoSeq1 (wpAny_loadPart')
open MeetsSeq
theorem sub_dict_str : isSubtype (.type "dict") (.type "str") = pure false := by
  rw [isSubtype_type]
  kernel_rfl
abbrev dO (es : Array DictEntry) (ep : Nat) (dd : Option Addr) (sl : Array (Option Value)) : Obj := { cls := .type "dict", dict := dd, data := .dict es ep, slots := sl }
theorem sub_str_dict : isSubtype (.type "str") (.type "dict") = pure false := by
  rw [isSubtype_type]
  kernel_rfl
theorem str_no_dict (b : Str) (u : Tok) (l : Addr) (es : Array DictEntry) (ep : Nat) (dd : Option Addr) (sl : Array (Option Value)) :
    Meets (Builtin.«str.__eq__» ⟨[.str b u, .ref l], []⟩) (fun _ R s => s.heap.get? l = some (dO es ep dd sl) ∧ R (.ok (.ret .notImplemented)) s) :=
  .of_wp fun prog w A R s h => by
    obtain ⟨hp, g, d, tk, os⟩ := s
    obtain ⟨ho, h⟩ := h
    have f2 := sub_dict_str
    wp_walk using wpAny_loadPart' ho, wpAny_load ho
    exact ⟨_, rfl, h⟩
theorem dict_no_str (b : Str) (u : Tok) (l : Addr) (es : Array DictEntry) (ep : Nat) (dd : Option Addr) (sl : Array (Option Value)) :
    Meets (Builtin.«dict.__eq__» ⟨[.ref l, .str b u], []⟩) (fun _ R s => s.heap.get? l = some (dO es ep dd sl) ∧ R (.ok (.ret .notImplemented)) s) :=
  .of_wp fun prog w A R s h => by
    obtain ⟨hp, g, d, tk, os⟩ := s
    obtain ⟨ho, h⟩ := h
    have f1 := sub_str_dict
    wp_walk using wpAny_loadPart' ho
    exact ⟨_, rfl, h⟩
section
variable {A : Around} {s : Shared}
theorem eq_str_dict {l : Addr} {es : Array DictEntry} {ep : Nat} {dd : Option Addr} {sl : Array (Option Value)} (b : Str) (u : Tok) (ho : s.heap.get? l = some (dO es ep dd sl)) (hu : A.units < cLine) : EqAt A s (.str b u) (.ref l) false := fun prog w E Q h => by
  unfold eqBool
  refine wpAny_holding (wpAny_ite_split (fun hab => absurd (eq_of_beq hab) nofun) (fun _ => wpAny_bind ?_))
  refine rc_eq_decline_or (k := false) (typeIs_str s b u) ⟨_, ho, rfl⟩ (by decide) sub_dict_str F.slot_str_eq F.slot_dict_eq_refl (fun _ hq => ?_) (fun _ hq => ?_) (fun _ hq => wpAny_of_eq (rfl : isSame (.str b u) (.ref l) = pure false) hq) (.inr hu) (wpAny_truthy_bool h)
  · exact call_meets F.slot_str_eq (typeIs_str s b u) F.entry_str_eq (F.args_str_eq_2 _ _) (str_no_dict b u l es ep dd sl) ⟨ho, hq⟩
  · exact call_meets F.slot_dict_eq_refl ⟨_, ho, rfl⟩ F.entry_dict_eq (F.args_dict_eq_2 _ _) (dict_no_str b u l es ep dd sl) ⟨ho, hq⟩
end
end PySem.SeqAt
namespace L2
open PySem PySem.Spec PyProof.Rows
/-- a text, a flat value, a list, a tuple, a dict -/
def AnyK (K : PySem.W.Frag) (H : Hp) : V → Prop
  | .ref a => (∃ xs, SqL K H a xs) ∨ (∃ xs, SqT K H a xs) ∨ ∃ kvs, H a = some (.dK kvs)
  | v => flatV v = true
theorem inV_ref (a : Addr) (l : List Str) : inV (.ref a) (l.map V.str) = false := by
  unfold inV
  rw [List.any_map, List.any_eq_false]
  intro x _
  show ¬ (false = true)
  exact Bool.false_ne_true
section
variable {X : Cx} {pins : List (Addr × Obj)} {σ : St} {H : Hp} {s : Shared}
theorem ref_eqAt {A : Around} (hu : A.units < cLine) {a : Addr} (I : Inv X pins σ H s) (k : AnyK X.K H (.ref a)) : ∀ {l : List Str} {us : List Value}, Vals (l.map V.str) us → ∀ u ∈ us, SeqAt.EqAt A s u (.ref a) (eqU (.ref a) u) := by
  intro l us r u hm
  obtain ⟨x, t, rfl⟩ : ∃ x t, u = Value.str x t := by
    clear k
    induction l generalizing us with
    | nil => cases r; cases hm
    | cons y l ih =>
      cases r with
      | cons r1 r2 =>
        rcases List.mem_cons.mp hm with rfl | hm
        · obtain ⟨t, rfl⟩ := r1; exact ⟨y, t, rfl⟩
        · exact ih r2 hm
  rcases k with ⟨xs, h⟩ | ⟨xs, h⟩ | ⟨kvs, h⟩
  · obtain ⟨its, _, pl, _⟩ := I.list h
    exact SeqAt.EqAt.str_list x t pl.isList hu
  · obtain ⟨its, _, pl, _⟩ := I.tuple h
    exact SeqAt.EqAt.str_tuple x t pl hu
  · obtain ⟨_, _, vs, _, o, es, ep, h1, h2, h3⟩ := (show ObjOk X.prog X.w H s.heap a (.dK kvs) from I.hok a _ h)
    obtain ⟨oc, od, dt, osl⟩ := o
    obtain ⟨c1, c2, c3⟩ := h2
    simp only at c1 c2 c3
    subst c1 c2 c3
    exact SeqAt.eq_str_dict (es := es) (ep := ep) (dd := none) (sl := #[]) x t (by rw [h1, show dt = Data.dict es ep from h3.1]) hu
end
/-- x in xs, xs a list or a tuple of texts -/
def rInA (K : PySem.W.Frag) (neg : Bool) : R2 := fun x y H Q => ∃ (p : Addr) (l : List Str), y = .ref p ∧ (SqL K H p (l.map V.str) ∨ SqT K H p (l.map V.str)) ∧ AnyK K H x ∧ Q (.bl (if neg then !inV x (l.map V.str) else inV x (l.map V.str))) H
theorem flat_strs (l : List Str) : (l.map V.str).all flatV = true := by
  rw [List.all_map, List.all_eq_true]
  intro x _; rfl
section
variable {X : Cx}
theorem any_ref {a : Addr} : ∀ {l : List Str} {us : List Value}, Vals (l.map V.str) us → us.any (eqU (.ref a)) = inV (.ref a) (l.map V.str) := fun {l us} r => any_eqU r (flat_strs l)
theorem op_inA (hu : X.A.units + 1 < cLine) : OpR X (compareOp .In) (rInA X.K false) := by
  intro pins s σ H x y v u Q I rx ry h
  obtain ⟨p, l, rfl, hq, k, q⟩ := h
  by_cases f : flatV x = true
  · exact op_in_seq pins s σ H x _ v u Q I rx ry ⟨p, _, rfl, hq, f, flat_strs l, q⟩
  · obtain ⟨a, rfl⟩ : ∃ a, x = .ref a := by
      cases x with
      | ref a => exact ⟨a, rfl⟩
      | _ => exact absurd k f
    cases rx
    cases ry
    rcases hq with hq | hq
    · obtain ⟨its, r, pl, hz⟩ := I.list hq
      refine SeqAt.in_listAt (eqU (.ref a)) pl.isList (fun w hw => ref_eqAt (A := X.A.in1) hu I k r w (by simpa using hw)) ⟨.bl _, H, I, rfl, ?_⟩
      rw [show its.toArray.any (eqU (.ref a)) = its.any (eqU (.ref a)) by simp, any_ref r]
      exact q
    · obtain ⟨its, r, pl, hz⟩ := I.tuple hq
      refine SeqAt.in_tupleAt (eqU (.ref a)) pl (fun w hw => ref_eqAt (A := X.A.in1) hu I k r w (by simpa using hw)) ⟨.bl _, H, I, rfl, ?_⟩
      rw [show its.toArray.any (eqU (.ref a)) = its.any (eqU (.ref a)) by simp, any_ref r]
      exact q
theorem op_notInA (hu : X.A.units + 1 < cLine) : OpR X (compareOp .NotIn) (rInA X.K true) := by
  intro pins s σ H x y v u Q I rx ry h
  obtain ⟨p, l, rfl, hq, k, q⟩ := h
  by_cases f : flatV x = true
  · exact op_notIn_seq pins s σ H x _ v u Q I rx ry ⟨p, _, rfl, hq, f, flat_strs l, q⟩
  · obtain ⟨a, rfl⟩ : ∃ a, x = .ref a := by
      cases x with
      | ref a => exact ⟨a, rfl⟩
      | _ => exact absurd k f
    cases rx
    cases ry
    rcases hq with hq | hq
    · obtain ⟨its, r, pl, hz⟩ := I.list hq
      refine SeqAt.notIn_listAt (eqU (.ref a)) pl.isList (fun w hw => ref_eqAt (A := X.A.in1) hu I k r w (by simpa using hw)) ⟨.bl _, H, I, rfl, ?_⟩
      rw [show its.toArray.any (eqU (.ref a)) = its.any (eqU (.ref a)) by simp, any_ref r]
      exact q
    · obtain ⟨its, r, pl, hz⟩ := I.tuple hq
      refine SeqAt.notIn_tupleAt (eqU (.ref a)) pl (fun w hw => ref_eqAt (A := X.A.in1) hu I k r w (by simpa using hw)) ⟨.bl _, H, I, rfl, ?_⟩
      rw [show its.toArray.any (eqU (.ref a)) = its.any (eqU (.ref a)) by simp, any_ref r]
      exact q
end
end L2

/-! list(d.values()) -/
namespace L2
open PySem PySem.Spec PyProof.Rows
def tListVals (te : TE) : TE := fun σ H Q => te σ H fun x H1 => ∃ d kvs, x = .ref d ∧ H1 d = some (.dK kvs) ∧ ∀ q, H1 q = none → Q (.ref q) (upd H1 q (.lst (kvs.map (·.2))))
theorem pe_listVals {X : Cx} {e : Expr} {te : TE} {p apos cpos pos : Pos} (hc : X.calm = true) (he : PE X e te) (hg : Gl X "list") (hm : X.mg "list" = none) (hv : bootBuiltins "list" = some (.type "list"))
    (base : attributeBase e "values" X.env (eval e X.env) = eval e X.env := by rfl) (line : (apos.endLine == cpos.line) = true := by rfl)
    (st : starEach [.Call (.Attribute e "values" apos) [] [] cpos] X.env = (false, eval (.Call (.Attribute e "values" apos) [] [] cpos) X.env) :: starEach [] X.env := by rfl) :
    PE X (.Call (.Name "list" p) [.Call (.Attribute e "values" apos) [] [] cpos] [] pos) (tListVals te) := by
  constructor
  intro pins s σ H Q I h
  refine wpAny_Call_Name_kw (ld_blt I hg hm hv (PyProof.Rows.callWith_type1 ?_ st rfl))
  rw [st]
  show wpAny _ _ (spliced ((false, eval (.Call (.Attribute e "values" apos) [] [] cpos) X.env) :: backTo pos (starEach [] X.env))) _ _ s
  refine Calls.spliced_cons (wpAny_Call_method (T := "dict") (id := "dict.values") base rfl line F.plainAttrs_dict F.slot_dict_values F.type_dict_values (thn (he.run pins s σ H _ I h) fun u s1 hh => ?_))
  obtain ⟨x, H1, I1, rx, d, kvs, rfl, hd, q⟩ := hh
  obtain rfl : u = Value.ref d := rx
  obtain ⟨hz, sys, vs, kv, hdo⟩ := I1.hok d _ hd
  obtain ⟨ep, hat⟩ := hdo.dictAt
  have lk : kvs.length = vs.length := Paired.length kv
  have I2 : Inv X pins σ H1 { s1 with heap := s1.heap.push { cls := .type "dict_values", data := .fields #[.ref d] } } := I1.kept (t' := s1.toks) fun b ob z => Heap.get?_push_of_some _ z
  refine ⟨hdo.typeIs, hdo.mapOf.noDict, ?_⟩
  show wpAny _ _ (callWith cpos (.builtin "dict.values") [.ref d] [] []) _ X.xe s1
  refine method_meetsIn F.slot_dict_values F.entry_dict_values rfl (PySem.evalArgs_none ⟨rfl, hdo.typeIs, F.args_dict_values_1 _, _, meets_dict_values (mixKind X.prog X.w) d sys, ⟨vs, hdo⟩, Calls.spliced_nil ?_⟩)
  refine PySem.W.kdl_call (PySem.W.kdl_values (knd := mixKind X.prog X.w) (kvs := vs) (ep := ep)) (I1.ok.hd hc) ⟨⟨_, Heap.get?_push_size _ rfl, rfl, rfl⟩, hat.push _⟩ (by rw [← lk]; exact hz) fun h' tk acc c keep hS hacc => ?_
  refine ⟨.ref _, _, I2.laid (t' := tk) (o := .lst (kvs.map (·.2))) keep (Nat.le_refl _) ⟨by rw [List.length_map]; exact hz, acc.toList, c, ?_, by rw [Array.toArray_toList]; exact hS⟩, rfl, q _ (I2.hok.fresh (Nat.le_refl _))⟩
  refine vals_of_at (by rw [List.length_map, lk]; have := hacc.1; simp [this]) fun j v w h1 h2 => ?_
  obtain ⟨k, hk⟩ := hacc.2 j w (by rw [← Array.getElem?_toList]; exact h2)
  rw [List.getElem?_map] at h1
  cases e2 : kvs[j]? with
  | none => rw [e2] at h1; cases h1
  | some pr =>
    rw [e2] at h1
    obtain ⟨y, g1, g2, g3⟩ := LiI.paired_get kv e2
    rw [hk] at g1
    cases g1
    cases (Option.some.inj h1)
    exact g3
end L2

/-! d.update(e) of two dicts -/
namespace L2
open PySem PySem.Spec PyProof.Rows
section
variable {X : Cx}
def rUpdK : V → List V → Hp → VK → Prop := fun x xs H Q => ∃ (a b : Addr) (kvs more : List (Key × V)), x = .ref a ∧ xs = [.ref b] ∧ H a = some (.dK kvs) ∧ H b = some (.dK more) ∧ a ≠ b ∧ kvs.length + more.length ≤ sizeLine ∧ Q .non (upd H a (.dK (mergeK kvs more)))
theorem mt_update : MtR X "dict.update" rUpdK := by
  intro pins s σ H x xs v us Q I rx rv h
  obtain ⟨a, b, kvs, more, rfl, rfl, ha, hb, ne, ln, q⟩ := h
  cases rx
  obtain ⟨u, rfl, ru⟩ := rv.one
  cases ru
  obtain ⟨z, hd, vs, rel, dd⟩ := dk_of I.hok ha
  obtain ⟨z2, hd2, vs2, rel2, dd2⟩ := dk_of I.hok hb
  refine call_meetsIn PySem.F.slot_dict_update dd.typeIs PySem.F.entry_dict_update (PySem.F.args_dict_update_2 _ _) (meets_dict_update (mixKind X.prog X.w) a b ne hd2)
    ⟨vs, vs2, dd, dd2, by rw [← rel.length, ← rel2.length]; exact ln, fun h' dd' _ hs => ?_⟩
  have he : ∃ q, h'.get? a = some q := let ⟨q, _, _, hq, _⟩ := dd'; ⟨q, hq⟩
  exact ⟨.non, _, d_write I (by rw [ha]; exact True.intro) hs he (dk_new (Nat.le_trans (length_mergeK more kvs) ln) hd (rel2.merge rel) dd'), rfl, q⟩
end
end L2

/-! dict(zip(a list of keys, a tuple)) -/
namespace L2
open PySem PySem.Spec PyProof.Rows
section
variable {prog : Program} {w : World} {A : Around} {E : Value → Shared → Prop} {s : Shared} {z TI TO T i1 i2 : Addr} {fp1 fp2 : List Addr} {n1 n2 i : Nat} {P1 P2 : Nat → Value → Prop} {St1 St2 : Nat → Heap → Prop} {f : Bool} {oT : Obj}
/-- the next pair, while the tuple of the one before is still out -/
theorem dz_item {Q : Value → Shared → Prop} (S : ZipSep2 z TI TO i1 i2 fp1 fp2) (D1 : Draws prog w A i1 fp1 n1 P1 St1) (D2 : Draws prog w A i2 fp2 n2 P2 St2) (hz : IsZipHeld s.heap z TI TO T f) (hT : s.heap.get? T = some oT)
    (hTI : IsTupOf2 s.heap TI (.ref i1) (.ref i2)) (st1 : St1 i s.heap) (st2 : St2 i s.heap) (l1 : i < n1) (l2 : i < n2)
    (hQ : ∀ x y h' tk, P1 i x → P2 i y → IsZipHeld h' z TI TO T true → St1 (i + 1) h' → St2 (i + 1) h' → IsTupOf2 h' s.heap.objs.size x y → (∀ c o, c ≠ z → c ≠ i1 → c ≠ i2 → s.heap.get? c = some o → h'.get? c = some o) → Q (.ref s.heap.objs.size) { s with heap := h', toks := tk }) :
    wpAny (model prog w) A (Builtin.«zip.__next__» ⟨[.ref z], []⟩) (fun fin s' => ∃ v, fin = .done (.ret v) ∧ Q v s') E s := by
  obtain ⟨hp, g, d, tk0, os⟩ := s
  show wpAny _ _ (field (.ref z) 2 >>= _) _ _ _
  refine wpAny_bind (wpAny_field hz rfl (x := .bool false) rfl ?_)
  show wpAny _ _ (field (.ref z) 3 >>= _) _ _ _
  refine wpAny_bind (wpAny_field hz rfl (x := .ref TI) rfl ?_)
  refine wpAny_bind (wpAny_seqItems hTI rfl ?_)
  show wpAny _ _ (Builtin.SmallTypes.ownedTupleIsFree (.ref z) >>= _) _ _ _
  refine wpAny_bind (wpAny_tupleHeld_zip hz hT fun g0 hz0 hs0 => ?_)
  replace hs0 : Heap.SameBut z hp g0 := hs0
  simp only [Bool.false_eq_true, if_false]
  refine wpAny_bind ?_
  rw [← Array.forIn_toList]
  simp only [List.forIn_cons, List.forIn_nil]
  refine wpAny_bind (wpAny_bind (wpAny_holding ?_))
  show wpAny _ _ (Builtin.SmallTypes.nextOf (.ref i1) >>= _) _ _ ⟨g0, g, d, tk0, os⟩
  refine wpAny_bind (D1.item i _ _ _ l1 (D1.over st1 hs0 S.zf1) fun x p1 tk1 hx1 sn1 hp1 => wpAny_pure ?_)
  replace hp1 : Heap.SameBut i1 g0 p1 := hp1
  refine wpAny_pure ?_
  refine wpAny_bind (wpAny_bind (wpAny_holding ?_))
  show wpAny _ _ (Builtin.SmallTypes.nextOf (.ref i2) >>= _) _ _ ⟨p1, g, d, tk1, os⟩
  refine wpAny_bind (D2.item i _ _ _ l2 (D2.over (D2.over st2 hs0 S.zf2) hp1 S.sep1_2) fun y p2 tk2 hx2 sn2 hp2 => wpAny_pure ?_)
  replace hp2 : Heap.SameBut i2 p1 p2 := hp2
  refine wpAny_pure (wpAny_pure ?_)
  show wpAny _ _ (newTuple [x, y] >>= _) _ _ ⟨p2, g, d, tk2, os⟩
  refine wpAny_bind (wpAny_newTuple ?_)
  have hsz : p2.objs.size = hp.objs.size := by rw [hp2.1, hp1.1, hs0.1]
  have zz : IsZipHeld p2 z TI TO T true := hp2.extBut _ _ S.zi2 (hp1.extBut _ _ S.zi1 hz0)
  have kk : ∀ c o, c ≠ z → c ≠ i1 → c ≠ i2 → hp.get? c = some o → p2.get? c = some o := fun c o c1 c2 c3 e => hp2.extBut _ _ c3 (hp1.extBut _ _ c2 (hs0.extBut _ _ c1 e))
  have up : ∀ c o, p2.get? c = some o → (p2.push { cls := .type "tuple", data := .seq #[x, y] }).get? c = some o := fun c o e => Heap.get?_push_of_some _ e
  have hj1 : St1 (i + 1) (p2.push { cls := .type "tuple", data := .seq #[x, y] }) := D1.frame _ _ _ (D1.over sn1 hp2 S.sep2_1) fun b _ o e => up b o e
  have hj2 : St2 (i + 1) (p2.push { cls := .type "tuple", data := .seq #[x, y] }) := D2.frame _ _ _ sn2 fun b _ o e => up b o e
  have tt : IsTupOf2 (p2.push { cls := .type "tuple", data := .seq #[x, y] }) p2.objs.size x y := Heap.get?_push_size _ rfl
  refine wpAny_pure ⟨_, rfl, ?_⟩
  show Q (.ref p2.objs.size) _
  rw [hsz] at tt ⊢
  exact hQ x y _ tk2 hx1 hx2 (up _ _ zz) hj1 hj2 tt fun c o c1 c2 c3 e => up c o (kk c o c1 c2 c3 e)
theorem dz_end {Q : Fin → Shared → Prop} (S : ZipSep2 z TI TO i1 i2 fp1 fp2) (D1 : Draws prog w A i1 fp1 n1 P1 St1) (D2 : Draws prog w A i2 fp2 n2 P2 St2) (hz : IsZipHeld s.heap z TI TO T f) (hT : s.heap.get? T = some oT)
    (hTI : IsTupOf2 s.heap TI (.ref i1) (.ref i2)) (st1 : St1 i s.heap) (st2 : St2 i s.heap) (l1 : i ≤ n1) (l2 : i ≤ n2) (le : i = n1 ∨ i = n2)
    (hE : ∀ h' tk e, (∀ c o, c ≠ z → c ≠ i1 → c ≠ i2 → s.heap.get? c = some o → h'.get? c = some o) → (∃ o, h'.get? e = some o ∧ o.cls = .type "StopIteration") → E (.ref e) { s with heap := h', toks := tk }) :
    wpAny (model prog w) A (Builtin.«zip.__next__» ⟨[.ref z], []⟩) Q E s := by
  obtain ⟨hp, g, d, tk0, os⟩ := s
  show wpAny _ _ (field (.ref z) 2 >>= _) _ _ _
  refine wpAny_bind (wpAny_field hz rfl (x := .bool false) rfl ?_)
  show wpAny _ _ (field (.ref z) 3 >>= _) _ _ _
  refine wpAny_bind (wpAny_field hz rfl (x := .ref TI) rfl ?_)
  refine wpAny_bind (wpAny_seqItems hTI rfl ?_)
  show wpAny _ _ (Builtin.SmallTypes.ownedTupleIsFree (.ref z) >>= _) _ _ _
  refine wpAny_bind (wpAny_tupleHeld_zip hz hT fun g0 hz0 hs0 => ?_)
  replace hs0 : Heap.SameBut z hp g0 := hs0
  simp only [Bool.false_eq_true, if_false]
  refine wpAny_bind ?_
  rw [← Array.forIn_toList]
  simp only [List.forIn_cons, List.forIn_nil]
  refine wpAny_bind (wpAny_bind (wpAny_holding ?_))
  show wpAny _ _ (Builtin.SmallTypes.nextOf (.ref i1) >>= _) _ _ ⟨g0, g, d, tk0, os⟩
  by_cases hlt1 : i < n1
  · refine wpAny_bind (D1.item i _ _ _ hlt1 (D1.over st1 hs0 S.zf1) fun x p1 tk1 hx1 sn1 hp1 => wpAny_pure ?_)
    replace hp1 : Heap.SameBut i1 g0 p1 := hp1
    refine wpAny_pure ?_
    have hi2 : i = n2 := by omega
    refine wpAny_bind (wpAny_bind (wpAny_holding ?_))
    show wpAny _ _ (Builtin.SmallTypes.nextOf (.ref i2) >>= _) _ _ ⟨p1, g, d, tk1, os⟩
    refine wpAny_bind (D2.done ⟨p1, g, d, tk1, os⟩ _ _ (by rw [← hi2]; exact (D2.over (D2.over st2 hs0 S.zf2) hp1 S.sep1_2)) fun q e hq he => ?_)
    replace hq : Heap.ExtBut i2 p1 q := hq
    exact hE q tk1 e (fun c o c1 c2 c3 x => hq _ _ c3 (hp1.extBut _ _ c2 (hs0.extBut _ _ c1 x))) he
  · have hi1 : i = n1 := by omega
    refine wpAny_bind (D1.done ⟨g0, g, d, tk0, os⟩ _ _ (by rw [← hi1]; exact (D1.over st1 hs0 S.zf1)) fun q e hq he => ?_)
    replace hq : Heap.ExtBut i1 g0 q := hq
    exact hE q tk0 e (fun c o c1 c2 c3 x => hq _ _ c2 (hs0.extBut _ _ c1 x)) he
theorem dzn_item {Q : Option Value → Shared → Prop} (S : ZipSep2 z TI TO i1 i2 fp1 fp2) (D1 : Draws prog w A.in1 i1 fp1 n1 P1 St1) (D2 : Draws prog w A.in1 i2 fp2 n2 P2 St2) (hz : IsZipHeld s.heap z TI TO T f) (hT : s.heap.get? T = some oT)
    (hTI : IsTupOf2 s.heap TI (.ref i1) (.ref i2)) (st1 : St1 i s.heap) (st2 : St2 i s.heap) (l1 : i < n1) (l2 : i < n2)
    (hQ : ∀ x y h' tk, P1 i x → P2 i y → IsZipHeld h' z TI TO T true → St1 (i + 1) h' → St2 (i + 1) h' → IsTupOf2 h' s.heap.objs.size x y → (∀ c o, c ≠ z → c ≠ i1 → c ≠ i2 → s.heap.get? c = some o → h'.get? c = some o) → Q (some (.ref s.heap.objs.size)) { s with heap := h', toks := tk }) :
    wpAny (model prog w) A (pyNext (.ref z)) Q E s := by
  have hTy : s.TypeIs (.ref z) "zip" := ⟨_, hz, rfl⟩
  unfold pyNext
  exact wpAny_bind (wpAny_attempt (wpAny_callSpecial?_slot (name := Str.ofString "__next__") hTy F.slot_zip_next (wpAny_call_entry F.slot_zip_next hTy F.entry_zip_next
    (dz_item S D1 D2 hz hT hTI st1 st2 l1 l2 fun x y h' tk a1 a2 a3 a4 a5 a6 a7 => wpAny_pure (hQ x y h' tk a1 a2 a3 a4 a5 a6 a7)) (F.args_zip_next_1 _))))
theorem dzn_end {Q : Option Value → Shared → Prop} (S : ZipSep2 z TI TO i1 i2 fp1 fp2) (D1 : Draws prog w A.in1 i1 fp1 n1 P1 St1) (D2 : Draws prog w A.in1 i2 fp2 n2 P2 St2) (hz : IsZipHeld s.heap z TI TO T f) (hT : s.heap.get? T = some oT)
    (hTI : IsTupOf2 s.heap TI (.ref i1) (.ref i2)) (st1 : St1 i s.heap) (st2 : St2 i s.heap) (l1 : i ≤ n1) (l2 : i ≤ n2) (le : i = n1 ∨ i = n2)
    (hQ : ∀ h' tk, (∀ c o, c ≠ z → c ≠ i1 → c ≠ i2 → s.heap.get? c = some o → h'.get? c = some o) → Q none { s with heap := h', toks := tk }) : wpAny (model prog w) A (pyNext (.ref z)) Q E s := by
  have hTy : s.TypeIs (.ref z) "zip" := ⟨_, hz, rfl⟩
  unfold pyNext
  refine wpAny_bind (wpAny_attempt (wpAny_callSpecial?_slot (name := Str.ofString "__next__") hTy F.slot_zip_next (wpAny_call_entry F.slot_zip_next hTy F.entry_zip_next
    (dz_end S D1 D2 hz hT hTI st1 st2 l1 l2 le fun h' tk e hk he => ?_) (F.args_zip_next_1 _))))
  obtain ⟨o, ho, hc⟩ := he
  refine wpAny_bind (wpAny_isInstance (T := "StopIteration") (b := true) ⟨o, ho, hc⟩ isSubtype_stop ?_)
  exact wpAny_pure (hQ _ _ hk)
/-- what stands of a zip of a list and a tuple -/
def DzSt (z TI TO i1 i2 a b : Addr) (xs ys : Array Value) (d : Addr) (i : Nat) (h : Heap) : Prop :=
  IsTupOf2 h TI (.ref i1) (.ref i2) ∧ (h.IsListIter i1 a i ∧ h.IsList a xs) ∧ (h.IsTupleIter i2 b i ∧ h.IsTuple b ys) ∧
  ((IsZip h z TI TO .none ∧ ∃ u v, IsTupOf2 h TO u v) ∨ ∃ T f oT, IsZipHeld h z TI TO T f ∧ h.get? T = some oT ∧ T ≠ z ∧ T ≠ i1 ∧ T ≠ i2 ∧ T ≠ d)
def DzOk (z TI TO i1 i2 a b : Addr) (xs ys : Array Value) (h : Heap) : Prop :=
  (IsZip h z TI TO .none ∧ ∃ u v, IsTupOf2 h TO u v) ∧ IsTupOf2 h TI (.ref i1) (.ref i2) ∧ (h.IsListIter i1 a 0 ∧ h.IsList a xs) ∧ (h.IsTupleIter i2 b 0 ∧ h.IsTuple b ys)
theorem pa_zipLT (D : ZipSep2 z TI TO i1 i2 [i1, a] [i2, b]) (nea : a ≠ i1) (neb : b ≠ i2) (xs ys : Array Value) :
    PairArg prog w "zip" z [z, TI, TO, i1, i2, a, b] [z, TO, i1, i2] (min xs.size ys.size) (fun i k v => xs[i]? = some k ∧ ys[i]? = some v) (DzOk z TI TO i1 i2 a b xs ys) where
  type := fun s ok => ⟨_, ok.1.1, rfl⟩
  notDict := by decide
  keep := fun h h' ok hk => by
    obtain ⟨⟨hz, u, v, hTO⟩, hTI, ⟨h1, hl1⟩, h2, hl2⟩ := ok
    exact ⟨⟨hk _ _ hz, u, v, hk _ _ hTO⟩, hk _ _ hTI, ⟨h1.at fun o e => hk _ o e, hl1.at fun o e => hk _ o e⟩, h2.at fun o e => hk _ o e, hl2.at fun o e => hk _ o e⟩
  there := fun h ok c hc => by
    obtain ⟨⟨hz, u, v, hTO⟩, hTI, ⟨⟨o1, h1, _⟩, ⟨o3, hl1, _⟩⟩, ⟨o2, h2, _⟩, ⟨o4, hl2, _⟩⟩ := ok
    rcases (by simpa using hc : c = z ∨ c = TI ∨ c = TO ∨ c = i1 ∨ c = i2 ∨ c = a ∨ c = b) with q | q | q | q | q | q | q <;> rw [q]
    · exact ⟨_, hz⟩
    · exact ⟨_, hTI⟩
    · exact ⟨_, hTO⟩
    · exact ⟨_, h1⟩
    · exact ⟨_, h2⟩
    · exact ⟨_, hl1⟩
    · exact ⟨_, hl2⟩
  sub := fun c hc => by simp at hc ⊢; rcases hc with rfl | rfl | rfl | rfl <;> simp
  noKeys := fun A s Q E hA ok h => getAttrOr_miss_zip ok.1.1 rfl rfl rfl zip_no_keys (by decide +kernel) hA h
  iter := fun A s d Q E hA ok hd hdf h => by
    obtain ⟨⟨hz, u0, v0, hTO⟩, hTI, h1, h2⟩ := ok
    simp only [List.mem_cons, List.not_mem_nil, or_false, not_or] at hdf
    obtain ⟨dz, dTI, dTO, di1, di2, da, db⟩ := hdf
    refine wpAny_pyIter_zip hz (h z [z, TO, i1, i2] (DzSt z TI TO i1 i2 a b xs ys d) s.heap s.toks ?_ ⟨hTI, h1, h2, .inl ⟨hz, u0, v0, hTO⟩⟩ (fun _ _ e => e) fun b hb => .inl hb)
    have hA1 : A.in1.handled = none := hA
    have az : a ≠ z := fun q => D.zf1 (by rw [← q]; simp)
    have bz : b ≠ z := fun q => D.zf2 (by rw [← q]; simp)
    have aT : a ≠ TO := fun q => D.Tf1 (by rw [← q]; simp)
    have bT : b ≠ TO := fun q => D.Tf2 (by rw [← q]; simp)
    exact {
      off := fun hm => by
        rcases (by simpa using hm : d = z ∨ d = TO ∨ d = i1 ∨ d = i2) with e | e | e | e
        · exact dz e
        · exact dTO e
        · exact di1 e
        · exact di2 e
      frame := fun i g1 g2 st hk => by
        obtain ⟨hTI, ⟨h1, hl1⟩, ⟨h2, hl2⟩, hz⟩ := st
        refine ⟨hk _ _ (Ne.symm dTI) hTI, ⟨h1.at fun o e => hk _ o (Ne.symm di1) e, hl1.at fun o e => hk _ o (Ne.symm da) e⟩, ⟨h2.at fun o e => hk _ o (Ne.symm di2) e, hl2.at fun o e => hk _ o (Ne.symm db) e⟩, ?_⟩
        rcases hz with ⟨hz, u, v, hTO⟩ | ⟨T, f, oT, hz, hT, r1, r2, r3, r4⟩
        · exact .inl ⟨hk _ _ (Ne.symm dz) hz, u, v, hk _ _ (Ne.symm dTO) hTO⟩
        · exact .inr ⟨T, f, oT, hk _ _ (Ne.symm dz) hz, hk _ _ r4 hT, r1, r2, r3, r4⟩
      item := fun i s1 Q1 E1 hi st hds hQ => by
        obtain ⟨hTI, h1, h2, hz⟩ := st
        have lx : i < xs.size := Nat.lt_of_lt_of_le hi (Nat.min_le_left ..)
        have ly : i < ys.size := Nat.lt_of_lt_of_le hi (Nat.min_le_right ..)
        have gt : ∀ {c o}, s1.heap.get? c = some o → s1.heap.objs.size ≠ c := fun e => Nat.ne_of_gt (Heap.lt_size e)
        have n1 : s1.heap.objs.size ≠ i1 := let ⟨_, e, _⟩ := h1.1; gt e
        have n2 : s1.heap.objs.size ≠ i2 := let ⟨_, e, _⟩ := h2.1; gt e
        rcases hz with ⟨hz, u, v, hTO⟩ | ⟨T, f, oT, hz, hT, r1, r2, r3, r4⟩
        · refine wpAny_pyNext_zipD2_item D (Draws.list hA1 i1 a nea xs) (Draws.tuple hA1 i2 b neb ys) hz hTI hTO h1 h2 lx ly fun v1 v2 h' tk e1 e2 z' TO' t1 t2 hT hsz hk => ?_
          exact hQ s1.heap.objs.size v1 v2 h' tk ⟨e1, e2⟩ (.inl ⟨_, hT, rfl, _, rfl⟩) ⟨hk _ _ D.TIz D.TITO D.TIi1 D.TIi2 hTI, t1, t2, .inr ⟨s1.heap.objs.size, false, _, z', hT, gt hz, n1, n2, Nat.ne_of_gt hds⟩⟩
            fun c o hc e => hk c o (fun x => hc (by simp [x])) (fun x => hc (by simp [x])) (fun x => hc (by simp [x])) (fun x => hc (by simp [x])) e
        · refine dzn_item D (Draws.list hA1 i1 a nea xs) (Draws.tuple hA1 i2 b neb ys) hz hT hTI h1 h2 lx ly fun v1 v2 h' tk e1 e2 z' t1 t2 hT2 hk => ?_
          exact hQ s1.heap.objs.size v1 v2 h' tk ⟨e1, e2⟩ (.inl ⟨_, hT2, rfl, _, rfl⟩) ⟨hk _ _ D.TIz D.TIi1 D.TIi2 hTI, t1, t2, .inr ⟨T, true, oT, z', hk _ _ r1 r2 r3 hT, r1, r2, r3, r4⟩⟩
            fun c o hc e => hk c o (fun x => hc (by simp [x])) (fun x => hc (by simp [x])) (fun x => hc (by simp [x])) e
      done := fun s1 Q1 E1 st hQ => by
        obtain ⟨hTI, h1, h2, hz⟩ := st
        have le : min xs.size ys.size = xs.size ∨ min xs.size ys.size = ys.size := by omega
        rcases hz with ⟨hz, u, v, hTO⟩ | ⟨T, f, oT, hz, hT, r1, r2, r3, r4⟩
        · exact wpAny_pyNext_zipD2_end D (Draws.list hA1 i1 a nea xs) (Draws.tuple hA1 i2 b neb ys) hz hTI hTO h1 h2 (by omega) (by omega) le fun h' tk hk => hQ h' tk fun c o hc e =>
            hk c o (fun x => hc (by simp [x])) (fun x => hc (by simp [x])) (fun x => hc (by simp [x])) (fun x => hc (by simp [x])) e
        · exact dzn_end D (Draws.list hA1 i1 a nea xs) (Draws.tuple hA1 i2 b neb ys) hz hT hTI h1 h2 (by omega) (by omega) le fun h' tk hk => hQ h' tk fun c o hc e => hk c o (fun x => hc (by simp [x])) (fun x => hc (by simp [x])) (fun x => hc (by simp [x])) e }
end
/-! ### the rule -/
section
variable {X : Cx}
theorem vals_at {l : List Key} {us : List Value} {P : Program} {w : World} (r : Vals (l.map kV) us) {i : Nat} {k : Value} (e : us[i]? = some k) : ∃ y, l[i]? = some y ∧ keyIs y k = true := by
  induction l generalizing us i with
  | nil => cases r; simp at e
  | cons y t ih =>
    cases r with
    | cons h r2 =>
      cases i with
      | zero =>
        simp at e
        subst e
        exact ⟨y, rfl, kV_is (P := P) (w := w) h⟩
      | succ i =>
        obtain ⟨y', e', h'⟩ := ih r2 (i := i) (by simpa using e)
        exact ⟨y', by simpa using e', h'⟩
theorem kv_zip : ∀ {ks : List Key} {ys : List V} {us : List Value}, Vals ys us → KV (ks.zip ys) (ks.zip us)
  | [], _, _, _ => .nil
  | _ :: _, _, _, .nil => .nil
  | _ :: _, _, _, .cons h t => .cons ⟨rfl, h⟩ (kv_zip t)
def tDictZip (K : PySem.W.Frag) (ta : TA) : TE := fun σ H Q => ta σ H fun vs H1 => ∃ (a b : Addr) (ks : List Key) (ys : List V), vs = [.ref a, .ref b] ∧ SqL K H1 a (ks.map kV) ∧ SqT K H1 b ys ∧ ∀ q, H1 q = none → Q (.ref q) (upd H1 q (.dK (mergeK [] (ks.zip ys))))
theorem pe_dictZip {e e2 : Expr} {ta : TA} {p p2 pos pos2 : Pos} (hcalm : X.calm = true) (hgd : Gl X "dict") (hmd : X.mg "dict" = none) (hvd : bootBuiltins "dict" = some (.type "dict")) (hgz : Gl X "zip") (hmz : X.mg "zip" = none) (ha : PA X [e, e2] ta)
    (hs : starEach [e, e2] X.env = (false, eval e X.env) :: starEach [e2] X.env := by rfl) (hpl : (backTo pos2 (starEach [e2] X.env)).any (·.1) = false := by rfl)
    (st : starEach [.Call (.Name "zip" p2) [e, e2] [] pos2] X.env = (false, eval (.Call (.Name "zip" p2) [e, e2] [] pos2) X.env) :: starEach [] X.env := by rfl) :
    PE X (.Call (.Name "dict" p) [.Call (.Name "zip" p2) [e, e2] [] pos2] [] pos) (tDictZip X.K ta) := by
  constructor
  intro pins s σ H Q I h
  refine wpAny_Call_Name_kw (ld_blt I hgd hmd hvd (PyProof.Rows.callWith_type1 ?_ st rfl))
  rw [st]
  show wpAny _ _ (spliced ((false, eval (.Call (.Name "zip" p2) [e, e2] [] pos2) X.env) :: backTo pos (starEach [] X.env))) _ _ s
  refine Calls.spliced_cons (Call_ (ld_blt I hgz hmz PyProof.Rows.boot_zip (PyProof.Rows.callWith_type1 (thn (ha.run pos2 pins s σ H _ I h) fun us s1 ⟨vs, H1, I1, r1, a, b, ks, ys, ex, hqx, hqy, q⟩ => ?_) hs hpl)))
  subst ex
  cases r1 with
  | cons r rr =>
    cases rr with
    | cons r' rr =>
      cases rr
      cases r
      cases r'
      obtain ⟨its, rv, pl, hz1⟩ := I1.list hqx
      obtain ⟨its2, rv2, tp, hz2⟩ := I1.tuple hqy
      have la : a < s1.heap.objs.size := pl.lt
      have lb : b < s1.heap.objs.size := tp.lt
      refine zip_begins2 (begins_list a its.toArray) (begins_tuple b its2.toArray) pl.isList tp fun h' hz hTI hTO h1 h2 hsz hk => ?_
      refine Calls.spliced_nil ?_
      have A : ∀ k : Nat, s1.heap.objs.size + k ≠ a := fun k => Nat.ne_of_gt (Nat.lt_of_lt_of_le la (Nat.le_add_right _ _))
      have B : ∀ k : Nat, s1.heap.objs.size + k ≠ b := fun k => Nat.ne_of_gt (Nat.lt_of_lt_of_le lb (Nat.le_add_right _ _))
      have C : ∀ j k : Nat, j ≠ k → s1.heap.objs.size + j ≠ s1.heap.objs.size + k := fun j k hjk z => hjk (Nat.add_left_cancel z)
      have N2 : ∀ {x y c : Nat}, c ≠ x → c ≠ y → c ∉ [x, y] := fun h1 h2 hm => by
        rcases List.mem_cons.mp hm with q | q
        · exact h1 q
        · exact h2 (List.mem_singleton.mp q)
      have D : ZipSep2 (s1.heap.objs.size + 4) (s1.heap.objs.size + 2) (s1.heap.objs.size + 3) s1.heap.objs.size (s1.heap.objs.size + 1) [s1.heap.objs.size, a] [s1.heap.objs.size + 1, b] :=
        ⟨C 2 4 (by decide), C 3 4 (by decide), C 2 3 (by decide), C 2 0 (by decide), List.mem_cons_self, N2 (C 4 0 (by decide)) (A 4), N2 (C 3 0 (by decide)) (A 3), C 2 1 (by decide), List.mem_cons_self, N2 (C 4 1 (by decide)) (B 4), N2 (C 3 1 (by decide)) (B 3), N2 (C 0 1 (by decide)) (B 0), N2 (C 1 0 (by decide)) (A 1)⟩
      have hge : s1.heap.objs.size ≤ h'.objs.size := by omega
      have n1 := rv.length
      have n2 := rv2.length
      rw [List.length_map] at n1
      have hln : (mergeK [] (ks.zip ys)).length ≤ sizeLine := by
        refine Nat.le_trans (length_mergeK (ks.zip ys) []) ?_
        rw [List.length_nil, Nat.zero_add, List.length_zip]
        rw [List.length_map] at hz1
        exact Nat.le_trans (Nat.min_le_left _ _) hz1
      refine PySem.call_dict_pairs (knd := mixKind X.prog X.w) (kvs := ks.zip its2) (s := { s1 with heap := h' }) (pa_zipLT D (Ne.symm (A 0)) (Ne.symm (B 1)) its.toArray its2.toArray) (I1.ok.hd hcalm)
        ⟨⟨hz, _, _, hTO⟩, hTI, ⟨⟨_, h1, rfl, rfl⟩, pl.isList.at fun o e => hk _ _ e⟩, ⟨_, h2, rfl, rfl⟩, let ⟨o, ho, r⟩ := tp; ⟨o, hk _ _ ho, r⟩⟩ ⟨?_, fun i k v hkv => ?_⟩ ?_ fun h'' tk hd' k => ?_
      · rw [List.length_zip]; simp [n1]
      · obtain ⟨e1, e2⟩ := hkv
        obtain ⟨y, ey, hy⟩ := vals_at (P := X.prog) (w := X.w) rv (by simpa using e1)
        exact ⟨y, List.getElem?_zip_eq_some.mpr ⟨ey, by simpa using e2⟩, hy⟩
      · simp
        rw [List.length_map] at hz1
        rw [← n1]
        exact Nat.le_trans (Nat.min_le_left _ _) hz1
      · have hm : (h'.objs.size == sysModules) = false := beq_eq_false_iff_ne.mpr (Nat.ne_of_gt (Nat.lt_of_lt_of_le I1.big hge))
        have kk : ∀ c o, s1.heap.get? c = some o → h''.get? c = some o := fun c o e => k c o (fun hm => by
          have lc := Heap.lt_size e
          rcases (by simpa using hm : c = s1.heap.objs.size + 4 ∨ c = s1.heap.objs.size + 3 ∨ c = s1.heap.objs.size ∨ c = s1.heap.objs.size + 1) with z | z | z | z <;> exact absurd lc (by rw [z]; exact Nat.not_lt.mpr (by first | exact Nat.le_refl _ | exact Nat.le_add_right _ _))) (hk c o e)
        exact ⟨.ref h'.objs.size, upd H1 h'.objs.size (.dK (mergeK [] (ks.zip ys))), I1.laid (t' := tk) kk hge (show ObjOk X.prog X.w _ _ _ (.dK (mergeK [] (ks.zip ys))) from ⟨hln, hm, merged [] (ks.zip its2), KV.merge (kv_zip rv2) .nil, hd'⟩), rfl, q _ (I1.hok.fresh hge)⟩
end
end L2

/-! len(set(a list of ints)) -/
namespace L2
open PySem PySem.Spec PyProof.Rows
theorem met_one {ns : List Int} (h : (PyProof.Rows.firstMet (fun i => ns.getD i 0) ns.length).length = 1) : ∀ i ∈ ns, ∀ j ∈ ns, i = j := by
  obtain ⟨x, ex⟩ := List.length_eq_one_iff.mp h
  have key : ∀ k ∈ ns, k = x := fun k hk => by
    obtain ⟨m, hm⟩ := List.mem_iff_getElem?.mp hk
    obtain ⟨lm, em⟩ := List.getElem?_eq_some_iff.mp hm
    have a := PyProof.Rows.firstMet_any (fun i => ns.getD i 0) ns.length k
    rw [ex] at a
    have b : ((List.range ns.length).map fun i => ns.getD i 0).any (· == k) = true := by
      rw [List.any_eq_true]
      refine ⟨k, List.mem_map.mpr ⟨m, List.mem_range.mpr lm, ?_⟩, by simp⟩
      show ns.getD m 0 = k
      rw [List.getD_eq_getElem?_getD, hm]; rfl
    rw [b] at a
    have : (x == k) = true := by simpa using a
    exact (eq_of_beq this).symm
  exact fun i hi j hj => (key i hi).trans (key j hj).symm
def tLenSet (K : PySem.W.Frag) (ta : TA) : TE := fun σ H Q => ta σ H fun vs H1 => ∃ (a : Addr) (ns : List Int), vs = [.ref a] ∧ SqL K H1 a (ns.map V.int) ∧ ns.length < 1000 ∧ ∀ n : Nat, (n = 1 → ∀ i ∈ ns, ∀ j ∈ ns, i = j) → Q (.int (n : Nat)) H1
theorem pe_lenSet {X : Cx} {e : Expr} {ta : TA} {p p2 pos pos2 : Pos} (hcalm : X.calm = true) (hgl : Gl X "len") (hml : X.mg "len" = none) (hvl : bootBuiltins "len" = some (.builtin "len")) (hgs : Gl X "set") (hms : X.mg "set" = none) (hvs : bootBuiltins "set" = some (.type "set")) (ha : PA X [e] ta)
    (hs : starEach [e] X.env = (false, eval e X.env) :: starEach [] X.env := by rfl)
    (st : starEach [.Call (.Name "set" p2) [e] [] pos2] X.env = (false, eval (.Call (.Name "set" p2) [e] [] pos2) X.env) :: starEach [] X.env := by rfl) :
    PE X (.Call (.Name "len" p) [.Call (.Name "set" p2) [e] [] pos2] [] pos) (tLenSet X.K ta) := by
  constructor
  intro pins s σ H Q I h
  refine wpAny_Call_Name_kw (ld_blt I hgl hml hvl (PyProof.Rows.callWith_builtin1 ?_ st rfl))
  rw [st]
  show wpAny _ _ (spliced ((false, eval (.Call (.Name "set" p2) [e] [] pos2) X.env) :: backTo pos (starEach [] X.env))) _ _ s
  refine Calls.spliced_cons (wpAny_Call_Name_kw (ld_blt I hgs hms hvs (PyProof.Rows.callWith_type1 (thn (ha.run pos2 pins s σ H _ I h) fun us s1 ⟨vs, H1, I1, r1, q1⟩ => ?_) hs rfl)))
  obtain ⟨a, ns, ex, hq, hl, q⟩ := q1
  subst ex
  obtain ⟨u, eu, rx⟩ := vals1 r1
  subst eu
  cases rx
  obtain ⟨its, rv, pl, hz⟩ := I1.list hq
  have i1 : PyProof.Rows.IntsAre its.toArray.toList ns := intsAre_of rv
  have n1 := rv.length
  rw [List.length_map] at n1
  have esz : its.toArray.size = ns.length := by simp [n1]
  refine PySem.call_set_list (I1.ok.hd hcalm) pl.isList i1 (by rw [esz]; exact Nat.lt_trans (Nat.succ_lt_succ hl) (by decide)) fun h' tk hset hk => Calls.spliced_nil ?_
  rw [esz] at hset
  obtain ⟨o, es, ep, t, ho, hex, hd, _, _, hsb, hf, hn⟩ := hset
  have hfl := PyProof.Rows.firstMet_length_le (fun i => ns.getD i 0) ns.length
  refine call_len_set ho hex hd hf (by rw [hn]; omega) ?_
  rw [hn]
  exact ⟨.int _, H1, I1.kept (t' := tk + 1 + 1) fun b u z => hk b u (Heap.lt_size z) z, ⟨_, rfl⟩, q _ fun e => met_one e⟩
end L2

/-! shapes: what data a value stands for, apart from the places that are being changed -/
namespace L2
open PySem PySem.Spec PyProof.Rows
/-- what is reached stands at places of W -/
structure Sh (α : Type) where
  r : (Addr → Prop) → Hp → V → α → Prop
  mv : ∀ {W W' : Addr → Prop} {H H' : Hp} {v : V} {x : α}, r W H v x → (∀ a o, W a → H a = some o → H' a = some o ∧ W' a) → r W' H' v x
/-- apart from the places of M -/
abbrev Sh.at {α : Type} (s : Sh α) (M : List Addr) (H : Hp) (v : V) (x : α) : Prop := s.r (fun a => a ∉ M) H v x
/-- nothing is lost; what is not of m stays -/
def Stp (m : List Addr) (H H' : Hp) : Prop := ∀ a o, H a = some o → (∃ o', H' a = some o') ∧ (a ∉ m → H' a = some o)
def Alv (M : List Addr) (H : Hp) : Prop := ∀ a ∈ M, ∃ o, H a = some o
/-- each of m is of M or not there -/
def Sb (m M : List Addr) (H : Hp) : Prop := ∀ a ∈ m, a ∈ M ∨ H a = none
section
variable {m m' M M' : List Addr} {H H1 H2 : Hp} {a b p : Addr} {o : HO}
theorem Sb.refl : Sb M M H := fun _ h => .inl h
theorem Sb.nil : Sb [] M H := fun _ h => by cases h
theorem Sb.new (h : H p = none) (s : Sb m M H) : Sb (p :: m) M H := fun a ha => (List.mem_cons.mp ha).elim (fun e => .inr (e ▸ h)) (s a)
theorem Sb.mem (h : p ∈ M) (s : Sb m M H) : Sb (p :: m) M H := fun a ha => (List.mem_cons.mp ha).elim (fun e => .inl (e ▸ h)) (s a)
theorem Sb.one (h : p ∈ M) : Sb [p] M H := Sb.mem h Sb.nil
theorem Sb.more (s : Sb m M H) : Sb m (p :: M) H := fun a ha => (s a ha).imp (List.mem_cons_of_mem _) id
theorem Sb.cons (s : Sb m M H) : Sb (p :: m) (p :: M) H := fun a ha => (List.mem_cons.mp ha).elim (fun e => .inl (by rw [e]; exact List.mem_cons_self)) fun h => (s a h).imp (fun z => List.mem_cons_of_mem _ z) id
theorem Stp.refl : Stp m H H := fun a o h => ⟨⟨o, h⟩, fun _ => h⟩
theorem Stp.trans (x : Stp m H H1) (y : Stp m H1 H2) : Stp m H H2 := fun a o h => by
  obtain ⟨⟨o1, h1⟩, k1⟩ := x a o h
  exact ⟨(y a o1 h1).1, fun n => (y a o (k1 n)).2 n⟩
theorem Stp.wk (x : Stp m H H1) (s : Sb m m' H) : Stp m' H H1 := fun a o h => ⟨(x a o h).1, fun n => (x a o h).2 fun hm => (s a hm).elim n fun e => by rw [h] at e; cases e⟩
theorem Stp.same (x : Stp [] H H1) : Same H H1 := fun a o h => (x a o h).2 (by simp)
theorem Stp.of_same (x : Same H H1) : Stp m H H1 := fun a o h => ⟨⟨o, x a o h⟩, fun _ => x a o h⟩
theorem Stp.new (h : H p = none) : Stp m H (upd H p o) := Stp.of_same fun a u e => by rw [upd_ne (ne_of_none e h)]; exact e
theorem Stp.at (x : Stp m H H1) (h : H a = some o) (n : a ∉ m) : H1 a = some o := (x a o h).2 n
theorem Stp.put (h : p ∈ m) : Stp m H (upd H p o) := fun a u e => by
  by_cases ea : a = p
  · subst ea
    exact ⟨⟨o, upd_same⟩, fun n => absurd h n⟩
  · rw [upd_ne ea]; exact ⟨⟨u, e⟩, fun _ => e⟩
/-- a place that was not there may be written -/
theorem Stp.putN (x : Stp m H H1) (h : H p = none) : Stp m H (upd H1 p o) := fun a u e => by
  have ea : a ≠ p := ne_of_none e h
  rw [upd_ne ea]; exact x a u e
theorem Stp.none (x : Stp m H H1) (h : H1 a = none) : H a = none := by
  cases e : H a with
  | none => rfl
  | some o => obtain ⟨⟨o', h'⟩, _⟩ := x a o e; rw [h] at h'; cases h'
theorem Alv.nil : Alv [] H := fun _ h => by cases h
theorem Alv.cons (h : H p = some o) (s : Alv M H) : Alv (p :: M) H := fun a ha => (List.mem_cons.mp ha).elim (fun e => ⟨o, e ▸ h⟩) (s a)
theorem Alv.go (s : Alv M H) (x : Stp m H H1) : Alv M H1 := fun a ha => by
  obtain ⟨o, h⟩ := s a ha
  exact (x a o h).1
/-- a new place is not of M -/
theorem Alv.off (s : Alv M H) (h : H p = none) : p ∉ M := fun hm => by
  obtain ⟨o, e⟩ := s p hm
  rw [h] at e; cases e
theorem Alv.ne (s : Alv M H) (h : H p = none) (ha : a ∈ M) : a ≠ p := fun e => s.off h (e ▸ ha)
end
section
variable {α β γ : Type} {s : Sh α} {t : Sh β} {u : Sh γ} {m m' M M' : List Addr} {H H1 H2 : Hp} {a b p : Addr} {o : HO} {v w : V} {x : α} {y : β}
/-- carried over -/
theorem Sh.go (h : s.at M H v x) (st : Stp m H H1) (hm : Sb m M H) (hM : Sb M' M H) : s.at M' H1 v x := s.mv h fun a o n e =>
  ⟨(st a o e).2 fun hh => (hm a hh).elim n fun z => (by rw [e] at z; cases z), fun hh => (hM a hh).elim n fun z => (by rw [e] at z; cases z)⟩
theorem Sh.gos {vs : List V} {xs : List α} (h : Paired (s.at M H) vs xs) (st : Stp m H H1) (hm : Sb m M H) (hM : Sb M' M H) : Paired (s.at M' H1) vs xs := Paired.mapP h fun _ _ z => Sh.go z st hm hM
def sInt : Sh Int := ⟨fun _ _ v x => v = .int x, fun h _ => h⟩
def sStr : Sh Str := ⟨fun _ _ v x => v = .str x, fun h _ => h⟩
def sBl : Sh Bool := ⟨fun _ _ v x => v = .bl x, fun h _ => h⟩
/-- any value without an object -/
def sV : Sh V := ⟨fun _ _ v x => v = x ∧ ∀ a, x ≠ .ref a, fun h _ => h⟩
def sL (s : Sh α) : Sh (List α) := ⟨fun W H v xs => ∃ a vs, v = .ref a ∧ W a ∧ H a = some (.lst vs) ∧ Paired (s.r W H) vs xs, fun ⟨a, vs, e, w, h, p⟩ k => ⟨a, vs, e, (k _ _ w h).2, (k _ _ w h).1, Paired.mapP p fun _ _ z => s.mv z k⟩⟩
def sT (s : Sh α) : Sh (List α) := ⟨fun W H v xs => ∃ a vs, v = .ref a ∧ W a ∧ H a = some (.tup vs) ∧ Paired (s.r W H) vs xs, fun ⟨a, vs, e, w, h, p⟩ k => ⟨a, vs, e, (k _ _ w h).2, (k _ _ w h).1, Paired.mapP p fun _ _ z => s.mv z k⟩⟩
/-- a list or a tuple -/
def sQ (s : Sh α) : Sh (List α) := ⟨fun W H v xs => ∃ a vs, v = .ref a ∧ W a ∧ (H a = some (.lst vs) ∨ H a = some (.tup vs)) ∧ Paired (s.r W H) vs xs, fun ⟨a, vs, e, w, h, p⟩ k => ⟨a, vs, e, h.elim (fun h => (k _ _ w h).2) (fun h => (k _ _ w h).2), h.imp (fun h => (k _ _ w h).1) (fun h => (k _ _ w h).1), Paired.mapP p fun _ _ z => s.mv z k⟩⟩
/-- a tuple of two, a list of two, a tuple of three -/
def sP (s : Sh α) (t : Sh β) : Sh (α × β) := ⟨fun W H v x => ∃ a u w, v = .ref a ∧ W a ∧ H a = some (.tup [u, w]) ∧ s.r W H u x.1 ∧ t.r W H w x.2, fun ⟨a, u, z, e, w, h, p, q⟩ k => ⟨a, u, z, e, (k _ _ w h).2, (k _ _ w h).1, s.mv p k, t.mv q k⟩⟩
def sLP (s : Sh α) (t : Sh β) : Sh (α × β) := ⟨fun W H v x => ∃ a u w, v = .ref a ∧ W a ∧ H a = some (.lst [u, w]) ∧ s.r W H u x.1 ∧ t.r W H w x.2, fun ⟨a, u, z, e, w, h, p, q⟩ k => ⟨a, u, z, e, (k _ _ w h).2, (k _ _ w h).1, s.mv p k, t.mv q k⟩⟩
def s3 (s : Sh α) (t : Sh β) (u : Sh γ) : Sh (α × β × γ) := ⟨fun W H v x => ∃ a i j l, v = .ref a ∧ W a ∧ H a = some (.tup [i, j, l]) ∧ s.r W H i x.1 ∧ t.r W H j x.2.1 ∧ u.r W H l x.2.2, fun ⟨a, i, j, l, e, w, h, p, q, z⟩ k => ⟨a, i, j, l, e, (k _ _ w h).2, (k _ _ w h).1, s.mv p k, t.mv q k, u.mv z k⟩⟩
/-- a dict: its pairs in order -/
def sD (s : Sh α) : Sh (List (Key × α)) := ⟨fun W H v xs => ∃ a vs, v = .ref a ∧ W a ∧ H a = some (.dK vs) ∧ Paired (fun (p : Key × V) (q : Key × α) => p.1 = q.1 ∧ s.r W H p.2 q.2) vs xs, fun ⟨a, vs, e, w, h, p⟩ k => ⟨a, vs, e, (k _ _ w h).2, (k _ _ w h).1, Paired.mapP p fun _ _ z => ⟨z.1, s.mv z.2 k⟩⟩⟩
def sO (s : Sh α) : Sh (Option α) := ⟨fun W H v x => (x = none ∧ v = .non) ∨ ∃ y, x = some y ∧ s.r W H v y, fun h k => h.imp id fun ⟨y, e, z⟩ => ⟨y, e, s.mv z k⟩⟩
theorem Sh.sq (h : (sL s).at M H v xs) : (sQ s).at M H v xs := by
  obtain ⟨a, vs, e, w, h, p⟩ := h
  exact ⟨a, vs, e, w, .inl h, p⟩
theorem Sh.tq (h : (sT s).at M H v xs) : (sQ s).at M H v xs := by
  obtain ⟨a, vs, e, w, h, p⟩ := h
  exact ⟨a, vs, e, w, .inr h, p⟩
theorem pds_map (f : α → V) : ∀ {l : List α}, (∀ y ∈ l, s.at M H (f y) y) → Paired (s.at M H) (l.map f) l
  | [], _ => .nil
  | y :: r, h => .cons (h y List.mem_cons_self) (pds_map f fun z hz => h z (List.mem_cons_of_mem _ hz))
theorem pd_ints {ns : List Int} : Paired (sInt.at M H) (ns.map V.int) ns := pds_map _ fun _ _ => rfl
theorem pd_strs {ns : List Str} : Paired (sStr.at M H) (ns.map V.str) ns := pds_map _ fun _ _ => rfl
theorem pd_isInts : ∀ {vs : List V} {ns : List Int}, Paired (sInt.at M H) vs ns → vs = ns.map V.int
  | _, _, .nil => rfl
  | _, _, .cons e t => by rw [pd_isInts t]; cases e; rfl
theorem pd_isStrs : ∀ {vs : List V} {ns : List Str}, Paired (sStr.at M H) vs ns → vs = ns.map V.str
  | _, _, .nil => rfl
  | _, _, .cons e t => by rw [pd_isStrs t]; cases e; rfl
theorem Sh.ints {ns : List Int} (h : (sL sInt).at M H v ns) : ∃ a, v = .ref a ∧ a ∉ M ∧ H a = some (.lst (ns.map V.int)) := by
  obtain ⟨a, vs, e, w, h, p⟩ := h
  exact ⟨a, e, w, by rw [← pd_isInts p]; exact h⟩
theorem Sh.strs {ns : List Str} (h : (sL sStr).at M H v ns) : ∃ a, v = .ref a ∧ a ∉ M ∧ H a = some (.lst (ns.map V.str)) := by
  obtain ⟨a, vs, e, w, h, p⟩ := h
  exact ⟨a, e, w, by rw [← pd_isStrs p]; exact h⟩
theorem Sh.tints {ns : List Int} (h : (sT sInt).at M H v ns) : ∃ a, v = .ref a ∧ a ∉ M ∧ H a = some (.tup (ns.map V.int)) := by
  obtain ⟨a, vs, e, w, h, p⟩ := h
  exact ⟨a, e, w, by rw [← pd_isInts p]; exact h⟩
theorem iteN {c A B : Prop} [Decidable c] (h : ¬ c) (x : B) : if c then A else B := by
  rw [if_neg h]; exact x
/-! ### parts of lists -/
theorem psnoc {F : α → β → Prop} : ∀ {l₁ : List α} {l₂ : List β} {x : α} {y : β}, Paired F l₁ l₂ → F x y → Paired F (l₁ ++ [x]) (l₂ ++ [y])
  | _, _, _, _, .nil, h => .cons h .nil
  | _, _, _, _, .cons r t, h => .cons r (psnoc t h)
theorem papp {F : α → β → Prop} : ∀ {a b : List α} {c d : List β}, Paired F a c → Paired F b d → Paired F (a ++ b) (c ++ d)
  | _, _, _, _, .nil, h => h
  | _, _, _, _, .cons r t, h => .cons r (papp t h)
theorem ptake {F : α → β → Prop} : ∀ {n : Nat} {l₁ : List α} {l₂ : List β}, Paired F l₁ l₂ → Paired F (l₁.take n) (l₂.take n)
  | 0, _, _, _ => by simpa using .nil
  | _ + 1, _, _, .nil => .nil
  | n + 1, _, _, .cons r t => .cons r (ptake (n := n) t)
theorem pdrop {F : α → β → Prop} : ∀ {n : Nat} {l₁ : List α} {l₂ : List β}, Paired F l₁ l₂ → Paired F (l₁.drop n) (l₂.drop n)
  | 0, _, _, h => h
  | _ + 1, _, _, .nil => .nil
  | n + 1, _, _, .cons _ t => pdrop (n := n) t
theorem prev {F : α → β → Prop} : ∀ {l₁ : List α} {l₂ : List β}, Paired F l₁ l₂ → Paired F l₁.reverse l₂.reverse
  | _, _, .nil => .nil
  | _, _, .cons r t => by rw [List.reverse_cons, List.reverse_cons]; exact psnoc (prev t) r
theorem pset {F : α → β → Prop} : ∀ {i : Nat} {l₁ : List α} {l₂ : List β} {x : α} {y : β}, Paired F l₁ l₂ → F x y → Paired F (l₁.set i x) (l₂.set i y)
  | _, _, _, _, _, .nil, _ => .nil
  | 0, _, _, _, _, .cons _ t, h => .cons h t
  | i + 1, _, _, _, _, .cons r t, h => .cons r (pset (i := i) t h)
theorem pget {F : α → β → Prop} : ∀ {l₁ : List α} {l₂ : List β} {i : Nat} {y : β}, Paired F l₁ l₂ → l₂[i]? = some y → ∃ x, l₁[i]? = some x ∧ F x y
  | _, _, _, _, .nil, e => by simp at e
  | _, _, 0, _, .cons r _, e => by simp at e; subst e; exact ⟨_, rfl, r⟩
  | _, _, i + 1, y, .cons _ t, e => by
    obtain ⟨x, h1, h2⟩ := pget (i := i) (y := y) t (by simpa using e)
    exact ⟨x, by simpa using h1, h2⟩
theorem pget' {F : α → β → Prop} : ∀ {l₁ : List α} {l₂ : List β} {i : Nat} {x : α}, Paired F l₁ l₂ → l₁[i]? = some x → ∃ y, l₂[i]? = some y ∧ F x y
  | _, _, _, _, .nil, e => by simp at e
  | _, _, 0, _, .cons r _, e => by simp at e; subst e; exact ⟨_, rfl, r⟩
  | _, _, i + 1, y, .cons _ t, e => by
    obtain ⟨x, h1, h2⟩ := pget' (i := i) (x := y) t (by simpa using e)
    exact ⟨x, by simpa using h1, h2⟩
theorem plen {F : α → β → Prop} : ∀ {l₁ : List α} {l₂ : List β}, Paired F l₁ l₂ → l₁.length = l₂.length
  | _, _, .nil => rfl
  | _, _, .cons _ t => congrArg (· + 1) (plen t)
/-! ### the list that a comprehension makes -/
/-- at D, while what is of m is being changed: ys so far -/
structure Acc (t : Sh β) (D : Addr) (M m : List Addr) (H1 : Hp) (H : Hp) (ys : List β) : Prop where
  al : Alv M H1
  nD : H1 D = none
  sub : ∀ a ∈ m, a ∈ M
  st : Stp m H1 H
  ac : ∃ vs, H D = some (.lst vs) ∧ Paired (t.at (D :: M) H) vs ys
variable {ys : List β} {D : Addr}
theorem Acc.start (al : Alv M H1) (nD : H1 D = none) (sub : ∀ a ∈ m, a ∈ M) : Acc t D M m H1 (upd H1 D (.lst [])) [] := ⟨al, nD, sub, Stp.refl.putN nD, [], upd_same, .nil⟩
theorem Acc.nM (h : Acc t D M m H1 H ys) : D ∉ M := h.al.off h.nD
theorem Acc.nm (h : Acc t D M m H1 H ys) : D ∉ m := fun e => h.nM (h.sub D e)
theorem Acc.alv (h : Acc t D M m H1 H ys) : Alv (D :: M) H := by
  obtain ⟨vs, e, _⟩ := h.ac
  exact Alv.cons e (h.al.go h.st)
theorem Acc.go (h : Acc t D M m H1 H ys) (st : Stp m H H2) : Acc t D M m H1 H2 ys := by
  obtain ⟨vs, e, p⟩ := h.ac
  exact ⟨h.al, h.nD, h.sub, h.st.trans st, vs, st.at e h.nm, Sh.gos p st (fun a ha => .inl (List.mem_cons_of_mem _ (h.sub a ha))) Sb.refl⟩
theorem Acc.wk (h : Acc t D M m H1 H ys) (s : ∀ a ∈ m, a ∈ m') (s' : ∀ a ∈ m', a ∈ M) : Acc t D M m' H1 H ys := ⟨h.al, h.nD, s', h.st.wk fun a ha => .inl (s a ha), h.ac⟩
theorem Acc.put {R : List β → Prop} (h : Acc t D M m H1 H ys) (st : Stp m H H2) (hz : t.at (D :: M) H2 v y) (hl : ys.length < 100000) (hr : R (ys ++ [y])) :
    ∃ acc, H2 D = some (.lst acc) ∧ acc.length < sizeLine ∧ ∃ ys', Acc t D M m H1 (upd H2 D (.lst (acc ++ [v]))) ys' ∧ R ys' := by
  obtain ⟨al, nD, sub, s0, vs, e, p⟩ := h.go st
  refine ⟨vs, e, by rw [plen p]; have := sizeLine_eq; omega, ys ++ [y], ⟨al, nD, sub, s0.putN nD, _, upd_same, ?_⟩, hr⟩
  exact psnoc (Sh.gos p (Stp.put (m := [D]) (by simp)) (fun a ha => .inl (by simp at ha; simp [ha])) Sb.refl) (Sh.go hz (Stp.put (m := [D]) (by simp)) (fun a ha => .inl (by simp at ha; simp [ha])) Sb.refl)
/-- .. and something else goes on holding -/
theorem Acc.putB {R : List β → Prop} (B : Hp → Prop) (h : Acc t D M m H1 H ys) (st : Stp m H H2) (hz : t.at (D :: M) H2 v y) (hl : ys.length < 100000) (hr : R (ys ++ [y])) (hB : ∀ H', (∀ a o, a ≠ D → H2 a = some o → H' a = some o) → B H') :
    ∃ acc, H2 D = some (.lst acc) ∧ acc.length < sizeLine ∧ ∃ ys', Acc t D M m H1 (upd H2 D (.lst (acc ++ [v]))) ys' ∧ R ys' ∧ B (upd H2 D (.lst (acc ++ [v]))) := by
  obtain ⟨acc, h1, h2, ys', h3, h4⟩ := h.put (R := R) st hz hl hr
  exact ⟨acc, h1, h2, ys', h3, h4, hB _ fun a o n e => by rw [upd_ne n]; exact e⟩
/-- an own list F, new since H, one item changed -/
theorem set_L {F : Addr} {vs : List V} {xs : List α} (al : Alv M H) (nF : H F = none) (st : Stp m H H2) (hm : Sb m M H) (h : H2 F = some (.lst vs)) (pd : Paired (s.at (F :: M) H2) vs xs) (hz : s.at (F :: M) H2 v x) (i : Nat) :
    (sL s).at M (upd H2 F (.lst (vs.set i v))) (.ref F) (xs.set i x) ∧ Stp m H (upd H2 F (.lst (vs.set i v))) ∧ Paired (s.at (F :: M) (upd H2 F (.lst (vs.set i v)))) (vs.set i v) (xs.set i x) := by
  have sp : Stp [F] H2 (upd H2 F (.lst (vs.set i v))) := Stp.put (by simp)
  have sb : Sb [F] (F :: M) H2 := Sb.mem List.mem_cons_self Sb.nil
  exact ⟨⟨F, _, rfl, al.off nF, upd_same, pset (Sh.gos pd sp sb (fun a ha => .inl (List.mem_cons_of_mem _ ha))) (Sh.go hz sp sb (fun a ha => .inl (List.mem_cons_of_mem _ ha)))⟩, st.putN nF, pset (Sh.gos pd sp sb Sb.refl) (Sh.go hz sp sb Sb.refl)⟩
theorem Acc.done (h : Acc t D M m H1 H ys) : (sL t).at M H (.ref D) ys := by
  obtain ⟨vs, e, p⟩ := h.ac
  exact ⟨D, vs, rfl, h.nM, e, Paired.mapP p fun _ _ z => t.mv z fun a o n e => ⟨e, fun h => n (List.mem_cons_of_mem _ h)⟩⟩
/-- what is new is of no M -/
theorem mk_lst {vs : List V} {xs : List α} (al : Alv M H) (np : H p = none) (h : Paired (s.at M H) vs xs) : (sL s).at M (upd H p (.lst vs)) (.ref p) xs := ⟨p, vs, rfl, al.off np, upd_same, Sh.gos h (Stp.new np) Sb.nil Sb.refl⟩
theorem mk_tup {vs : List V} {xs : List α} (al : Alv M H) (np : H p = none) (h : Paired (s.at M H) vs xs) : (sT s).at M (upd H p (.tup vs)) (.ref p) xs := ⟨p, vs, rfl, al.off np, upd_same, Sh.gos h (Stp.new np) Sb.nil Sb.refl⟩
theorem mk_P (al : Alv M H) (np : H p = none) (h : s.at M H v x) (h' : t.at M H w y) : (sP s t).at M (upd H p (.tup [v, w])) (.ref p) (x, y) := ⟨p, v, w, rfl, al.off np, upd_same, Sh.go h (Stp.new np) Sb.nil Sb.refl, Sh.go h' (Stp.new np) Sb.nil Sb.refl⟩
theorem mk_LP (al : Alv M H) (np : H p = none) (h : s.at M H v x) (h' : t.at M H w y) : (sLP s t).at M (upd H p (.lst [v, w])) (.ref p) (x, y) := ⟨p, v, w, rfl, al.off np, upd_same, Sh.go h (Stp.new np) Sb.nil Sb.refl, Sh.go h' (Stp.new np) Sb.nil Sb.refl⟩
theorem mk_3 {v' : V} {z : γ} (al : Alv M H) (np : H p = none) (h : s.at M H v x) (h' : t.at M H w y) (h'' : u.at M H v' z) : (s3 s t u).at M (upd H p (.tup [v, w, v'])) (.ref p) (x, y, z) := ⟨p, v, w, v', rfl, al.off np, upd_same, Sh.go h (Stp.new np) Sb.nil Sb.refl, Sh.go h' (Stp.new np) Sb.nil Sb.refl, Sh.go h'' (Stp.new np) Sb.nil Sb.refl⟩
end
/-! ### as the library reads data -/
/-- its data: read, shown, compared -/
structure ShD {α : Type} (s : Sh α) (d : α → PyData) : Prop where
  dp : ∀ {K : PySem.W.Frag} {W : Addr → Prop} {H : Hp} {v : V} {x : α}, s.r W H v x → Dp K H v (d x)
  dx : ∀ {K : PySem.W.Frag} {W : Addr → Prop} {H : Hp} {v : V} {x : α}, s.r W H v x → Dx K H v (d x)
theorem dpA {α : Type} {K : PySem.W.Frag} {H : Hp} {F : V → α → Prop} {d : α → PyData} (h : ∀ v x, F v x → Dp K H v (d x)) : ∀ {vs : List V} {xs : List α}, Paired F vs xs → DpAll K H vs (xs.map d)
  | _, _, .nil => .nil
  | _, _, .cons r t => .cons (h _ _ r) (dpA h t)
theorem dxA {α : Type} {K : PySem.W.Frag} {H : Hp} {F : V → α → Prop} {d : α → PyData} (h : ∀ v x, F v x → Dx K H v (d x)) : ∀ {vs : List V} {xs : List α}, Paired F vs xs → DxAll K H vs (xs.map d)
  | _, _, .nil => .nil
  | _, _, .cons r t => .cons (h _ _ r) (dxA h t)
section
variable {α β γ : Type} {s : Sh α} {t : Sh β} {u : Sh γ} {d : α → PyData} {e : β → PyData} {f : γ → PyData}
theorem isD_int : ShD sInt PyData.int := ⟨fun h => by cases h; exact .int _, fun h => by cases h; exact .int _⟩
theorem isD_str : ShD sStr PyData.str := ⟨fun h => by cases h; exact .str _, fun h => by cases h; exact .str _⟩
theorem isD_bl : ShD sBl PyData.bool := ⟨fun h => by cases h; exact .bl _, fun h => by cases h; exact .bl _⟩
theorem isD_L (i : ShD s d) : ShD (sL s) fun xs => .list (xs.map d) := ⟨fun ⟨a, vs, e, _, h, p⟩ => by subst e; exact .lst (SqL.of h) (dpA (fun _ _ z => i.dp z) p), fun ⟨a, vs, e, _, h, p⟩ => by subst e; exact .lst (SqL.of h) (dxA (fun _ _ z => i.dx z) p)⟩
theorem isD_T (i : ShD s d) : ShD (sT s) fun xs => .tuple (xs.map d) := ⟨fun ⟨a, vs, e, _, h, p⟩ => by subst e; exact .tup (.inl (.inl h)) (dpA (fun _ _ z => i.dp z) p), fun ⟨a, vs, e, _, h, p⟩ => by subst e; exact .tup (.inl (.inl h)) (dxA (fun _ _ z => i.dx z) p)⟩
theorem isD_P (i : ShD s d) (j : ShD t e) : ShD (sP s t) fun x => .tuple [d x.1, e x.2] := ⟨fun ⟨a, u, w, e, _, h, p, q⟩ => by subst e; exact .tup (.inl (.inl h)) (.cons (i.dp p) (.cons (j.dp q) .nil)), fun ⟨a, u, w, e, _, h, p, q⟩ => by subst e; exact .tup (.inl (.inl h)) (.cons (i.dx p) (.cons (j.dx q) .nil))⟩
theorem isD_LP (i : ShD s d) (j : ShD t e) : ShD (sLP s t) fun x => .list [d x.1, e x.2] := ⟨fun ⟨a, u, w, e, _, h, p, q⟩ => by subst e; exact .lst (SqL.of h) (.cons (i.dp p) (.cons (j.dp q) .nil)), fun ⟨a, u, w, e, _, h, p, q⟩ => by subst e; exact .lst (SqL.of h) (.cons (i.dx p) (.cons (j.dx q) .nil))⟩
theorem isD_3 (i : ShD s d) (j : ShD t e) (l : ShD u f) : ShD (s3 s t u) fun x => .tuple [d x.1, e x.2.1, f x.2.2] := ⟨fun ⟨a, u, w, z, e, _, h, p, q, r⟩ => by subst e; exact .tup (.inl (.inl h)) (.cons (i.dp p) (.cons (j.dp q) (.cons (l.dp r) .nil))), fun ⟨a, u, w, z, e, _, h, p, q, r⟩ => by subst e; exact .tup (.inl (.inl h)) (.cons (i.dx p) (.cons (j.dx q) (.cons (l.dx r) .nil)))⟩
end
/-! ### slices -/
theorem cut_to {xs : List V} (k : Nat) : cutV xs none (some (k : Int)) = xs.take k := by
  unfold cutV
  rw [HT.sIx_none, HT.sIx_nat, List.drop_zero, Nat.sub_zero]
  by_cases h : k ≤ xs.length
  · rw [Nat.min_eq_left h]
  · rw [Nat.min_eq_right (by omega), List.take_of_length_le (Nat.le_refl _), List.take_of_length_le (by omega)]
theorem cut_from {xs : List V} (k : Nat) : cutV xs (some (k : Int)) none = xs.drop k := by
  unfold cutV
  rw [HT.sIx_none, HT.sIx_nat]
  by_cases h : k ≤ xs.length
  · rw [Nat.min_eq_left h, List.take_of_length_le (by rw [List.length_drop]; omega)]
  · rw [Nat.min_eq_right (by omega), Nat.sub_self, List.take_zero, List.drop_of_length_le (by omega)]
/-- xs[:-k] -/
theorem cut_less {xs : List V} (k : Nat) (hk : 0 < k) : cutV xs none (some (-(k : Int))) = xs.take (xs.length - k) := by
  unfold cutV
  rw [HT.sIx_none, List.drop_zero, Nat.sub_zero]
  show xs.take (if -(k : Int) < 0 then (-(k : Int) + (xs.length : Int)).toNat else min (-(k : Int)).toNat xs.length) = _
  rw [if_pos (by omega)]
  congr 1
  omega
/-- xs[-k:] -/
theorem cut_last {xs : List V} (k : Nat) (hk : 0 < k) : cutV xs (some (-(k : Int))) none = xs.drop (xs.length - k) := by
  unfold cutV
  rw [HT.sIx_none]
  show ((xs.drop (if -(k : Int) < 0 then (-(k : Int) + (xs.length : Int)).toNat else min (-(k : Int)).toNat xs.length)).take (xs.length - (if -(k : Int) < 0 then (-(k : Int) + (xs.length : Int)).toNat else min (-(k : Int)).toNat xs.length))) = _
  rw [if_pos (by omega)]
  have e : (-(k : Int) + (xs.length : Int)).toNat = xs.length - k := by omega
  rw [e, List.take_of_length_le (by rw [List.length_drop]; omega)]
end L2

namespace L2
open PySem PySem.Spec PyProof.Rows
end L2

/-! zip(a list, a tuple). -/
namespace L2
open PySem PySem.Spec PyProof.Rows
def Itzn (K : PySem.W.Frag) (a b : Addr) (xs ys : List V) : It :=
  ⟨fun i H => (SqL K H a xs ∧ SqT K H b ys) ∧ i < min xs.length ys.length, fun i H v H' => ∃ T x y, v = .ref T ∧ H T = none ∧ H' = upd H T (.tup [x, y]) ∧ xs[i]? = some x ∧ ys[i]? = some y,
    fun i H => (SqL K H a xs ∧ SqT K H b ys) ∧ min xs.length ys.length ≤ i⟩
theorem turn_zipN {P : Program} {w : World} {K : PySem.W.Frag} {elts : List Expr} {kk : Nat} {tpos : Pos} {a b z TI TO i1 i2 : Addr} {xs ys : List V} (D : ZipSep2 z TI TO i1 i2 [i1, a] [i2, b]) :
    Turn P w K (.Tuple elts kk tpos) (Itzn K a b xs ys) [z, TI, TO, i1, i2] z (fun i h => IsZip h z TI TO .none ∧ IsTupOf2 h TI (.ref i1) (.ref i2) ∧ (∃ x y, IsTupOf2 h TO x y) ∧ h.IsListIter i1 a i ∧ h.IsTupleIter i2 b i ∧ i ≤ xs.length ∧ i ≤ ys.length) where
  mem := by simp
  obj := fun i h st c hc => by
    obtain ⟨hz, hTI, ⟨x, y, hTO⟩, ⟨o1, e1, _, d1⟩, ⟨o2, e2, _, d2⟩, _⟩ := st
    rcases (by simpa using hc : c = z ∨ c = TI ∨ c = TO ∨ c = i1 ∨ c = i2) with q | q | q | q | q
    · rw [q]; exact ⟨_, hz, fun v q => nomatch q⟩
    · rw [q]; exact ⟨_, hTI, fun v q => nomatch q⟩
    · rw [q]; exact ⟨_, hTO, fun v q => nomatch q⟩
    · rw [q]; exact ⟨o1, e1, fun v q => by rw [d1] at q; cases q⟩
    · rw [q]; exact ⟨o2, e2, fun v q => by rw [d2] at q; cases q⟩
  keep := fun i h h' st k => by
    obtain ⟨hz, hTI, ⟨x, y, hTO⟩, h1, h2, l⟩ := st
    exact ⟨k z (by simp) _ hz, k TI (by simp) _ hTI, ⟨x, y, k TO (by simp) _ hTO⟩, h1.at fun o q => k i1 (by simp) o q, h2.at fun o q => k i2 (by simp) o q, l⟩
  item := by
    intro X hP hw hK hc i pins s σ H E I hf st hg
    subst hP hw hK
    obtain ⟨hz, hTI, ⟨x0, y0, hTO⟩, h1, h2, l1, l2⟩ := st
    obtain ⟨⟨hqx, hqy⟩, hi⟩ := hg
    obtain ⟨its, rv, tp, _⟩ := I.list hqx
    obtain ⟨its2, rv2, p2, _⟩ := I.tuple hqy
    have hx : xs[i]? = some (xs[i]'(by omega)) := List.getElem?_eq_getElem _
    have hy : ys[i]? = some (ys[i]'(by omega)) := List.getElem?_eq_getElem _
    obtain ⟨u, hu, ru⟩ := rv.get hx
    obtain ⟨u2, hu2, ru2⟩ := rv2.get hy
    have hzl : z < s.heap.objs.size := Heap.lt_size hz
    have n1 := rv.length
    have n2 := rv2.length
    have hd1 : X.A.in1.handled = none := I.ok.hd hc
    have nea : a ≠ i1 := fun q => by
      obtain ⟨o, ho, hc1, _⟩ := id tp.isList
      obtain ⟨o', ho', hc2, _⟩ := id h1
      rw [q, ho'] at ho; cases ho; rw [hc2] at hc1; exact absurd (Value.type.inj hc1) (by decide)
    have neb : b ≠ i2 := fun q => by
      obtain ⟨o, ho, hc1, _⟩ := id p2
      obtain ⟨o', ho', hc2, _⟩ := id h2
      rw [q, ho'] at ho; cases ho; rw [hc2] at hc1; exact absurd (Value.type.inj hc1) (by decide)
    refine wpAny_pyNext_zipD2_item D (Draws.list hd1 i1 a nea its.toArray) (Draws.tuple hd1 i2 b neb its2.toArray) hz hTI hTO ⟨h1, tp.isList⟩ ⟨h2, p2⟩ (by simp; omega) (by simp; omega) fun v1 v2 h' tk e1 e2 z' TO' s1 s2 hT hsz hk => ?_
    have w1 : v1 = u := by rw [show its.toArray[i]? = some u by simpa using hu] at e1; exact (Option.some.inj e1).symm
    have w2 : v2 = u2 := by rw [show its2.toArray[i]? = some u2 by simpa using hu2] at e2; exact (Option.some.inj e2).symm
    subst w1 w2
    refine ⟨_, rfl, wpAny_letOwnedTupleGo_zip (s := { s with heap := h', toks := tk }) z' fun h'' z'' sb => ?_⟩
    have hT2 : h''.get? s.heap.objs.size = some { cls := .type "tuple", data := .seq #[v1, v2] } := (sb.2 _ (Nat.ne_of_gt hzl)).trans hT
    have new : ObjOk X.prog X.w (upd H s.heap.objs.size (.tup [xs[i]'(by omega), ys[i]'(by omega)])) h'' s.heap.objs.size (.tup [xs[i]'(by omega), ys[i]'(by omega)]) :=
      ⟨by show 2 ≤ sizeLine; decide, [v1, v2], .cons ru (.cons ru2 .nil), ⟨_, hT2, rfl, _, rfl⟩⟩
    have kk5 : ∀ c o, c ∉ [z, TI, TO, i1, i2] → s.heap.get? c = some o → h''.get? c = some o := fun c o hb q => (sb.2 c (fun q' => hb (by simp [q']))).trans (hk c o (fun q' => hb (by simp [q'])) (fun q' => hb (by simp [q'])) (fun q' => hb (by simp [q'])) (fun q' => hb (by simp [q'])) q)
    have I1 : Inv X pins σ (upd H s.heap.objs.size (.tup [xs[i]'(by omega), ys[i]'(by omega)])) { s with heap := h'', toks := tk } := I.turnedNew (t' := tk) (ch := [z, TI, TO, i1, i2]) kk5 hf (Nat.le_refl _) new
    have fz : ∀ c ∈ [z, TI, TO, i1, i2], upd H s.heap.objs.size (.tup [xs[i]'(by omega), ys[i]'(by omega)]) c = none := fun c hcm => by
      have hlt : c < s.heap.objs.size := by
        rcases (by simpa using hcm : c = z ∨ c = TI ∨ c = TO ∨ c = i1 ∨ c = i2) with q | q | q | q | q
        · rw [q]; exact hzl
        · rw [q]; exact Heap.lt_size hTI
        · rw [q]; exact Heap.lt_size hTO
        · rw [q]; obtain ⟨_, e1, _⟩ := h1; exact Heap.lt_size e1
        · rw [q]; obtain ⟨_, e2, _⟩ := h2; exact Heap.lt_size e2
      rw [upd_ne (Nat.ne_of_lt hlt)]
      exact (hf c hcm).1
    have tI : h''.get? TI = some { cls := .type "tuple", data := .seq #[.ref i1, .ref i2] } := (sb.2 _ D.TIz).trans (hk _ _ D.TIz D.TITO D.TIi1 D.TIi2 hTI)
    have nn : i + 1 ≤ xs.length ∧ i + 1 ≤ ys.length := by omega
    exact ⟨.ref s.heap.objs.size, _, I1, rfl, ⟨_, _, _, rfl, I.hok.fresh (Nat.le_refl _), rfl, hx, hy⟩, ⟨z'', tI, ⟨_, _, (sb.2 _ D.TOz).trans TO'⟩, s1.1.at fun o q => (sb.2 _ D.zi1.symm).trans q, s2.1.at fun o q => (sb.2 _ D.zi2.symm).trans q, nn⟩, fz⟩
  done := by
    intro X hP hw hK hc i pins s σ H E I hf st hg
    subst hP hw hK
    obtain ⟨hz, hTI, ⟨x0, y0, hTO⟩, h1, h2, l1, l2⟩ := st
    obtain ⟨⟨hqx, hqy⟩, hi⟩ := hg
    obtain ⟨its, rv, tp, _⟩ := I.list hqx
    obtain ⟨its2, rv2, p2, _⟩ := I.tuple hqy
    have n1 := rv.length
    have n2 := rv2.length
    have hd1 : X.A.in1.handled = none := I.ok.hd hc
    have nea : a ≠ i1 := fun q => by
      obtain ⟨o, ho, hc1, _⟩ := id tp.isList
      obtain ⟨o', ho', hc2, _⟩ := id h1
      rw [q, ho'] at ho; cases ho; rw [hc2] at hc1; exact absurd (Value.type.inj hc1) (by decide)
    have neb : b ≠ i2 := fun q => by
      obtain ⟨o, ho, hc1, _⟩ := id p2
      obtain ⟨o', ho', hc2, _⟩ := id h2
      rw [q, ho'] at ho; cases ho; rw [hc2] at hc1; exact absurd (Value.type.inj hc1) (by decide)
    exact wpAny_pyNext_zipD2_end D (Draws.list hd1 i1 a nea its.toArray) (Draws.tuple hd1 i2 b neb its2.toArray) hz hTI hTO ⟨h1, tp.isList⟩ ⟨h2, p2⟩ (by simp; omega) (by simp; omega) (by simp; omega) fun h' tk hk => ⟨rfl, I.turnedL (t' := tk) (ch := [z, TI, TO, i1, i2]) (fun c o hb q =>
      hk c o (fun q' => hb (by simp [q'])) (fun q' => hb (by simp [q'])) (fun q' => hb (by simp [q'])) (fun q' => hb (by simp [q'])) q) hf⟩
  self := fun A i s Q E st h => wpAny_pyIter_zip st.1 h
def iZipN (K : PySem.W.Frag) (ta : TA) : TI := fun σ H R => ta σ H fun vs H1 => ∃ a b xs ys, vs = [.ref a, .ref b] ∧ SqL K H1 a xs ∧ SqT K H1 b ys ∧ R (Itzn K a b xs ys) H1
theorem pi_zipN {X : Cx} {e e2 : Expr} {ta : TA} {p pos tpos : Pos} {elts : List Expr} {kk : Nat} (hg : Gl X "zip") (hm : X.mg "zip" = none) (ha : PA X [e, e2] ta)
    (hs : starEach [e, e2] X.env = (false, eval e X.env) :: starEach [e2] X.env := by rfl) (hpl : (backTo pos (starEach [e2] X.env)).any (·.1) = false := by rfl) :
    PI X (.Tuple elts kk tpos) (.Call (.Name "zip" p) [e, e2] [] pos) (iZipN X.K ta) := by
  refine ⟨fun pins s σ H R I h => ?_⟩
  refine Call_ (ld_blt I hg hm PyProof.Rows.boot_zip (PyProof.Rows.callWith_type1 (thn (ha.run pos pins s σ H _ I h) fun us s1 ⟨vs, H1, I1, r1, a, b, xs, ys, ex, hqx, hqy, q⟩ => ?_) hs hpl))
  subst ex
  cases r1 with
  | cons r rr =>
    cases rr with
    | cons r' rr =>
      cases rr
      cases r
      cases r'
      obtain ⟨its, rv, tp, _⟩ := I1.list hqx
      obtain ⟨its2, rv2, p2, _⟩ := I1.tuple hqy
      have la : a < s1.heap.objs.size := tp.lt
      have lb : b < s1.heap.objs.size := p2.lt
      refine zip_begins2 (begins_list a its.toArray) (begins_tuple b its2.toArray) tp.isList p2 fun h' hz hTI hTO h1 h2 hsz hk => wpAny_pyIter_zip hz ?_
      have I2 : Inv X pins σ H1 { s1 with heap := h' } := I1.kept (t' := s1.toks) hk
      refine ⟨s1.heap.objs.size + 4, [s1.heap.objs.size + 4, s1.heap.objs.size + 2, s1.heap.objs.size + 3, s1.heap.objs.size, s1.heap.objs.size + 1], _, _, H1, rfl, I2, turn_zipN ?_, ⟨hz, hTI, ⟨_, _, hTO⟩, ⟨_, h1, rfl, rfl⟩, ⟨_, h2, rfl, rfl⟩, Nat.zero_le _, Nat.zero_le _⟩, fun c hcm => ?_, q⟩
      · have A : ∀ k : Nat, s1.heap.objs.size + k ≠ a := fun k => Nat.ne_of_gt (Nat.lt_of_lt_of_le la (Nat.le_add_right _ _))
        have B : ∀ k : Nat, s1.heap.objs.size + k ≠ b := fun k => Nat.ne_of_gt (Nat.lt_of_lt_of_le lb (Nat.le_add_right _ _))
        have C : ∀ j k : Nat, j ≠ k → s1.heap.objs.size + j ≠ s1.heap.objs.size + k := fun j k hjk z => hjk (Nat.add_left_cancel z)
        have N2 : ∀ {x y c : Nat}, c ≠ x → c ≠ y → c ∉ [x, y] := fun h1 h2 hm => by
          rcases List.mem_cons.mp hm with q | q
          · exact h1 q
          · exact h2 (List.mem_singleton.mp q)
        exact ⟨C 2 4 (by decide), C 3 4 (by decide), C 2 3 (by decide), C 2 0 (by decide), List.mem_cons_self, N2 (C 4 0 (by decide)) (A 4), N2 (C 3 0 (by decide)) (A 3), C 2 1 (by decide), List.mem_cons_self, N2 (C 4 1 (by decide)) (B 4), N2 (C 3 1 (by decide)) (B 3), N2 (C 0 1 (by decide)) (B 0), N2 (C 1 0 (by decide)) (A 1)⟩
      · have hle : s1.heap.objs.size ≤ c := by
          rcases (by simpa using hcm : c = s1.heap.objs.size + 4 ∨ c = s1.heap.objs.size + 2 ∨ c = s1.heap.objs.size + 3 ∨ c = s1.heap.objs.size ∨ c = s1.heap.objs.size + 1) with z | z | z | z | z <;> rw [z] <;> first | exact Nat.le_refl _ | exact Nat.le_add_right _ _
        exact I1.fpOk hle (I1.hok.fresh hle)
theorem walk_zipN {K : PySem.W.Frag} {a b : Addr} {xs ys : List V} : Walk (Itzn K a b xs ys) (min xs.length ys.length) (fun H => SqL K H a xs ∧ SqT K H b ys) (YPair (fun i => xs[i]?) fun i => ys[i]?) :=
  ⟨fun i _ hi q => ⟨q, hi⟩, fun _ q => ⟨q, Nat.le_refl _⟩, fun _ _ _ _ _ _ y => by obtain ⟨T, x, z, h⟩ := y; exact ⟨T, x, z, h⟩⟩
end L2

/-! d == e of two dicts whose values are data -/
namespace L2
open PySem PySem.Spec PyProof.Rows
section
variable {X : Cx}
def rEqK (K : PySem.W.Frag) : R2 := fun x y H Q => ∃ (a b : Addr) (ka kb : List (Key × V)) (f : Key → Bool), x = .ref a ∧ y = .ref b ∧ H a = some (.dK ka) ∧ H b = some (.dK kb) ∧
  (∀ k v u, (k, v) ∈ ka → valV kb k = some u → ∃ d e, Dp K H v d ∧ Dp K H u e ∧ SeqAt.shaped d = true ∧ SeqAt.shaped e = true ∧ f k = PyData.eqv d e) ∧
  Q (.bl (ka.length == kb.length && ka.all fun p => (valV kb p.1).isSome && f p.1)) H
theorem kv_mem {kvs : List (Key × V)} {vs : List (Key × Value)} (r : KV kvs vs) {k : Key} {v : Value} (h : (k, v) ∈ vs) : ∃ u, (k, u) ∈ kvs ∧ RelV u v := by
  unfold KV at r
  induction r with
  | nil => cases h
  | @cons p q ps qs h1 t ih =>
    rcases List.mem_cons.mp h with e | h
    · subst e
      obtain ⟨e1, e2⟩ := h1
      have e1' : p.1 = k := e1
      exact ⟨p.2, by rw [← e1']; exact List.mem_cons_self, e2⟩
    · obtain ⟨u, hu, ru⟩ := ih h
      exact ⟨u, List.mem_cons_of_mem _ hu, ru⟩
theorem kv_all {kvs : List (Key × V)} {vs : List (Key × Value)} (r : KV kvs vs) (g : Key → Bool) : (vs.all fun p => g p.1) = kvs.all fun p => g p.1 := by
  unfold KV at r
  induction r with
  | nil => rfl
  | cons h t ih => rw [List.all_cons, List.all_cons, ih, h.1]
theorem op_eqK (hu : X.A.units + 65 < cLine) : OpR X (compareOp .Eq) (rEqK X.K) := by
  intro pins s σ H x y v u Q I rx ry h
  obtain ⟨a, b, ka, kb, f, rfl, rfl, ha, hb, hk, q⟩ := h
  obtain rfl : v = Value.ref a := rx
  obtain rfl : u = Value.ref b := ry
  obtain ⟨_, za, va, ra, da⟩ := dk_of I.hok ha
  obtain ⟨_, zb, vb, rb, db⟩ := dk_of I.hok hb
  refine PySem.W.eq_dictsT (n := 64) za zb da db (e := f) (fun k v y hm hv => ?_) (by omega) ?_
  · obtain ⟨v', hv', rv⟩ := kv_mem ra hm
    have rel := rb.val k
    rw [hv] at rel
    cases e : valV kb k with
    | none => rw [e] at rel; cases rel
    | some y' =>
      rw [e] at rel
      have ry : RelV y' y := rel
      obtain ⟨d, e2, h1, h2, s1, s2, ef⟩ := hk k v' y' hv' e
      rw [ef]
      obtain ⟨as, r1⟩ := Dp.reads I d v' v h1 rv
      obtain ⟨bs, r2⟩ := Dp.reads I e2 y' y h2 ry
      refine .leaf fun A hA => SeqAt.eqAt_reads d e2 A s v y as bs r1 r2 (SeqAt.canLay_of_shaped s1) (SeqAt.canLay_of_shaped s2) ?_
      have h64 : d.depth ≤ 64 := by
        have z : (d.canLay0 && decide (d.depth ≤ 64)) = true := s1
        rw [Bool.and_eq_true] at z
        exact of_decide_eq_true z.2
      omega
  · refine ⟨.bl _, H, I, rfl, ?_⟩
    have e1 : va.length = ka.length := ra.length.symm
    have e2 : vb.length = kb.length := rb.length.symm
    have e3 : (va.all fun p => (valueAt vb p.1).isSome && f p.1) = ka.all fun p => (valV kb p.1).isSome && f p.1 := by
      rw [kv_all ra fun k => (valueAt vb k).isSome && f k]
      refine congrArg (fun g : Key × V → Bool => ka.all g) (funext fun p => ?_)
      rw [← (rb.val p.1).isSome_eq]
    rw [e1, e2, e3]
    exact q
end
end L2

/-! min(xs), xs a list of pairs of ints: the first of the least, as it stands -/
namespace L2
open PySem PySem.Spec PyProof.Rows
open PySem.W (dataLt minD AlikeAll dataLt_tuple dataLt_int dataLt_all_yes dataLt_all_no readsAll_at min_list_data alike)
def ltP (p q : Int × Int) : Bool := if p.1 = q.1 then decide (p.2 < q.2) else decide (p.1 < q.1)
def minP (q : Int × Int) (qs : List (Int × Int)) : Int × Int := qs.foldl (fun a y => if ltP y a then y else a) q
def pairD (p : Int × Int) : PyData := .tuple [.int p.1, .int p.2]
theorem lt_pairD (p q : Int × Int) : dataLt (pairD p) (pairD q) = ltP p q := by
  unfold pairD ltP
  rw [dataLt_tuple]
  have ee : ∀ a b : Int, PyData.eqv (.int a) (.int b) = decide (a = b) := fun a b => rfl
  by_cases h : p.1 = q.1
  · rw [if_pos h, dataLt_all_yes rfl (by rw [ee, h]; simp)]
    by_cases h2 : p.2 = q.2
    · rw [dataLt_all_yes rfl (by rw [ee, h2]; simp), h2]
      simp
      decide
    · rw [dataLt_all_no rfl (by rw [ee]; simpa using h2), dataLt_int]
  · rw [if_neg h, dataLt_all_no rfl (by rw [ee]; simpa using h), dataLt_int]
theorem min_pairD (q : Int × Int) (qs : List (Int × Int)) : minD (pairD q) (qs.map pairD) = pairD (minP q qs) := by
  unfold minD minP
  induction qs generalizing q with
  | nil => rfl
  | cons y r ih =>
    rw [List.map_cons, List.foldl_cons, List.foldl_cons, ← ih, lt_pairD]
    by_cases h : ltP y q = true
    · rw [if_pos h, if_pos h]
    · rw [if_neg h, if_neg h]
theorem pairD_inj {p q : Int × Int} (h : pairD p = pairD q) : p = q := by
  unfold pairD at h
  injection h with h
  injection h with h1 h2
  injection h1 with h1
  injection h2 with h2
  injection h2 with h2
  exact Prod.ext h1 h2
theorem alike_pairs (qs : List (Int × Int)) : AlikeAll (qs.map pairD) := by
  refine ⟨fun x hx y hy => ?_, fun x hx => ?_⟩
  · obtain ⟨p, _, rfl⟩ := List.mem_map.mp hx
    obtain ⟨q, _, rfl⟩ := List.mem_map.mp hy
    rfl
  · obtain ⟨p, _, rfl⟩ := List.mem_map.mp hx
    intro h; cases h
theorem depth_pairs : ∀ qs : List (Int × Int), PyData.depthAll (qs.map pairD) ≤ 4
  | [] => by decide
  | q :: qs => by
    rw [List.map_cons]
    refine Nat.max_le.mpr ⟨?_, depth_pairs qs⟩
    show PyData.depth (.tuple [.int q.1, .int q.2]) ≤ 4
    simp [PyData.depth, PyData.depthAll]
section
variable {X : Cx}
def isPI (K : PySem.W.Frag) (H : Hp) (v : V) (p : Int × Int) : Prop := ∃ t, v = .ref t ∧ SqT K H t [.int p.1, .int p.2]
def rMinP (K : PySem.W.Frag) : List V → Hp → VK → Prop := fun vs H Q => ∃ (a : Addr) (xs : List V) (q : Int × Int) (qs : List (Int × Int)), vs = [.ref a] ∧ SqL K H a xs ∧ Paired (isPI K H) xs (q :: qs) ∧
  ∀ (i : Nat) (x : V), xs[i]? = some x → (q :: qs)[i]? = some (minP q qs) → Q x H
theorem dpAll_pairs {K : PySem.W.Frag} {H : Hp} {xs : List V} {qs : List (Int × Int)} (h : Paired (isPI K H) xs qs) : DpAll K H xs (qs.map pairD) := by
  induction h with
  | nil => exact .nil
  | cons h t ih =>
    obtain ⟨t, rfl, ht⟩ := h
    exact .cons (.tup ht (.cons (.int _) (.cons (.int _) .nil))) ih
theorem cr_minP (hc : X.calm = true) (hu : X.A.units + 65 < cLine) : CallR X (.builtin "min") (rMinP X.K) := by
  intro pins s σ H vs us Q I r h
  obtain ⟨a, xs, q, qs, rfl, hs, pd, k⟩ := h
  obtain ⟨its, rv, hl, _⟩ := I.list hs
  rw [Vals.ref1 r]
  have dd := dpAll_pairs pd
  obtain ⟨as, hr⟩ := Dp.readsAll I _ xs its dd rv
  rw [List.map_cons] at hr
  have hd := depth_pairs (q :: qs)
  rw [List.map_cons] at hd
  have al := alike_pairs (q :: qs)
  rw [List.map_cons] at al
  refine min_list_data (I.ok.hd hc) hl.isList hr al (by omega) fun i v h' tk bs hv rd hk => ?_
  have hv' : its[i]? = some v := by simpa using hv
  have lx : xs.length = its.length := rv.length
  have li : i < its.length := (List.getElem?_eq_some_iff.mp hv').1
  obtain ⟨u, hu2, ru⟩ := rv.get (List.getElem?_eq_getElem (show i < xs.length by omega))
  rw [hv'] at hu2
  cases hu2
  refine ⟨_, H, I.kept hk, ru, k i _ (List.getElem?_eq_getElem (by omega)) ?_⟩
  obtain ⟨bs2, r2, lt, _, _⟩ := readsAll_at hr i v hv'
  have e1 := (PyProof.Rows.reads_det (fun b o e _ => hk b o e) r2 rd).1
  rw [min_pairD] at e1
  rw [← List.map_cons, List.length_map] at lt
  rw [← List.map_cons, List.getD_eq_getElem?_getD, List.getElem?_map, List.getElem?_eq_getElem lt] at e1
  rw [List.getElem?_eq_getElem lt, pairD_inj e1]
end
end L2

/-! name = {k: v for ..} on one line, the name a local -/
namespace L2
open PySem PySem.Spec PyProof.Rows
section
variable {X : Cx}
theorem ps_setDc {i : Nat} {y : Str} {py : Pos} {kx vx tg iter : Expr} {ifs : List Expr} {scope : Scope} {own : List (Str × Nat)} {pos spos : Pos} {wi : TI} {g : TG} {tt : TT} {tk tv : TE} (hc : X.calm = true) (hN : X.N.Nodup) (hy : X.N[i]? = some y) (hyl : X.env.scope.names.lookup y = some .local)
    (hsw : swapsWith (.DictComp kx vx [⟨tg, iter, ifs, 0⟩] scope pos) (some (.Name y py)) spos.line X.env = pure true) (hi : PI X tg iter wi) (ok : BlkOk X.N X.env.scope scope own)
    (hg : ∀ (s : Shared) (H : Hp) (C : Addr) (cl : List (Str × Addr)) (fp : List Addr), PG (X.blk s H scope (compEnvC scope cl C X.env) fp) tg g) (ht : ∀ (s : Shared) (H : Hp) (C : Addr) (cl : List (Str × Addr)) (fp : List Addr), PTs (X.blk s H scope (compEnvC scope cl C X.env) fp) ifs tt)
    (hk : ∀ (s : Shared) (H : Hp) (C : Addr) (cl : List (Str × Addr)) (fp : List Addr), PE (X.blk s H scope (compEnvC scope cl C X.env) fp) kx tk)
    (he : ∀ (s : Shared) (H : Hp) (C : Addr) (cl : List (Str × Addr)) (fp : List Addr), PE (X.blk s H scope (compEnvC scope cl C X.env) fp) vx tv) (hs : ∀ x, foldedSetIterable iter X.env x = pure x := by intro _; rfl) :
    PS X (.Assign [.Name y py] (.DictComp kx vx [⟨tg, iter, ifs, 0⟩] scope pos) spos) (tAsg (tDc wi g tt tk tv (own.map (·.2))) (gName i)) := by
  refine ⟨fun pins s σ H D I h => ?_⟩
  rw [exec_Assign_Name_used _ _ _ _ hsw]
  refine wpAny_bind (wpAny_standAt (wpAny_bind ?_))
  show wpAny _ X.A (do let _ ← comprehension (.DictComp kx vx [⟨tg, iter, ifs, 0⟩] scope pos) scope X.env (firstIterPos [⟨tg, iter, ifs, 0⟩] pos) newDict false (eval iter X.env) (some (assign (.Name y py) X.env))) _ _ s
  have h : tDc wi g tt tk tv (own.map (·.2)) σ H (fun x H1 => gName i x σ H1 D.nx) := h
  refine wpAny_bind (thn (dc_core (Qf := fun _ s' => SP X pins D .next s') hc hN I hi ok hg ht hk he hs h fun L C s' m H' I' q hn f => ?_) fun _ s' hq => wpAny_pure (wpAny_pure hq))
  show wpAny _ _ (assign (.Name y py) X.env (.ref L)) _ _ _
  refine wpAny_assign_Name (store_ok2 (v := V.ref L) I' hN hy (.inl hyl) rfl (fun s2 I2 ⟨a, sb, ha⟩ => ?_) (.inr hyl))
  obtain ⟨f0, f1, f2, f3, f4, f5⟩ := f
  have haC : C ≠ a := by
    rcases ha with z | z
    · rw [z]; exact f1
    · exact fun e => f4 y a z e.symm
  refine ⟨m, hn.sameBut sb haC, fun h3 sb3 => ?_⟩
  exact ⟨_, H', I2.turned (t' := s2.toks) (fun b o hb e => (sb3.2 b hb).trans e) f0 f1 f3 f4 f5, q⟩
theorem swD_true {kx vx : Expr} {gs : List Comprehension} {scope : Scope} {pos py : Pos} {y : Str} {l : Nat} {env : Env} (hk : env.scope.kind = .function) (hy : env.scope.names.lookup y = some .local) (hl : (py.line == pos.line) = true)
    (ha : (scope.names.any fun (n, k) => n == y && (k == .local || k == .cell)) = false) : swapsWith (.DictComp kx vx gs scope pos) (some (.Name y py)) l env = pure true := by
  have ky : env.kindOf y = some .local := hy
  have hb : env.blockKind = .function := by unfold Env.blockKind; rw [hk]; rfl
  unfold swapsWith
  simp only [hb, ky, ha, Expr.pos, hl]
  rfl
end
end L2

/-! list(zip(a list, a tuple)): a new list of new tuples -/
namespace L2
open PySem PySem.Spec PyProof.Rows
section
variable {prog : Program} {w : World} {A : Around} {E : Value → Shared → Prop} {s : Shared} {z TI TO i1 i2 a b d : Addr} {xs ys : Array Value} {i : Nat}
theorem lz_item {Q : Option Value → Shared → Prop} (D : ZipSep2 z TI TO i1 i2 [i1, a] [i2, b]) (nea : a ≠ i1) (neb : b ≠ i2) (hA : A.handled = none) (hi : i < min xs.size ys.size) (st : DzSt z TI TO i1 i2 a b xs ys d i s.heap) (hds : d < s.heap.objs.size)
    (hQ : ∀ v1 v2 h' tk, xs[i]? = some v1 → ys[i]? = some v2 → IsTupOf2 h' s.heap.objs.size v1 v2 → DzSt z TI TO i1 i2 a b xs ys d (i + 1) h' → (∀ c o, c ∉ [z, TO, i1, i2] → s.heap.get? c = some o → h'.get? c = some o) → Q (some (.ref s.heap.objs.size)) { s with heap := h', toks := tk }) :
    wpAny (model prog w) A (pyNext (.ref z)) Q E s := by
  obtain ⟨hTI, h1, h2, hz⟩ := st
  have hA1 : A.in1.handled = none := hA
  have lx : i < xs.size := Nat.lt_of_lt_of_le hi (Nat.min_le_left ..)
  have ly : i < ys.size := Nat.lt_of_lt_of_le hi (Nat.min_le_right ..)
  have gt : ∀ {c o}, s.heap.get? c = some o → s.heap.objs.size ≠ c := fun e => Nat.ne_of_gt (Heap.lt_size e)
  have n1 : s.heap.objs.size ≠ i1 := let ⟨_, e, _⟩ := h1.1; gt e
  have n2 : s.heap.objs.size ≠ i2 := let ⟨_, e, _⟩ := h2.1; gt e
  rcases hz with ⟨hz, u, v, hTO⟩ | ⟨T, f, oT, hz, hT, r1, r2, r3, r4⟩
  · refine wpAny_pyNext_zipD2_item D (Draws.list hA1 i1 a nea xs) (Draws.tuple hA1 i2 b neb ys) hz hTI hTO h1 h2 lx ly fun v1 v2 h' tk e1 e2 z' TO' t1 t2 hT hsz hk => ?_
    exact hQ v1 v2 h' tk e1 e2 hT ⟨hk _ _ D.TIz D.TITO D.TIi1 D.TIi2 hTI, t1, t2, .inr ⟨s.heap.objs.size, false, _, z', hT, gt hz, n1, n2, Nat.ne_of_gt hds⟩⟩
      fun c o hc e => hk c o (fun x => hc (by simp [x])) (fun x => hc (by simp [x])) (fun x => hc (by simp [x])) (fun x => hc (by simp [x])) e
  · refine dzn_item D (Draws.list hA1 i1 a nea xs) (Draws.tuple hA1 i2 b neb ys) hz hT hTI h1 h2 lx ly fun v1 v2 h' tk e1 e2 z' t1 t2 hT2 hk => ?_
    exact hQ v1 v2 h' tk e1 e2 hT2 ⟨hk _ _ D.TIz D.TIi1 D.TIi2 hTI, t1, t2, .inr ⟨T, true, oT, z', hk _ _ r1 r2 r3 hT, r1, r2, r3, r4⟩⟩
      fun c o hc e => hk c o (fun x => hc (by simp [x])) (fun x => hc (by simp [x])) (fun x => hc (by simp [x])) e
theorem lz_done {Q : Option Value → Shared → Prop} (D : ZipSep2 z TI TO i1 i2 [i1, a] [i2, b]) (nea : a ≠ i1) (neb : b ≠ i2) (hA : A.handled = none) (st : DzSt z TI TO i1 i2 a b xs ys d (min xs.size ys.size) s.heap)
    (hQ : ∀ h' tk, (∀ c o, c ∉ [z, TO, i1, i2] → s.heap.get? c = some o → h'.get? c = some o) → Q none { s with heap := h', toks := tk }) :
    wpAny (model prog w) A (pyNext (.ref z)) Q E s := by
  obtain ⟨hTI, h1, h2, hz⟩ := st
  have hA1 : A.in1.handled = none := hA
  have le : min xs.size ys.size = xs.size ∨ min xs.size ys.size = ys.size := by omega
  rcases hz with ⟨hz, u, v, hTO⟩ | ⟨T, f, oT, hz, hT, r1, r2, r3, r4⟩
  · exact wpAny_pyNext_zipD2_end D (Draws.list hA1 i1 a nea xs) (Draws.tuple hA1 i2 b neb ys) hz hTI hTO h1 h2 (by omega) (by omega) le fun h' tk hk => hQ h' tk fun c o hc e =>
      hk c o (fun x => hc (by simp [x])) (fun x => hc (by simp [x])) (fun x => hc (by simp [x])) (fun x => hc (by simp [x])) e
  · exact dzn_end D (Draws.list hA1 i1 a nea xs) (Draws.tuple hA1 i2 b neb ys) hz hT hTI h1 h2 (by omega) (by omega) le fun h' tk hk => hQ h' tk fun c o hc e => hk c o (fun x => hc (by simp [x])) (fun x => hc (by simp [x])) (fun x => hc (by simp [x])) e
theorem DzSt.frame {h h' : Heap} (D : ZipSep2 z TI TO i1 i2 [i1, a] [i2, b]) (off : d ∉ [z, TI, TO, i1, i2, a, b]) (st : DzSt z TI TO i1 i2 a b xs ys d i h) (hk : ∀ c o, c ≠ d → h.get? c = some o → h'.get? c = some o) : DzSt z TI TO i1 i2 a b xs ys d i h' := by
  simp only [List.mem_cons, List.not_mem_nil, or_false, not_or] at off
  obtain ⟨dz, dTI, dTO, di1, di2, da, db⟩ := off
  obtain ⟨hTI, ⟨h1, hl1⟩, ⟨h2, hl2⟩, hz⟩ := st
  refine ⟨hk _ _ (Ne.symm dTI) hTI, ⟨h1.at fun o e => hk _ o (Ne.symm di1) e, hl1.at fun o e => hk _ o (Ne.symm da) e⟩, ⟨h2.at fun o e => hk _ o (Ne.symm di2) e, hl2.at fun o e => hk _ o (Ne.symm db) e⟩, ?_⟩
  rcases hz with ⟨hz, u, v, hTO⟩ | ⟨T, f, oT, hz, hT, r1, r2, r3, r4⟩
  · exact .inl ⟨hk _ _ (Ne.symm dz) hz, u, v, hk _ _ (Ne.symm dTO) hTO⟩
  · exact .inr ⟨T, f, oT, hk _ _ (Ne.symm dz) hz, hk _ _ r4 hT, r1, r2, r3, r4⟩
/-- the tuples made so far -/
def LzAt (base : Nat) (xs ys : Array Value) (h : Heap) (ts : List Addr) : Prop :=
  ts.Pairwise (fun (a b : Nat) => a < b) ∧ ∀ (j : Nat) (T : Addr), ts[j]? = some T → base ≤ T ∧ ∃ x y, xs[j]? = some x ∧ ys[j]? = some y ∧ IsTupOf2 h T x y
theorem LzAt.keep {base : Nat} {h h' : Heap} {ts : List Addr} (l : LzAt base xs ys h ts) (k : ∀ c o, base ≤ c → h.get? c = some o → h'.get? c = some o) : LzAt base xs ys h' ts :=
  ⟨l.1, fun j T e => by obtain ⟨b, x, y, e1, e2, t⟩ := l.2 j T e; exact ⟨b, x, y, e1, e2, k _ _ b t⟩⟩
theorem LzAt.snoc {base : Nat} {h : Heap} {ts : List Addr} {T : Addr} {x y : Value} (l : LzAt base xs ys h ts) (lt : ∀ t ∈ ts, (t : Nat) < T) (hb : base ≤ T) (e1 : xs[ts.length]? = some x) (e2 : ys[ts.length]? = some y) (t : IsTupOf2 h T x y) : LzAt base xs ys h (ts ++ [T]) := by
  refine ⟨List.pairwise_append.mpr ⟨l.1, List.pairwise_singleton _ _, fun a ha b hb => by rw [List.mem_singleton.mp hb]; exact lt a ha⟩, fun j U e => ?_⟩
  rcases Nat.lt_or_ge j ts.length with hj | hj
  · rw [List.getElem?_append_left hj] at e
    exact l.2 j U e
  · rw [List.getElem?_append_right hj] at e
    have : j - ts.length = 0 := by
      rcases Nat.eq_zero_or_pos (j - ts.length) with z | z
      · exact z
      · rw [List.getElem?_eq_none (by simp; omega)] at e; cases e
    have ej : j = ts.length := by omega
    rw [this] at e
    cases e
    subst ej
    exact ⟨hb, x, y, e1, e2, t⟩
theorem lz_loop {R : Result → Shared → Prop} {base : Nat} {S : Addr} (D : ZipSep2 z TI TO i1 i2 [i1, a] [i2, b]) (nea : a ≠ i1) (neb : b ≠ i2) (hA : A.handled = none) (off : S ∉ [z, TI, TO, i1, i2, a, b]) (hb : z < base ∧ TO < base ∧ i1 < base ∧ i2 < base ∧ S < base) (hn : min xs.size ys.size ≤ sizeLine) (res : Value) :
    ∀ (k i : Nat) (s : Shared) (ts : List Addr) (c : Nat), min xs.size ys.size - i = k → i ≤ min xs.size ys.size → DzSt z TI TO i1 i2 a b xs ys S i s.heap → s.heap.get? S = some { cls := .type "list", dict := none, data := .seq (ts.map Value.ref).toArray c, slots := #[] } → ts.length = i → LzAt base xs ys s.heap ts → base ≤ s.heap.objs.size →
    (∀ h' tk ts' c', (∀ c o, c ∉ [S, z, TO, i1, i2] → s.heap.get? c = some o → h'.get? c = some o) → h'.get? S = some { cls := .type "list", dict := none, data := .seq (ts'.map Value.ref).toArray c', slots := #[] } → ts'.length = min xs.size ys.size → LzAt base xs ys h' ts' → R (.ok (.ret res)) { s with heap := h', toks := tk }) →
    codeAny (model prog w) A (.builtin "list.extend.loop" ⟨[.ref S, .ref z, res], []⟩) R s := by
  have hA1 : A.in1.handled = none := hA
  have offS : S ∉ [z, TO, i1, i2] := fun h => off (by simp at h ⊢; rcases h with h | h | h | h <;> simp [h])
  have bw : ∀ c : Addr, base ≤ c → c ∉ [z, TO, i1, i2] := fun c hc h => by
    rcases (by simpa using h : c = z ∨ c = TO ∨ c = i1 ∨ c = i2) with e | e | e | e <;> rw [e] at hc
    · exact Nat.not_le.mpr hb.1 hc
    · exact Nat.not_le.mpr hb.2.1 hc
    · exact Nat.not_le.mpr hb.2.2.1 hc
    · exact Nat.not_le.mpr hb.2.2.2.1 hc
  intro k
  induction k with
  | zero =>
    intro i s ts c hk hi hst hS hlen hL hbs hR
    have hin : i = min xs.size ys.size := by omega
    subst hin
    refine codeAny_builtin F.entry_extend_loop ?_
    rw [Around.under_plainId F.plain_extend_loop _]
    show wpAny _ A.in1 (pyNext (.ref z) >>= _) _ _ s
    refine wpAny_bind (lz_done D nea neb hA1 hst fun h' tk hk => ?_)
    exact wpAny_pure (hR h' tk ts c (fun x o hx e => hk x o (fun m => hx (List.mem_cons_of_mem _ m)) e) (hk S _ offS hS) hlen (hL.keep fun x o hx e => hk x o (bw x hx) e))
  | succ k ih =>
    intro i s ts c hk hi hst hS hlen hL hbs hR
    have hlt : i < min xs.size ys.size := by omega
    refine codeAny_builtin F.entry_extend_loop ?_
    rw [Around.under_plainId F.plain_extend_loop _]
    show wpAny _ A.in1 (pyNext (.ref z) >>= _) _ _ s
    refine wpAny_bind (lz_item D nea neb hA1 hlt hst (Heap.lt_size hS) fun v1 v2 h' tk e1 e2 hT hst' hk' => ?_)
    have hS' := hk' S _ offS hS
    have neS : S ≠ s.heap.objs.size := Nat.ne_of_lt (Heap.lt_size hS)
    have lts : ∀ t ∈ ts, t < s.heap.objs.size := fun t ht => by
      obtain ⟨j, hj⟩ := List.getElem?_of_mem ht
      obtain ⟨_, _, _, _, _, tt⟩ := hL.2 j t hj
      exact Heap.lt_size tt
    show wpAny _ A.in1 (updateSeq S (·.push (Value.ref s.heap.objs.size)) >>= _) _ _ _
    have oth : ∀ x o, x ≠ S → h'.get? x = some o → (h'.update S (Obj.mapSeq (·.push (Value.ref s.heap.objs.size)))).get? x = some o := fun x o hx e => (Heap.get?_update_other _ _ (Ne.symm hx)).trans e
    have hL1 : LzAt base xs ys h' (ts ++ [s.heap.objs.size]) := (hL.keep fun x o hx e => hk' x o (bw x hx) e).snoc lts hbs (by rw [hlen]; exact e1) (by rw [hlen]; exact e2) hT
    have hsz : base ≤ h'.objs.size := Nat.le_trans hbs (Nat.le_of_lt (Heap.lt_size hT))
    refine wpAny_bind ?_
    refine wpAny_updateSeq hS' rfl (wpAny_pure ⟨plainId_quiet F.plain_extend_loop _, ?_⟩) (by simp [hlen]; omega) (by simp [hlen]; omega)
    obtain ⟨c2, hSn⟩ : ∃ c2, (h'.update S (Obj.mapSeq (·.push (Value.ref s.heap.objs.size)))).get? S = some { cls := .type "list", dict := none, data := .seq ((ts ++ [s.heap.objs.size]).map Value.ref).toArray c2, slots := #[] } := by
      rw [Heap.get?_update_self _ hS' rfl]
      exact ⟨_, by simp [Obj.mapSeq]; rfl⟩
    have ltT : s.heap.objs.size < (h'.update S (Obj.mapSeq (·.push (Value.ref s.heap.objs.size)))).objs.size := Heap.lt_size (oth _ _ (Ne.symm neS) hT)
    refine ih (i + 1) _ (ts ++ [s.heap.objs.size]) c2 (by omega) hlt (hst'.frame D off fun x o hx e => oth x o hx e) hSn (by simp [hlen]) (hL1.keep fun x o hx e => oth x o (fun q => by rw [q] at hx; exact Nat.not_le.mpr hb.2.2.2.2 hx) e) (Nat.le_trans hbs (Nat.le_of_lt ltT)) fun h2 tk2 ts' c' hk2 hS2 l2 hL2 => ?_
    exact hR h2 tk2 ts' c' (fun x o hx e => hk2 x o hx (oth x o (fun q => hx (by simp [q])) (hk' x o (fun m => hx (List.mem_cons_of_mem _ m)) e))) hS2 l2 hL2
theorem zip_no_len : typeLookup (.type "zip") "__len__" = pure none := am_miss_of_fast (by decide +kernel)
theorem zip_no_hint : typeLookup (.type "zip") "__length_hint__" = pure none := am_miss_of_fast (by decide +kernel)
theorem lz_extend {R : Result → Shared → Prop} {base : Nat} {S : Addr} (D : ZipSep2 z TI TO i1 i2 [i1, a] [i2, b]) (nea : a ≠ i1) (neb : b ≠ i2) (hA : A.handled = none) (off : S ∉ [z, TI, TO, i1, i2, a, b]) (hb : z < base ∧ TO < base ∧ i1 < base ∧ i2 < base ∧ S < base) (hn : min xs.size ys.size ≤ sizeLine) (res : Value) (c₀ : Nat)
    (ok : DzOk z TI TO i1 i2 a b xs ys s.heap) (hS : s.heap.get? S = some { cls := .type "list", data := .seq #[] c₀ }) (hbs : base ≤ s.heap.objs.size)
    (hR : ∀ h' tk ts' c', (∀ c o, c ∉ [S, z, TO, i1, i2] → s.heap.get? c = some o → h'.get? c = some o) → h'.get? S = some { cls := .type "list", dict := none, data := .seq (ts'.map Value.ref).toArray c', slots := #[] } → ts'.length = min xs.size ys.size → LzAt base xs ys h' ts' → R (.ok (.ret res)) { s with heap := h', toks := tk }) :
    wpAny (model prog w) A.in1 (Builtin.List.listExtendWith (.ref S) (.ref z) res)
      (fun fin s' => match fin with | .done f => R (.ok f) s' | .again c' => c'.quiet = true ∧ codeAny (model prog w) A c' R s') (fun e s' => R (.error e) s') s := by
  have hTy : s.TypeIs (.ref z) "zip" := ⟨_, ok.1.1, rfl⟩
  have hSI : S ≠ z := fun e => off (by simp [e])
  unfold Builtin.List.listExtendWith
  refine wpAny_bind (wpAny_typeOf hTy ?_)
  have h1 : Builtin.List.listSameRef (.ref S) (.ref z) = false := by simp [Builtin.List.listSameRef, hSI]
  have h2 : (Value.type "zip" == Value.type "list") = false := by decide
  have h3 : (Value.type "zip" == Value.type "tuple") = false := by decide
  simp only [h1, h2, h3, Bool.or_false, Bool.false_eq_true, if_false]
  refine wpAny_bind (wpAny_pyIter_zip ok.1.1 ?_)
  refine wpAny_bind (wpAny_holding ?_)
  unfold Builtin.List.listLengthHint
  refine wpAny_bind (wpAny_specialOf hTy zip_no_len ?_)
  show wpAny _ A.in1 (specialOf (Value.ref z) (Str.ofString "__length_hint__") >>= _) _ _ _
  refine wpAny_bind (wpAny_specialOf hTy zip_no_hint ?_)
  refine wpAny_pure ?_
  show wpAny _ A.in1 (rule "list.extend.makes-room" >>= fun _ => Builtin.List.listTouch (.ref S) >>= fun _ =>
    again (.builtin "list.extend.loop" ⟨[.ref S, .ref z, res], []⟩)) _ _ _
  refine wpAny_bind (wpAny_rule ?_)
  refine wpAny_bind ?_
  show wpAny _ A.in1 (updateSeq S (·.push .none) >>= fun _ => updateSeq S (·.pop)) _ _ _
  refine wpAny_bind (wpAny_updateSeq hS rfl ?_)
  have hS₂ := Heap.get?_update_self (Obj.mapSeq (·.push Value.none)) hS rfl
  refine wpAny_updateSeq (hz := by seq_fits) hS₂ rfl ?_
  have hS₃ := Heap.get?_update_self (Obj.mapSeq (·.pop)) hS₂ rfl
  have oth : ∀ b o, b ≠ S → s.heap.get? b = some o → ((s.heap.update S (Obj.mapSeq (·.push Value.none))).update S (Obj.mapSeq (·.pop))).get? b = some o :=
    fun b o hb e => (Heap.get?_update_other _ _ (Ne.symm hb)).trans ((Heap.get?_update_other _ _ (Ne.symm hb)).trans e)
  have hsz : ((s.heap.update S (Obj.mapSeq (·.push Value.none))).update S (Obj.mapSeq (·.pop))).objs.size = s.heap.objs.size := by
    simp [Heap.update]
  have st0 : DzSt z TI TO i1 i2 a b xs ys S 0 s.heap := ⟨ok.2.1, ok.2.2.1, ok.2.2.2, .inl ok.1⟩
  refine wpAny_pure ⟨plainId_quiet F.plain_extend_loop _, lz_loop D nea neb hA off hb hn res _ 0 _ [] _ rfl (Nat.zero_le _)
    (st0.frame D off fun x o hx e => oth x o hx e) hS₃ rfl ⟨List.Pairwise.nil, fun j T e => by simp at e⟩ (by rw [hsz]; exact hbs) fun h' tk ts' c' hk hS' hl hL => ?_⟩
  exact hR h' tk ts' c' (fun x o hx e => hk x o hx (oth x o (fun q => hx (by simp [q])) e)) hS' hl hL
theorem call_list_zip {Q : Value → Shared → Prop} (D : ZipSep2 z TI TO i1 i2 [i1, a] [i2, b]) (nea : a ≠ i1) (neb : b ≠ i2) (hA : A.handled = none) (hn : min xs.size ys.size ≤ sizeLine) (ok : DzOk z TI TO i1 i2 a b xs ys s.heap)
    (hQ : ∀ h' tk ts' c', (∀ c o, c ∉ [z, TO, i1, i2] → s.heap.get? c = some o → h'.get? c = some o) → h'.get? s.heap.objs.size = some { cls := .type "list", dict := none, data := .seq (ts'.map Value.ref).toArray c', slots := #[] } → ts'.length = min xs.size ys.size → LzAt (s.heap.objs.size + 1) xs ys h' ts' → Q (.ref s.heap.objs.size) { s with heap := h', toks := tk }) :
    wpAny (model prog w) A (call (.type "list") [.ref z]) Q E s := by
  have lt : ∀ c ∈ [z, TI, TO, i1, i2, a, b], c < s.heap.objs.size := fun c hc => by
    obtain ⟨⟨hz, u, v, hTO⟩, hTI, ⟨⟨o1, h1, _⟩, ⟨o3, hl1, _⟩⟩, ⟨o2, h2, _⟩, ⟨o4, hl2, _⟩⟩ := ok
    rcases (by simpa using hc : c = z ∨ c = TI ∨ c = TO ∨ c = i1 ∨ c = i2 ∨ c = a ∨ c = b) with q | q | q | q | q | q | q <;> rw [q]
    · exact Heap.lt_size hz
    · exact Heap.lt_size hTI
    · exact Heap.lt_size hTO
    · exact Heap.lt_size h1
    · exact Heap.lt_size h2
    · exact Heap.lt_size hl1
    · exact Heap.lt_size hl2
  have off : s.heap.objs.size ∉ [z, TI, TO, i1, i2, a, b] := fun h => Nat.lt_irrefl _ (lt _ h)
  refine callType_codes (Q₁ := fun obj s₁ => obj = .ref s.heap.objs.size ∧ s₁ = { s with heap := s.heap.push { cls := .type "list", data := .seq #[] } }) F.called_list (F.typeCall_list_1 _) F.entry_list_init
    (code_list_new _ ⟨rfl, rfl⟩) fun obj s₁ h₁ => ?_
  obtain ⟨rfl, rfl⟩ := h₁
  have hS : (s.heap.push { cls := .type "list", data := .seq #[] }).get? s.heap.objs.size = some { cls := .type "list", data := .seq #[] } := Heap.get?_push_size _ rfl
  have up : ∀ c o, s.heap.get? c = some o → (s.heap.push { cls := .type "list", data := .seq #[] }).get? c = some o := fun c o e => Heap.get?_push_of_some _ e
  refine ⟨⟨_, hS, rfl⟩, F.args_list_init_2 _ _, ?_⟩
  show wpAny _ A.in1.in1 (do let old ← Builtin.List.listItems (.ref s.heap.objs.size); Builtin.List.listUpdate (.ref s.heap.objs.size) (fun _ => #[]); letGo old.toList.reverse; Builtin.List.listExtendWith (.ref s.heap.objs.size) (.ref z) .none) _ _ _
  refine wpAny_bind ?_
  unfold Builtin.List.listItems
  refine wpAny_bind (wpAny_seqItems hS rfl (wpAny_pure ?_))
  show wpAny _ A.in1.in1 (updateSeq s.heap.objs.size (fun _ => #[]) >>= fun _ => letGo (#[] : Array Value).toList.reverse >>= fun _ => Builtin.List.listExtendWith (.ref s.heap.objs.size) (.ref z) .none) _ _ _
  refine wpAny_bind (wpAny_updateSeq hS rfl ?_)
  have hS₂ := Heap.get?_update_self (Obj.mapSeq (fun _ => (#[] : Array Value))) hS rfl
  have oth : ∀ b o, b ≠ s.heap.objs.size → (s.heap.push { cls := .type "list", data := .seq #[] }).get? b = some o → ((s.heap.push { cls := .type "list", data := .seq #[] }).update s.heap.objs.size (Obj.mapSeq (fun _ => (#[] : Array Value)))).get? b = some o :=
    fun b o hb e => (Heap.get?_update_other _ _ (Ne.symm hb)).trans e
  have oth' : ∀ c o, s.heap.get? c = some o → ((s.heap.push { cls := .type "list", data := .seq #[] }).update s.heap.objs.size (Obj.mapSeq (fun _ => (#[] : Array Value)))).get? c = some o := fun c o e => oth c o (Nat.ne_of_lt (Heap.lt_size e)) (up c o e)
  refine wpAny_bind (wpAny_letGo ?_)
  have hsz : ((s.heap.push { cls := .type "list", data := .seq #[] }).update s.heap.objs.size (Obj.mapSeq (fun _ => (#[] : Array Value)))).objs.size = s.heap.objs.size + 1 := by
    simp [Heap.update, Heap.push]
  have lt1 : ∀ c ∈ [z, TI, TO, i1, i2, a, b], c < s.heap.objs.size + 1 := fun c hc => Nat.lt_succ_of_lt (lt c hc)
  refine lz_extend (A := A.in1) (base := s.heap.objs.size + 1) D nea neb hA off ⟨lt1 _ (by simp), lt1 _ (by simp), lt1 _ (by simp), lt1 _ (by simp), Nat.lt_succ_self _⟩ hn .none _ ((pa_zipLT (prog := prog) (w := w) D nea neb xs ys).keep _ _ ok oth') hS₂ (by rw [hsz]; exact Nat.le_refl _) fun h' tk ts' c' hk hS' hl hL => ?_
  exact ⟨rfl, hQ h' tk ts' c' (fun c o hc e => hk c o (fun m => by
    rcases List.mem_cons.mp m with q | q
    · exact Nat.ne_of_lt (Heap.lt_size e) q
    · exact hc q) (oth' c o e)) hS' hl hL⟩
end
/-! ### the rule -/
section
theorem lz_paired {α β : Type} {R : α → β → Prop} : ∀ (l : List α) (m : List β), l.length = m.length → (∀ (i : Nat) x y, l[i]? = some x → m[i]? = some y → R x y) → Paired R l m
  | [], [], _, _ => .nil
  | [], _ :: _, h, _ => by simp at h
  | _ :: _, [], h, _ => by simp at h
  | x :: l, y :: m, h, k => .cons (k 0 x y rfl rfl) (lz_paired l m (by simpa using h) fun i a b e1 e2 => k (i + 1) a b (by simpa using e1) (by simpa using e2))
theorem lz_get : ∀ {vs : List V} {us : List Value}, Vals vs us → ∀ {i : Nat} {v : V} {u : Value}, vs[i]? = some v → us[i]? = some u → RelV v u
  | _, _, .nil, i, _, _, h, _ => by simp at h
  | _, _, .cons r rr, 0, _, _, h1, h2 => by cases h1; cases h2; exact r
  | _, _, .cons r rr, i + 1, _, _, h1, h2 => lz_get rr (i := i) (by simpa using h1) (by simpa using h2)
variable {P : Program} {w : World} {H : Hp} {h : Heap} {a : Addr} {o : HO}
theorem HOk.layN (x : HOk P w H h) (hn : H a = none) (new : ObjOk P w (upd H a o) h a o) : HOk P w (upd H a o) h := fun b u e => by
  by_cases hb : b = a
  · subst hb; rw [upd_same] at e; cases e; exact new
  · rw [upd_ne hb] at e
    exact (x b u e).stay (fun c v _ q => q) (fun c q => by rw [upd_ne (ne_of_none q hn)]; exact q) fun c xs q => by rw [upd_ne (ne_of_none q hn)]; exact q
theorem lz_lay : ∀ (ts : List Addr) (ps : List (V × V)) (H : Hp), HOk P w H h → ts.Pairwise (fun (a b : Nat) => a < b) → (∀ t ∈ ts, H t = none) → Paired (fun t (p : V × V) => ∃ x y, IsTupOf2 h t x y ∧ RelV p.1 x ∧ RelV p.2 y) ts ps →
    ∃ H', HOk P w H' h ∧ (∀ c o, H c = some o → H' c = some o) ∧ (∀ c, c ∉ ts → H' c = H c) ∧ Paired (fun t (p : V × V) => H' t = some (.tup [p.1, p.2])) ts ps
  | [], _, H, ok, _, _, pd => by cases pd; exact ⟨H, ok, fun _ _ e => e, fun _ _ => rfl, .nil⟩
  | t :: ts, _, H, ok, pw, fr, pd => by
    cases pd with
    | @cons _ p _ ps r pd =>
    obtain ⟨x, y, tt, r1, r2⟩ := r
    obtain ⟨lt, pw⟩ := List.pairwise_cons.mp pw
    have hn := fr t List.mem_cons_self
    have ok1 : HOk P w (upd H t (.tup [p.1, p.2])) h := HOk.layN ok hn ⟨by rw [sizeLine_eq]; show 2 ≤ _; decide, [x, y], .cons r1 (.cons r2 .nil), _, tt, rfl, _, rfl⟩
    obtain ⟨H', ok2, s2, off, pd2⟩ := lz_lay ts ps (upd H t (.tup [p.1, p.2])) ok1 pw (fun u hu => by rw [upd_ne (Nat.ne_of_gt (lt u hu))]; exact fr u (List.mem_cons_of_mem _ hu)) pd
    exact ⟨H', ok2, fun c o e => s2 _ _ (by rw [upd_ne (ne_of_none e hn)]; exact e), fun c hc => by
      rw [off c (fun m => hc (List.mem_cons_of_mem _ m)), upd_ne (fun e => hc (by rw [e]; exact List.mem_cons_self))], .cons (s2 _ _ upd_same) pd2⟩
theorem lz_refs : ∀ ts : List Addr, Vals (ts.map V.ref) (ts.map Value.ref)
  | [] => .nil
  | t :: ts => .cons rfl (lz_refs ts)
variable {X : Cx}
def tListZip (K : PySem.W.Frag) (ta : TA) : TE := fun σ H Q => ta σ H fun vs H1 => ∃ (a b : Addr) (xs ys : List V), vs = [.ref a, .ref b] ∧ SqL K H1 a xs ∧ SqT K H1 b ys ∧
  ∀ l ts H', (∀ c o, H1 c = some o → H' c = some o) → H1 l = none → (∀ t ∈ ts, H1 t = none ∧ t ≠ l) → H' l = some (.lst (ts.map V.ref)) → Paired (fun t (p : V × V) => H' t = some (.tup [p.1, p.2])) ts (xs.zip ys) → Q (.ref l) H'
theorem pe_listZip {e e2 : Expr} {ta : TA} {p p2 pos pos2 : Pos} (hcalm : X.calm = true) (hgd : Gl X "list") (hmd : X.mg "list" = none) (hvd : bootBuiltins "list" = some (.type "list")) (hgz : Gl X "zip") (hmz : X.mg "zip" = none) (ha : PA X [e, e2] ta)
    (hs : starEach [e, e2] X.env = (false, eval e X.env) :: starEach [e2] X.env := by rfl) (hpl : (backTo pos2 (starEach [e2] X.env)).any (·.1) = false := by rfl)
    (st : starEach [.Call (.Name "zip" p2) [e, e2] [] pos2] X.env = (false, eval (.Call (.Name "zip" p2) [e, e2] [] pos2) X.env) :: starEach [] X.env := by rfl) :
    PE X (.Call (.Name "list" p) [.Call (.Name "zip" p2) [e, e2] [] pos2] [] pos) (tListZip X.K ta) := by
  constructor
  intro pins s σ H Q I h
  refine wpAny_Call_Name_kw (ld_blt I hgd hmd hvd (PyProof.Rows.callWith_type1 ?_ st rfl))
  rw [st]
  show wpAny _ _ (spliced ((false, eval (.Call (.Name "zip" p2) [e, e2] [] pos2) X.env) :: backTo pos (starEach [] X.env))) _ _ s
  refine Calls.spliced_cons (Call_ (ld_blt I hgz hmz PyProof.Rows.boot_zip (PyProof.Rows.callWith_type1 (thn (ha.run pos2 pins s σ H _ I h) fun us s1 ⟨vs, H1, I1, r1, a, b, xs, ys, ex, hqx, hqy, q⟩ => ?_) hs hpl)))
  subst ex
  cases r1 with
  | cons r rr =>
    cases rr with
    | cons r' rr =>
      cases rr
      cases r
      cases r'
      obtain ⟨its, rv, pl, hz1⟩ := I1.list hqx
      obtain ⟨its2, rv2, tp, hz2⟩ := I1.tuple hqy
      have la : a < s1.heap.objs.size := pl.lt
      have lb : b < s1.heap.objs.size := tp.lt
      refine zip_begins2 (begins_list a its.toArray) (begins_tuple b its2.toArray) pl.isList tp fun h' hz hTI hTO h1 h2 hsz hk => ?_
      refine Calls.spliced_nil ?_
      have A : ∀ k : Nat, s1.heap.objs.size + k ≠ a := fun k => Nat.ne_of_gt (Nat.lt_of_lt_of_le la (Nat.le_add_right _ _))
      have B : ∀ k : Nat, s1.heap.objs.size + k ≠ b := fun k => Nat.ne_of_gt (Nat.lt_of_lt_of_le lb (Nat.le_add_right _ _))
      have C : ∀ j k : Nat, j ≠ k → s1.heap.objs.size + j ≠ s1.heap.objs.size + k := fun j k hjk z => hjk (Nat.add_left_cancel z)
      have N2 : ∀ {x y c : Nat}, c ≠ x → c ≠ y → c ∉ [x, y] := fun h1 h2 hm => by
        rcases List.mem_cons.mp hm with q | q
        · exact h1 q
        · exact h2 (List.mem_singleton.mp q)
      have D : ZipSep2 (s1.heap.objs.size + 4) (s1.heap.objs.size + 2) (s1.heap.objs.size + 3) s1.heap.objs.size (s1.heap.objs.size + 1) [s1.heap.objs.size, a] [s1.heap.objs.size + 1, b] :=
        ⟨C 2 4 (by decide), C 3 4 (by decide), C 2 3 (by decide), C 2 0 (by decide), List.mem_cons_self, N2 (C 4 0 (by decide)) (A 4), N2 (C 3 0 (by decide)) (A 3), C 2 1 (by decide), List.mem_cons_self, N2 (C 4 1 (by decide)) (B 4), N2 (C 3 1 (by decide)) (B 3), N2 (C 0 1 (by decide)) (B 0), N2 (C 1 0 (by decide)) (A 1)⟩
      have hge : s1.heap.objs.size ≤ h'.objs.size := by omega
      have n1 := rv.length
      have n2 := rv2.length
      refine call_list_zip (s := { s1 with heap := h' }) (xs := its.toArray) (ys := its2.toArray) D (Ne.symm (A 0)) (Ne.symm (B 1)) (I1.ok.hd hcalm) ?_
        ⟨⟨hz, _, _, hTO⟩, hTI, ⟨⟨_, h1, rfl, rfl⟩, pl.isList.at fun o e => hk _ _ e⟩, ⟨_, h2, rfl, rfl⟩, let ⟨o, ho, r⟩ := tp; ⟨o, hk _ _ ho, r⟩⟩ fun h'' tk ts c' k hS hl hL => ?_
      · simp
        rw [← n1]
        exact Nat.le_trans (Nat.min_le_left _ _) hz1
      · have kk : ∀ c o, s1.heap.get? c = some o → h''.get? c = some o := fun c o e => k c o (fun hm => by
          have lc := Heap.lt_size e
          rcases (by simpa using hm : c = s1.heap.objs.size + 4 ∨ c = s1.heap.objs.size + 3 ∨ c = s1.heap.objs.size ∨ c = s1.heap.objs.size + 1) with z | z | z | z <;> exact absurd lc (by rw [z]; exact Nat.not_lt.mpr (by first | exact Nat.le_refl _ | exact Nat.le_add_right _ _))) (hk c o e)
        have hlz : ts.length = (xs.zip ys).length := by rw [hl, List.length_zip, n1, n2]; simp
        have geT : ∀ t ∈ ts, h'.objs.size + 1 ≤ t := fun t ht => by
          obtain ⟨j, hj⟩ := List.getElem?_of_mem ht
          exact (hL.2 j t hj).1
        have frT : ∀ t ∈ ts, H1 t = none := fun t ht => I1.hok.fresh (Nat.le_trans hge (Nat.le_trans (Nat.le_succ _) (geT t ht)))
        have frS : H1 h'.objs.size = none := I1.hok.fresh hge
        obtain ⟨H2, ok2, s2, off2, pd2⟩ := lz_lay (P := X.prog) (w := X.w) (h := h'') ts (xs.zip ys) H1 (I1.hok.kept kk) hL.1 frT (lz_paired _ _ hlz fun i t pr e1 e2 => by
          obtain ⟨_, x, y, ex, ey, tt⟩ := hL.2 i t e1
          obtain ⟨f1, f2⟩ := List.getElem?_zip_eq_some.mp (show (xs.zip ys)[i]? = some (pr.1, pr.2) from e2)
          exact ⟨x, y, tt, lz_get rv f1 (by simpa using ex), lz_get rv2 f2 (by simpa using ey)⟩)
        have nST : h'.objs.size ∉ ts := fun m => Nat.not_succ_le_self _ (geT _ m)
        have hn2 : H2 h'.objs.size = none := by rw [off2 _ nST]; exact frS
        have ok3 : HOk X.prog X.w (upd H2 h'.objs.size (.lst (ts.map V.ref))) h'' := HOk.layN ok2 hn2 ⟨by
          rw [List.length_map, hlz, List.length_zip]
          exact Nat.le_trans (Nat.min_le_left _ _) hz1, _, c', lz_refs ts, hS⟩
        have s3 : ∀ c o, H1 c = some o → upd H2 h'.objs.size (.lst (ts.map V.ref)) c = some o := fun c o e => by rw [upd_ne (ne_of_none (s2 _ _ e) hn2)]; exact s2 _ _ e
        have un : Un X.fs [] H1 (upd H2 h'.objs.size (.lst (ts.map V.ref))) s1.heap h'' :=
          ⟨fun b ob q _ _ _ => kk b ob q, fun b ob q _ _ _ => ⟨ob.slots, kk b ob q⟩, fun b ob q n _ => by
            have lc := Heap.lt_size q
            rw [upd_ne (Nat.ne_of_lt (Nat.lt_of_lt_of_le lc hge)), off2 b (fun m => Nat.lt_irrefl _ (Nat.lt_of_lt_of_le lc (Nat.le_trans hge (Nat.le_trans (Nat.le_succ _) (geT b m)))))]
            exact n, fun b ob q _ => ⟨ob, kk b ob q⟩, fun _ _ q => s3 _ _ q, fun _ _ _ q => s3 _ _ q, fun _ ps q => ⟨#[], by rw [s3 _ _ q]; simp⟩⟩
        exact ⟨.ref h'.objs.size, upd H2 h'.objs.size (.lst (ts.map V.ref)), I1.un un ok3, rfl, q _ ts _ s3 frS (fun t ht => ⟨frT t ht, fun e => nST (by rw [← e]; exact ht)⟩) upd_same
          (Paired.mono (fun t pr e => by rw [upd_ne (fun z => by rw [z, hn2] at e; cases e)]; exact e) pd2)⟩
end
end L2

/-! a text in a list or tuple of values of any kind. -/
namespace PySem.SeqAt
section
variable {A : Around} {s : Shared}
theorem eq_dict_str {l : Addr} {es : Array DictEntry} {ep : Nat} {dd : Option Addr} {sl : Array (Option Value)} (b : Str) (u : Tok) (ho : s.heap.get? l = some (dO es ep dd sl)) (hu : A.units < cLine) : EqAt A s (.ref l) (.str b u) false := fun prog w E Q h => by
  unfold eqBool
  refine wpAny_holding (wpAny_ite_split (fun hab => absurd (eq_of_beq hab) nofun) (fun _ => wpAny_bind ?_))
  refine rc_eq_decline_or (k := false) ⟨_, ho, rfl⟩ (typeIs_str s b u) (by decide) sub_str_dict F.slot_dict_eq F.slot_str_eq_refl (fun _ hq => ?_) (fun _ hq => ?_) (fun _ hq => wpAny_of_eq (rfl : isSame (.ref l) (.str b u) = pure false) hq) (.inr hu) (wpAny_pure h)
  · exact call_meets F.slot_dict_eq ⟨_, ho, rfl⟩ F.entry_dict_eq (F.args_dict_eq_2 _ _) (dict_no_str b u l es ep dd sl) ⟨ho, hq⟩
  · exact call_meets F.slot_str_eq_refl (typeIs_str s b u) F.entry_str_eq (F.args_str_eq_2 _ _) (str_no_dict b u l es ep dd sl) ⟨ho, hq⟩
end
end PySem.SeqAt
namespace L2
open PySem PySem.Spec PyProof.Rows
section
variable {X : Cx} {pins : List (Addr × Obj)} {σ : St} {H : Hp} {s : Shared}
theorem str_mem_eqAt {A : Around} (hu : A.units < cLine) (I : Inv X pins σ H s) {b : Str} {v : Value} (rx : RelV (.str b) v) : ∀ {xs : List V} {us : List Value}, Vals xs us → (∀ y ∈ xs, AnyK X.K H y) → ∀ u ∈ us, SeqAt.EqAt A s u v (eqU (.str b) u)
  | _, _, .nil, _ => fun u hu => by cases hu
  | y :: xs, u :: us, .cons r t, f => fun u' hm => by
    rcases List.mem_cons.mp hm with rfl | hm
    · have k := f y List.mem_cons_self
      cases y with
      | ref a =>
        cases r
        obtain ⟨t, rfl⟩ := rx
        rcases k with ⟨xs, h⟩ | ⟨xs, h⟩ | ⟨kvs, h⟩
        · obtain ⟨its, _, pl, _⟩ := I.list h
          exact SeqAt.EqAt.list_str b t pl.isList hu
        · obtain ⟨its, _, pl, _⟩ := I.tuple h
          exact SeqAt.EqAt.tuple_str b t pl hu
        · obtain ⟨_, _, vs, _, o, es, ep, h1, h2, h3⟩ := (show ObjOk X.prog X.w H s.heap a (.dK kvs) from I.hok a _ h)
          obtain ⟨oc, od, dt, osl⟩ := o
          obtain ⟨c1, c2, c3⟩ := h2
          simp only at c1 c2 c3
          subst c1 c2 c3
          exact SeqAt.eq_dict_str (es := es) (ep := ep) (dd := none) (sl := #[]) b t (by rw [h1, show dt = Data.dict es ep from h3.1]) hu
      | _ => rw [eqU_of r k]; exact eqAt_V r rx k rfl
    · exact str_mem_eqAt hu I rx t (fun y hy => f y (List.mem_cons_of_mem _ hy)) u' hm
theorem any_eqS {b : Str} {H : Hp} {K : PySem.W.Frag} : ∀ {xs : List V} {us : List Value}, Vals xs us → (∀ y ∈ xs, AnyK K H y) → us.any (eqU (.str b)) = inV (.str b) xs
  | _, _, .nil, _ => rfl
  | y :: xs, u :: us, .cons r t, f => by
    rw [List.any_cons, any_eqS t fun y hy => f y (List.mem_cons_of_mem _ hy)]
    unfold inV
    rw [List.any_cons]
    congr 1
    have k := f y List.mem_cons_self
    cases y with
    | ref a => cases r; rfl
    | _ => exact eqU_of r k
/-- x in xs, x a text, xs a list or a tuple of anything -/
def rInS (K : PySem.W.Frag) : R2 := fun x y H Q => ∃ (b : Str) (p : Addr) (xs : List V), x = .str b ∧ y = .ref p ∧ (SqL K H p xs ∨ SqT K H p xs) ∧ (∀ v ∈ xs, AnyK K H v) ∧ Q (.bl (inV (.str b) xs)) H
theorem op_inS (hu : X.A.units + 1 < cLine) : OpR X (compareOp .In) (rInS X.K) := by
  intro pins s σ H x y v u Q I rx ry h
  obtain ⟨b, p, xs, rfl, rfl, hq, k, q⟩ := h
  cases ry
  rcases hq with hq | hq
  · obtain ⟨its, r, pl, hz⟩ := I.list hq
    refine SeqAt.in_listAt (eqU (.str b)) pl.isList (fun w hw => str_mem_eqAt (A := X.A.in1) hu I rx r k w (by simpa using hw)) ⟨.bl _, H, I, rfl, ?_⟩
    rw [show its.toArray.any (eqU (.str b)) = its.any (eqU (.str b)) by simp, any_eqS r k]
    exact q
  · obtain ⟨its, r, pl, hz⟩ := I.tuple hq
    refine SeqAt.in_tupleAt (eqU (.str b)) pl (fun w hw => str_mem_eqAt (A := X.A.in1) hu I rx r k w (by simpa using hw)) ⟨.bl _, H, I, rfl, ?_⟩
    rw [show its.toArray.any (eqU (.str b)) = its.any (eqU (.str b)) by simp, any_eqS r k]
    exact q
end
end L2

/-! xs != ys of two lists of as many texts, whatever stands in them -/
namespace L2
open PySem PySem.Spec PyProof.Rows
section
variable {X : Cx}
def rNeTx (K : PySem.W.Frag) : R2 := fun x y H Q => ∃ (a b : Addr) (ts us : List Str), x = .ref a ∧ y = .ref b ∧ SqL K H a (ts.map V.str) ∧ SqL K H b (us.map V.str) ∧ ts.length = us.length ∧ Q (.bl (!decide (ts = us))) H
theorem neTx_at : ∀ {ts : List Str} {its : List Value}, Vals (ts.map V.str) its → ∀ j (h : j < its.length) (h' : j < ts.length), ∃ t, its[j] = .str ts[j] t
  | [], its, r, j, h, h' => by simp at h'
  | x :: ts, its, r, j, h, h' => by
    cases r with
    | cons r rr =>
      cases j with
      | zero => exact r
      | succ j => exact neTx_at rr j (by simpa using h) (by simpa using h')
theorem neTx_all : ∀ {ts us : List Str}, ts.length = us.length → ((List.range ts.length).all fun j => decide (ts[j]? = us[j]?)) = decide (ts = us) := fun {ts us} l => by
  rw [Bool.eq_iff_iff, List.all_eq_true, decide_eq_true_eq]
  constructor
  · intro h
    refine List.ext_getElem? fun j => ?_
    by_cases lj : j < ts.length
    · exact of_decide_eq_true (h j (List.mem_range.mpr lj))
    · rw [List.getElem?_eq_none (by omega), List.getElem?_eq_none (by omega)]
  · intro e j _
    rw [e]; exact decide_eq_true rfl
theorem op_neTx (hu : X.A.units + 64 < cLine) : OpR X (compareOp .NotEq) (rNeTx X.K) := by
  intro pins s σ H x y v u Q I rx ry h
  obtain ⟨a, b, ts, us, rfl, rfl, ha, hb, hl, q⟩ := h
  obtain rfl : v = Value.ref a := rx
  obtain rfl : u = Value.ref b := ry
  obtain ⟨its, rv, pl, _⟩ := I.list ha
  obtain ⟨its2, rv2, pl2, _⟩ := I.list hb
  have n1 := rv.length
  have n2 := rv2.length
  rw [List.length_map] at n1 n2
  refine SeqAt.RcNeAt.lists (e := fun j => decide (ts[j]? = us[j]?)) pl.isList pl2.isList (by simp; omega) (by omega) (fun j h1 h2 => ?_) X.prog X.w _ _ ?_
  · have h1' : j < its.length := by simpa using h1
    have h2' : j < its2.length := by simpa using h2
    obtain ⟨t, e1⟩ := neTx_at rv j h1' (by omega)
    obtain ⟨t2, e2⟩ := neTx_at rv2 j h2' (by omega)
    have e1' : its.toArray[j] = .str (ts[j]'(by omega)) t := by simpa using e1
    have e2' : its2.toArray[j] = .str (us[j]'(by omega)) t2 := by simpa using e2
    rw [e1', e2']
    have := SeqAt.EqAt.str_str (A := X.A.in1) (s := s) (ts[j]'(by omega)) t (us[j]'(by omega)) t2
    have e : ((ts[j]'(by omega)) == (us[j]'(by omega))) = decide (ts[j]? = us[j]?) := by
      rw [List.getElem?_eq_getElem (by omega), List.getElem?_eq_getElem (by omega), Bool.eq_iff_iff]
      simp
    rw [e] at this
    exact this
  · refine ⟨.bl _, H, I, rfl, ?_⟩
    have e : ((List.range its.toArray.size).all fun j => decide (ts[j]? = us[j]?)) = decide (ts = us) := by
      rw [← neTx_all hl, show its.toArray.size = ts.length by simp; omega]
    rw [e]
    exact q
end
end L2

/-! xs != ys of two lists that hold the very same things -/
namespace L2
open PySem PySem.Spec PyProof.Rows
section
variable {X : Cx}
def rNeSm (K : PySem.W.Frag) : R2 := fun x y H Q => ∃ (a b : Addr) (xs : List V), x = .ref a ∧ y = .ref b ∧ SqL K H a xs ∧ SqL K H b xs ∧ (∀ v ∈ xs, flatV v = true ∨ ∃ c, v = .ref c) ∧ Q (.bl false) H
theorem eqV_same : ∀ v : V, flatV v = true → eqV v v = true
  | .non, _ => rfl
  | .bl b, _ => by cases b <;> rfl
  | .int i, _ => by show (i == i) = true; simp
  | .str s, _ => by show (s == s) = true; simp
  | .flt _, h => nomatch h
  | .ref _, h => nomatch h
theorem same_at {A : Around} {s : Shared} : ∀ {xs : List V} {us ws : List Value}, Vals xs us → Vals xs ws → (∀ v ∈ xs, flatV v = true ∨ ∃ c, v = .ref c) → ∀ j (h : j < us.length) (h' : j < ws.length), SeqAt.EqAt A s us[j] ws[j] true
  | [], us, _, r, _, _, j, h, _ => by cases r; simp at h
  | x :: xs, us, ws, r, r', f, j, h, h' => by
    cases r with
    | cons r rr =>
      cases r' with
      | cons r2 rr2 =>
        cases j with
        | zero =>
          rcases f x List.mem_cons_self with fx | ⟨c, rfl⟩
          · have := eqAt_V (A := A) (s := s) r r2 fx fx
            rw [eqV_same x fx] at this
            exact this
          · cases r; cases r2
            exact SeqAt.EqAt.same _
        | succ j => exact same_at rr rr2 (fun v hv => f v (List.mem_cons_of_mem _ hv)) j (by simpa using h) (by simpa using h')
theorem op_neSm (hu : X.A.units + 64 < cLine) : OpR X (compareOp .NotEq) (rNeSm X.K) := by
  intro pins s σ H x y v u Q I rx ry h
  obtain ⟨a, b, xs, rfl, rfl, ha, hb, hf, q⟩ := h
  obtain rfl : v = Value.ref a := rx
  obtain rfl : u = Value.ref b := ry
  obtain ⟨its, rv, pl, _⟩ := I.list ha
  obtain ⟨its2, rv2, pl2, _⟩ := I.list hb
  have n1 := rv.length
  have n2 := rv2.length
  refine SeqAt.RcNeAt.lists (e := fun j => true) pl.isList pl2.isList (by simp; omega) (by omega) (fun j h1 h2 => ?_) X.prog X.w _ _ ?_
  · have h1' : j < its.length := by simpa using h1
    have h2' : j < its2.length := by simpa using h2
    have := same_at (A := X.A.in1) (s := s) rv rv2 hf j h1' h2'
    simpa using this
  · refine ⟨.bl _, H, I, rfl, ?_⟩
    have e : ((List.range its.toArray.size).all fun j => true) = true := by rw [List.all_eq_true]; intro _ _; rfl
    rw [e]
    exact q
end
end L2

namespace K13
open PySem PySem.Spec PyProof.Rows L2 TL
/-! ### heaps: all but the bag's list stays -/
def Fr (b : Addr) (H H' : Hp) : Prop := ∀ a o, a ≠ b → H a = some o → H' a = some o
theorem Fr.refl (b : Addr) (H : Hp) : Fr b H H := fun _ _ _ h => h
theorem Fr.trans {b : Addr} {H H1 H2 : Hp} (x : Fr b H H1) (y : Fr b H1 H2) : Fr b H H2 := fun a o n h => y a o n (x a o n h)
theorem Fr.of_same {b : Addr} {H H1 : Hp} (x : Same H H1) : Fr b H H1 := fun a o _ h => x a o h
theorem Fr.new {b p : Addr} {H : Hp} {o : HO} (h : H p = none) : Fr b H (upd H p o) := fun a u _ e => by
  rw [upd_ne (ne_of_none e h)]; exact e
theorem Fr.upd_b {b : Addr} {H H1 : Hp} {o : HO} (x : Fr b H H1) : Fr b H (upd H1 b o) := fun a u n e => by
  rw [upd_ne n]; exact x a u n e
theorem Fr.free {b p : Addr} {H H' : Hp} (x : Fr b H H') (hb : p ≠ b) (h : H' p = none) : H p = none := by
  cases q : H p with
  | none => rfl
  | some o => rw [x p o hb q] at h; cases h
theorem Fr.upd_p {b p : Addr} {H H1 : Hp} {o : HO} (x : Fr b H H1) (h : H p = none) : Fr b H (upd H1 p o) := fun a u n e => by
  rw [upd_ne (ne_of_none e h)]; exact x a u n e
theorem Same.new {p : Addr} {H : Hp} {o : HO} (h : H p = none) : Same H (upd H p o) := fun a u e => by
  rw [upd_ne (ne_of_none e h)]; exact e
theorem Same.upd_p {p : Addr} {H H1 : Hp} {o : HO} (x : Same H H1) (h : H p = none) : Same H (upd H1 p o) := fun a u e => by
  rw [upd_ne (ne_of_none e h)]; exact x a u e
theorem Fr.seq {K : PySem.W.Frag} {b : Addr} {H H' : Hp} {a : Addr} {xs : List V} (e : Fr b H H') (n : a ≠ b) (h : SqL K H a xs) : SqL K H' a xs := by
  rcases h with (h | ⟨o, h⟩) | h
  · exact .inl (.inl (e _ _ n h))
  · exact .inl (.inr ⟨o, e _ _ n h⟩)
  · exact .inr h
/-- a bag of digits: what is left of the cell, the seed, the count of draws -/
def Bag (H : Hp) (b : Addr) (n : Nat) : Prop := ∃ x y z : Int, H b = some (.lst [.int x, .int y, .int z]) ∧ 0 ≤ x ∧ 0 ≤ y ∧ y < 2147483629 ∧ 0 ≤ z ∧ z ≤ n
theorem Bag.mono {H : Hp} {b : Addr} {n m : Nat} (h : Bag H b n) (l : n ≤ m) : Bag H b m := by
  obtain ⟨x, y, z, e, h1, h2, h3, h4, h5⟩ := h
  exact ⟨x, y, z, e, h1, h2, h3, h4, by omega⟩
theorem Bag.same {H H' : Hp} {b : Addr} {n : Nat} (h : Bag H b n) (s : Same H H') : Bag H' b n := by
  obtain ⟨x, y, z, e, r⟩ := h
  exact ⟨x, y, z, s _ _ e, r⟩
theorem Bag.ne {H : Hp} {b p : Addr} {n : Nat} (h : Bag H b n) (q : H p = none) : b ≠ p := by
  obtain ⟨x, y, z, e, r⟩ := h
  exact ne_of_none e q
theorem Bag.upd {H : Hp} {b p : Addr} {n : Nat} {o : HO} (h : Bag H b n) (q : b ≠ p) : Bag (upd H p o) b n := by
  obtain ⟨x, y, z, e, r⟩ := h
  exact ⟨x, y, z, by rw [upd_ne q]; exact e, r⟩
theorem Bag.some {H : Hp} {b : Addr} {n : Nat} (h : Bag H b n) : ∃ o, H b = some o := by
  obtain ⟨x, y, z, e, r⟩ := h
  exact ⟨_, e⟩
/-! ### the promises that all such laws share -/
def sp_cell (K : PySem.W.Frag) : Sp := fun vs H Q _ => ∃ (l : Addr) (ns : List Int) (j : Int), vs = [.ref l, .int j] ∧ SqL K H l (ns.map V.int) ∧ 0 ≤ j ∧ ∀ v : Int, Q (.int v) H
def sp_bag (K : PySem.W.Frag) : Sp := fun vs H Q _ => ∃ c : Int, vs = [.int c] ∧ ∀ p H', Same H H' → H p = none → Bag H' p 0 → Q (.ref p) H'
def sp_take (K : PySem.W.Frag) : Sp := fun vs H Q _ => ∃ (b : Addr) (n : Nat) (c : Int), vs = [.ref b, .int c] ∧ Bag H b n ∧ n ≤ 1000000 ∧ 0 < c ∧ c < 2 ^ 200 ∧
  ∀ (d : Int) H', Fr b H H' → Bag H' b (n + 1) → 0 ≤ d → d < c → Q (.int d) H'
def sp_law (K : PySem.W.Frag) : Sp := fun vs H Q _ => ∃ (a : Addr) (ns : List Int), vs = [.ref a] ∧ SqL K H a (ns.map V.int) ∧ ns.length ≤ 63 ∧ ∀ H', Q (.bl true) H'
/-! ### small facts -/
theorem atI_in {α : Type} {xs : List α} {i : Int} (h0 : 0 ≤ i) (h1 : i < (xs.length : Int)) : ∃ v, xs[i.toNat]? = some v ∧ atI xs i = some v := by
  have hj : i.toNat < xs.length := by omega
  refine ⟨xs[i.toNat], List.getElem?_eq_getElem hj, ?_⟩
  have e : ((i.toNat : Nat) : Int) = i := Int.toNat_of_nonneg h0
  have := atI_nat (xs := xs) (j := i.toNat) (List.getElem?_eq_getElem hj)
  rw [e] at this
  exact this
theorem atI_ints {ns : List Int} {i : Int} (h0 : 0 ≤ i) (h1 : i < (ns.length : Int)) : ∃ v : Int, atI (ns.map V.int) i = some (.int v) := by
  obtain ⟨v, e, h⟩ := atI_in (xs := ns.map V.int) h0 (by rw [List.length_map]; exact h1)
  rw [List.getElem?_map] at e
  cases q : ns[i.toNat]? with
  | none => rw [q] at e; cases e
  | some u => rw [q] at e; cases e; exact ⟨u, h⟩
theorem lt_of_dec {a b : Int} (h : decide (a < b) = true) : a < b := of_decide_eq_true h
theorem nlt_of_dec {a b : Int} (h : ¬ decide (a < b) = true) : ¬ a < b := fun x => h (decide_eq_true x)
theorem emod_in (a : Int) {m : Int} (h : 0 < m) : 0 ≤ a % m ∧ a % m < m := ⟨Int.emod_nonneg a (by omega), Int.emod_lt_of_pos a h⟩
/-! ### texts -/
theorem joinL_len (S : List Nat) : ∀ ps : List (List Nat), (joinL S ps).length ≤ (ps.map List.length).sum + ps.length * S.length
  | [] => by simp [joinL]
  | [p] => by simp [joinL]
  | p :: q :: r => by
    have h := joinL_len S (q :: r)
    show (p ++ (S ++ joinL S (q :: r))).length ≤ _
    simp only [List.length_append, List.map_cons, List.sum_cons, List.length_cons, Nat.add_mul, Nat.one_mul] at h ⊢
    omega
theorem join_len (a : Str) (ys : List Str) : (Txt.join a ys).length ≤ (ys.map (·.length)).sum + ys.length * a.length := by
  rw [join_eq, len_tl, tl_join, len_tl a]
  have h := joinL_len (tl a) (ys.map tl)
  rw [List.map_map, List.length_map] at h
  have e : ys.map (List.length ∘ tl) = ys.map (·.length) := List.map_congr_left fun x _ => (len_tl x).symm
  rw [e] at h
  exact h
theorem sum_len {ys : List Str} {L : Nat} (h : ∀ s ∈ ys, s.length ≤ L) : (ys.map (·.length)).sum ≤ ys.length * L := by
  induction ys with
  | nil => simp
  | cons a r ih =>
    have h1 := h a List.mem_cons_self
    have h2 := ih fun s hs => h s (List.mem_cons_of_mem _ hs)
    simp only [List.map_cons, List.sum_cons, List.length_cons, Nat.add_mul, Nat.one_mul]
    omega
theorem join_size {a : Str} {ys : List Str} {L n A : Nat} (h : ∀ s ∈ ys, s.length ≤ L) (hn : ys.length ≤ n) (ha : a.length ≤ A) : (ys.map (·.length)).sum + ys.length * a.length ≤ n * L + n * A :=
  Nat.add_le_add (Nat.le_trans (sum_len h) (Nat.mul_le_mul_right _ hn)) (Nat.mul_le_mul hn ha)
theorem app_len (a b : Str) : (a ++ b).length = a.length + b.length := by
  rw [len_tl, tl_append, List.length_append, ← len_tl, ← len_tl]
def rRepS : R2 := fun x y H Q => ∃ z i, x = .str z ∧ y = .int i ∧ z.length ≤ 100 ∧ 0 ≤ i ∧ i ≤ 1000 ∧ ∀ s : Str, s.length ≤ z.length * i.toNat → Q (.str s) H
theorem op_repS {X : Cx} : OpR X (binaryOp .Mult) rRepS := by
  intro pins s σ H x y v u Q I rx ry h
  obtain ⟨z, i, rfl, rfl, hz, h0, h1, q⟩ := h
  obtain ⟨t, rfl⟩ := rx
  obtain ⟨t', rfl⟩ := ry
  have hm : z.length * i.toNat ≤ 100 * 1000 := Nat.mul_le_mul hz (by omega)
  refine SB.mul ⟨?_, fun _ _ => ?_, fun _ _ => ?_⟩ (fun t'' k => ⟨.str (Txt.mul z i), H, I.tok _, ⟨_, rfl⟩, q _ ?_⟩)
  · rw [Bool.or_eq_false_iff]
    exact ⟨decide_eq_false (by omega), decide_eq_false (by omega)⟩
  · have h2 : (1000 : Int) ≤ (2 ^ 63 - 1) / i ∨ i = 0 := by
      by_cases e : i = 0
      · exact .inr e
      · left
        rw [Int.le_ediv_iff_mul_le (by omega)]
        omega
    rcases h2 with h2 | h2
    · omega
    · subst h2
      omega
  · have hz2 : sizeLine = 16777216 := sizeLine_eq
    unfold Builtin.Str.tooLong
    exact decide_eq_false (by omega)
  · have hl := PyProof.Rows.len_mul z i
    have e : (if decide (i < 0) = true then 0 else i) = i := by rw [if_neg (by simp; omega)]
    rw [e] at hl
    have e2 : (i.toNat : Int) = i := Int.toNat_of_nonneg h0
    rw [show (z.length : Int) * i = ((z.length * i.toNat : Nat) : Int) by rw [Int.natCast_mul, e2]] at hl
    omega
/-- a list of draws that are texts, made at D -/
def PvS (b D : Addr) (H1 : Hp) (n0 c L : Nat) (i : Nat) (H' : Hp) : Prop := H1 D = none ∧ D ≠ b ∧ ∃ ys : List Str, ys.length = i ∧ (∀ s ∈ ys, s.length ≤ L) ∧ H' D = some (.lst (ys.map V.str)) ∧ Fr b H1 H' ∧ Bag H' b (n0 + c * i)
theorem pvS_0 {b D : Addr} {H1 : Hp} {n0 c L : Nat} (hB : Bag H1 b n0) (hD : H1 D = none) : PvS b D H1 n0 c L 0 (upd H1 D (.lst [])) :=
  ⟨hD, (hB.ne hD).symm, [], rfl, fun _ h => (nomatch h), upd_same, Fr.new hD, (hB.upd (hB.ne hD)).mono (by omega)⟩
theorem pvS_put {b D : Addr} {H1 H' H4 : Hp} {n0 c L i : Nat} {s : Str} (p : PvS b D H1 n0 c L i H') (f4 : Fr b H' H4) (b4 : Bag H4 b (n0 + c * (i + 1))) (hs4 : s.length ≤ L) (hi : i < 100000) :
    ∃ acc, H4 D = some (.lst acc) ∧ acc.length < sizeLine ∧ PvS b D H1 n0 c L (i + 1) (upd H4 D (.lst (acc ++ [V.str s]))) := by
  obtain ⟨hD, n1, ys, hl, hs, hD', hF, hB'⟩ := p
  refine ⟨ys.map V.str, f4 D _ n1 hD', ?_, hD, n1, ys ++ [s], by rw [List.length_append, hl]; rfl, ?_, ?_, (hF.trans f4).upd_p hD, b4.upd n1.symm⟩
  · rw [List.length_map, hl]
    have : sizeLine = 16777216 := sizeLine_eq
    omega
  · intro x hx
    rcases List.mem_append.mp hx with h | h
    · exact hs x h
    · rw [List.mem_singleton.mp h]; exact hs4
  · rw [upd_same, List.map_append]; rfl
/-- a def that draws a text -/
def sp_str (c L : Nat) : Sp := fun vs H Q _ => ∃ (b : Addr) (n : Nat), vs = [.ref b] ∧ Bag H b n ∧ n + c ≤ 1000000 ∧ ∀ (s : Str) H', Fr b H H' → Bag H' b (n + c) → s.length ≤ L → Q (.str s) H'
theorem slen {n : Nat} (h : n ≤ 100000) : n ≤ sizeLine := Nat.le_trans h (by decide)
theorem str_at {xs : List V} {i : Int} {L : Nat} (h0 : 0 ≤ i) (h1 : i < (xs.length : Int)) (h : ∀ v ∈ xs, ∃ s : Str, v = .str s ∧ s.length ≤ L) : ∃ s : Str, atI xs i = some (.str s) ∧ s.length ≤ L := by
  obtain ⟨v, e, a⟩ := atI_in h0 h1
  obtain ⟨s, rfl, hs⟩ := h v (List.mem_of_getElem? e)
  exact ⟨s, a, hs⟩
theorem lenk {α : Type} {xs : List α} (n : Nat) (h : xs.length = n) (hn : n ≤ 100000) : xs.length ≤ sizeLine := slen (by omega)

end K13
namespace K13
open PySem PySem.Spec PyProof.Rows L2 TL
theorem ok_l_cell {P : Program} {w : World} {K : PySem.W.Frag} {mg : Str → Option Value} {base : Heap} (T : Txt P K mg) : FnOk P w K mg base CX0 1 T.f_l_cell T.fd_l_cell ["_law_script", "_law_index"] (sp_cell K) := by
  refine T.F_l_cell.ok sc_l_cell (fun vs H Q E h => ?_) (fun cdv A outer s H vs Q E hr h => ?_)
  · obtain ⟨_, _, _, rfl, _⟩ := h; rfl
  · obtain ⟨l, ns, j, rfl, hS, hj, q⟩ := h
    refine ⟨_, PSs.nox (pss_cons (ps_if (pt_cmpR op_lt (pv 1) (pe_callB (show CallR _ _ (rLenSeq K) from call_len_seq) (by rfl) T.n_len (by decide +kernel) (pa_cons (pv 0) pa_nil)) (nomark _)) (pss_one (ps_ret (pe_ix (show IxR _ (rIxL K) from ix_list) (pv 0) (pv 1) (fun _ _ => rfl)))) pss_nil)
      (pss_one (ps_ret (pe_op op_add (pe_op op_mul pe_int (pv 1)) pe_int)))), ?_⟩
    refine ⟨_, rfl, _, rfl, l, _, rfl, .inl hS, _, _, rfl, rfl, _, rfl, ite2 (fun e => ?_) (fun e => ?_)⟩
    · have e1 := lt_of_dec e
      rw [List.length_map] at e1
      obtain ⟨v, hv⟩ := atI_ints hj e1
      exact ⟨_, rfl, _, rfl, l, _, _, _, rfl, rfl, hS, hv, q v⟩
    · exact ⟨_, rfl, _, _, rfl, rfl, .inl ⟨by decide, by decide⟩, _, _, rfl, rfl, q _⟩
theorem ok_l_bag {P : Program} {w : World} {K : PySem.W.Frag} {mg : Str → Option Value} {base : Heap} (T : Txt P K mg) : FnOk P w K mg base CX0 1 T.f_l_bag T.fd_l_bag ["_law_cell_here"] (sp_bag K) := by
  refine T.F_l_bag.ok sc_l_bag (fun vs H Q E h => ?_) (fun cdv A outer s H vs Q E hr h => ?_)
  · obtain ⟨_, rfl, _⟩ := h; rfl
  · obtain ⟨c, rfl, q⟩ := h
    refine ⟨_, PSs.nox (pss_one (ps_ret (pe_lst (pa_cons (pe_callB (call_max2 rfl) (by rfl) T.n_max (by decide +kernel) (pa_cons pe_int (pa_cons (pe_op op_sub (pv 0) (pe_op op_pow pe_int pe_int)) pa_nil))) (pa_cons (pe_op op_mod (pv 0) pe_int) (pa_cons pe_int pa_nil)))))), ?_⟩
    refine ⟨_, rfl, _, _, rfl, rfl, ⟨by decide, by decide, by decide⟩, _, _, rfl, rfl, _, _, rfl, _, rfl, _, _, rfl, rfl, (show (0 : Int) < _ by decide), ?_⟩
    refine ⟨(by show 3 ≤ sizeLine; decide), fun p np => q p _ (Same.new np) np ⟨_, _, _, upd_same, ?_, (emod_in c (by decide)).1, (emod_in c (by decide)).2, Int.le_refl 0, Int.le_refl 0⟩⟩
    split <;> omega
theorem ok_l_take {P : Program} {w : World} {K : PySem.W.Frag} {mg : Str → Option Value} {base : Heap} (T : Txt P K mg) : FnOk P w K mg base CX0 1 T.f_l_take T.fd_l_take ["_law_bag_here", "_law_count"] (sp_take K) := by
  refine T.F_l_take.ok sc_l_take (fun vs H Q E h => ?_) (fun cdv A outer s H vs Q E hr h => ?_)
  · obtain ⟨_, _, _, rfl, _⟩ := h; rfl
  · obtain ⟨b, n, c, rfl, ⟨x, y, z, hb, hx, hy, hy2, hz, hz2⟩, hn, hc, hc2, q⟩ := h
    have wc : CDivW x c := wide_div hc (b := 200) (by omega) (by decide) (by decide)
    refine ⟨_, PSs.nox (pss_cons (ps_if (pt_cmpR op_gt (pe_ix (show IxR _ (rIxL K) from ix_list) (pv 0) pe_int (fun _ _ => rfl)) pe_int (nomark _)) (pss_cons (ps_set (i := 2) sc_l_take.nd rfl (Or.inl rfl) (pe_op op_mod (pe_ix (show IxR _ (rIxL K) from ix_list) (pv 0) pe_int (fun _ _ => rfl)) (pv 1)))
      (pss_cons (ps_asg (pe_op op_fdivW (pe_ix (show IxR _ (rIxL K) from ix_list) (pv 0) pe_int (fun _ _ => rfl)) (pv 1)) (pg_sub (pv 0) pe_int set_list))
      (pss_one (ps_ret (pv 2))))) pss_nil)
      (pss_cons (ps_asg (pe_op op_add (pe_ix (show IxR _ (rIxL K) from ix_list) (pv 0) pe_int (fun _ _ => rfl)) pe_int) (pg_sub (pv 0) pe_int set_list))
      (pss_cons (ps_set (i := 3) sc_l_take.nd rfl (Or.inl rfl) (pe_op op_mod (pe_op op_pow (pe_op op_add (pe_op op_add (pe_ix (show IxR _ (rIxL K) from ix_list) (pv 0) pe_int (fun _ _ => rfl)) (pe_op op_mul pe_int (pe_ix (show IxR _ (rIxL K) from ix_list) (pv 0) pe_int (fun _ _ => rfl)))) pe_int) pe_int) pe_int))
      (pss_cons (ps_set (i := 3) sc_l_take.nd rfl (Or.inl rfl) (pe_op op_mod (pe_op op_pow (pe_op op_add (pv 3) (pe_op op_mul pe_int (pe_ix (show IxR _ (rIxL K) from ix_list) (pv 0) pe_int (fun _ _ => rfl)))) pe_int) pe_int))
      (pss_one (ps_ret (pe_op op_mod (pe_op op_fdivW (pv 3) pe_int) (pv 1)))))))), ?_⟩
    refine ⟨_, rfl, b, _, _, _, rfl, rfl, SqL.of hb, rfl, _, _, rfl, rfl, _, rfl, ite2 (fun e => ?_) (fun e => ?_)⟩
    · -- a digit of the cell
      refine ⟨_, rfl, b, _, _, _, rfl, rfl, SqL.of hb, rfl, _, rfl, _, _, rfl, rfl, hc, ?_⟩
      refine ⟨_, rfl, b, _, _, _, rfl, rfl, SqL.of hb, rfl, _, rfl, _, _, rfl, rfl, wc, ?_⟩
      refine ⟨_, rfl, b, _, _, 0, rfl, rfl, hb, rfl, ?_⟩
      refine ⟨_, rfl, q _ _ (Fr.upd_b (Fr.refl b H)) ⟨_, _, _, upd_same, Int.ediv_nonneg hx (by omega), hy, hy2, hz, by omega⟩ (emod_in x hc).1 (emod_in x hc).2⟩
    · -- a mixed one
      refine ⟨_, rfl, b, _, _, _, rfl, rfl, SqL.of hb, rfl, _, _, rfl, rfl, ?_⟩
      refine ⟨_, rfl, b, _, _, 2, rfl, rfl, hb, rfl, ?_⟩
      have hb2 : upd H b (.lst ([V.int x, V.int y, V.int z].set 2 (V.int (z + 1)))) b = some (.lst [.int x, .int y, .int (z + 1)]) := upd_same
      refine ⟨_, rfl, b, _, _, _, rfl, rfl, SqL.of hb2, rfl, _, rfl, b, _, _, _, rfl, rfl, SqL.of hb2, rfl, _, _, rfl, rfl, .inl ⟨by decide, by decide⟩, _, _, rfl, rfl, _, _, rfl, rfl, _, _, rfl, rfl, ⟨by decide, by decide, by omega⟩, _, _, rfl, rfl, (show (0 : Int) < _ by decide), ?_⟩
      have m1 := emod_in ((y + 8419 * (z + 1) + 127) ^ (5 : Int).toNat) (m := 2147483647) (by decide)
      generalize (y + 8419 * (z + 1) + 127) ^ (5 : Int).toNat % 2147483647 = t at m1
      refine ⟨_, rfl, _, rfl, b, _, _, _, rfl, rfl, SqL.of hb2, rfl, _, _, rfl, rfl, .inl ⟨by decide, by decide⟩, _, _, rfl, rfl, _, _, rfl, rfl, ⟨by decide, by decide, by omega⟩, _, _, rfl, rfl, (show (0 : Int) < _ by decide), ?_⟩
      have m2 := emod_in ((t + 104729 * (z + 1)) ^ (3 : Int).toNat) (m := 2147483587) (by decide)
      generalize (t + 104729 * (z + 1)) ^ (3 : Int).toNat % 2147483587 = u at m2
      refine ⟨_, rfl, _, _, rfl, rfl, wide_div (by decide) (b := 10) (by decide) (by decide) (by decide), _, rfl, _, _, rfl, rfl, hc, ?_⟩
      exact q _ _ (Fr.upd_b (Fr.refl b H)) ⟨_, _, _, upd_same, hx, hy, hy2, by omega, by omega⟩ (emod_in _ hc).1 (emod_in _ hc).2

end K13
namespace K13
open PySem PySem.Spec PyProof.Rows L2 TL
/-! ### data that stand: variables, events -/
theorem pd_get {α β : Type} {F : α → β → Prop} : ∀ {l₁ : List α} {l₂ : List β} {i : Nat} {x : α}, Paired F l₁ l₂ → l₁[i]? = some x → ∃ y, l₂[i]? = some y ∧ F x y
  | _, _, _, _, .nil, e => by simp at e
  | _, _, 0, _, .cons r _, e => by simp at e; subst e; exact ⟨_, rfl, r⟩
  | _, _, i + 1, x, .cons _ t, e => by
    obtain ⟨y, h1, h2⟩ := pd_get (i := i) (x := x) t (by simpa using e)
    exact ⟨y, by simpa using h1, h2⟩
theorem pd_get' {α β : Type} {F : α → β → Prop} : ∀ {l₁ : List α} {l₂ : List β} {i : Nat} {y : β}, Paired F l₁ l₂ → l₂[i]? = some y → ∃ x, l₁[i]? = some x ∧ F x y
  | _, _, _, _, .nil, e => by simp at e
  | _, _, 0, _, .cons r _, e => by simp at e; subst e; exact ⟨_, rfl, r⟩
  | _, _, i + 1, y, .cons _ t, e => by
    obtain ⟨x, h1, h2⟩ := pd_get' (i := i) (y := y) t (by simpa using e)
    exact ⟨x, by simpa using h1, h2⟩
theorem pd_app {α β : Type} {F : α → β → Prop} : ∀ {a b : List α} {c d : List β}, Paired F a c → Paired F b d → Paired F (a ++ b) (c ++ d)
  | _, _, _, _, .nil, h => h
  | _, _, _, _, .cons r t, h => .cons r (pd_app t h)
theorem pd_map {α β : Type} {F : α → β → Prop} (f : β → α) : ∀ {l : List β}, (∀ y ∈ l, F (f y) y) → Paired F (l.map f) l
  | [], _ => .nil
  | y :: r, h => .cons (h y List.mem_cons_self) (pd_map f fun z hz => h z (List.mem_cons_of_mem _ hz))
/-- what does not stand in W stays -/
def Mv (W : Addr → Prop) (H H' : Hp) : Prop := ∀ a o, ¬ W a → H a = some o → H' a = some o
theorem Mv.of_same {W : Addr → Prop} {H H' : Hp} (h : Same H H') : Mv W H H' := fun a o _ e => h a o e
theorem Mv.of_fr {b : Addr} {H H' : Hp} (h : Fr b H H') : Mv (fun a => a = b) H H' := fun a o n e => h a o n e
/-- a list or a tuple at a place of F -/
def LT (H : Hp) (F : Addr → Prop) (a : Addr) (xs : List V) : Prop := F a ∧ (H a = some (.lst xs) ∨ H a = some (.tup xs))
theorem LT.sq {K : PySem.W.Frag} {H : Hp} {F : Addr → Prop} {a : Addr} {xs : List V} (h : LT H F a xs) : SqL K H a xs ∨ SqT K H a xs := by
  obtain ⟨_, h | h⟩ := h
  · exact .inl (SqL.of h)
  · exact .inr (.inl (.inl h))
theorem LT.mv {H H' : Hp} {F W : Addr → Prop} {a : Addr} {xs : List V} (h : LT H F a xs) (m : Mv W H H') (d : ∀ a, F a → ¬ W a) : LT H' F a xs := by
  obtain ⟨f, h | h⟩ := h
  · exact ⟨f, .inl (m _ _ (d _ f) h)⟩
  · exact ⟨f, .inr (m _ _ (d _ f) h)⟩
def isPair (H : Hp) (G : Addr → Prop) (x : V) (q : Str × Int) : Prop := ∃ t, x = .ref t ∧ G t ∧ H t = some (.tup [.str q.1, .int q.2])
def isTupI (H : Hp) (G : Addr → Prop) (x : V) (ns : List Int) : Prop := ∃ t, x = .ref t ∧ G t ∧ H t = some (.tup (ns.map V.int))
abbrev Row := Str × List Str × List (List Int)
def isRow (H : Hp) (F G : Addr → Prop) (x : V) (r : Row) : Prop := ∃ p a b ys, x = .ref p ∧ F p ∧ H p = some (.tup [.str r.1, .ref a, .ref b]) ∧ LT H F a (r.2.1.map V.str) ∧ LT H F b ys ∧ Paired (isTupI H G) ys r.2.2
def isVars (H : Hp) (F G : Addr → Prop) (v : V) (L : List (Str × Int)) : Prop := ∃ a xs, v = .ref a ∧ LT H F a xs ∧ Paired (isPair H G) xs L
def isEvs (H : Hp) (F G : Addr → Prop) (v : V) (R : List Row) : Prop := ∃ a xs, v = .ref a ∧ LT H F a xs ∧ Paired (isRow H F G) xs R
section
variable {H H' : Hp} {F F' G G' W : Addr → Prop}
theorem isPair.mv {x : V} {q : Str × Int} (h : isPair H G x q) (m : Mv W H H') (d : ∀ a, G a → ¬ W a) : isPair H' G x q := by
  obtain ⟨t, e, g, h⟩ := h
  exact ⟨t, e, g, m _ _ (d _ g) h⟩
theorem isTupI.mv {x : V} {ns : List Int} (h : isTupI H G x ns) (m : Mv W H H') (d : ∀ a, G a → ¬ W a) : isTupI H' G x ns := by
  obtain ⟨t, e, g, h⟩ := h
  exact ⟨t, e, g, m _ _ (d _ g) h⟩
theorem isRow.mv {x : V} {r : Row} (h : isRow H F G x r) (m : Mv W H H') (d : ∀ a, F a → ¬ W a) (d' : ∀ a, G a → ¬ W a) : isRow H' F G x r := by
  obtain ⟨p, a, b, ys, e, f, h, la, lb, hp⟩ := h
  exact ⟨p, a, b, ys, e, f, m _ _ (d _ f) h, la.mv m d, lb.mv m d, Paired.mono (fun _ _ z => z.mv m d') hp⟩
theorem isVars.mv {v : V} {L : List (Str × Int)} (h : isVars H F G v L) (m : Mv W H H') (d : ∀ a, F a → ¬ W a) (d' : ∀ a, G a → ¬ W a) : isVars H' F G v L := by
  obtain ⟨a, xs, e, la, hp⟩ := h
  exact ⟨a, xs, e, la.mv m d, Paired.mono (fun _ _ z => z.mv m d') hp⟩
theorem isEvs.mv {v : V} {R : List Row} (h : isEvs H F G v R) (m : Mv W H H') (d : ∀ a, F a → ¬ W a) (d' : ∀ a, G a → ¬ W a) : isEvs H' F G v R := by
  obtain ⟨a, xs, e, la, hp⟩ := h
  exact ⟨a, xs, e, la.mv m d, Paired.mono (fun _ _ z => z.mv m d d') hp⟩
theorem LT.wk {a : Addr} {xs : List V} (h : LT H F a xs) (f : ∀ a, F a → F' a) : LT H F' a xs := ⟨f _ h.1, h.2⟩
theorem isPair.wk {x : V} {q : Str × Int} (h : isPair H G x q) (f : ∀ a, G a → G' a) : isPair H G' x q := by
  obtain ⟨t, e, g, h⟩ := h
  exact ⟨t, e, f _ g, h⟩
theorem isTupI.wk {x : V} {ns : List Int} (h : isTupI H G x ns) (f : ∀ a, G a → G' a) : isTupI H G' x ns := by
  obtain ⟨t, e, g, h⟩ := h
  exact ⟨t, e, f _ g, h⟩
theorem isRow.wk {x : V} {r : Row} (h : isRow H F G x r) (f : ∀ a, F a → F' a) (g : ∀ a, G a → G' a) : isRow H F' G' x r := by
  obtain ⟨p, a, b, ys, e, ff, h, la, lb, hp⟩ := h
  exact ⟨p, a, b, ys, e, f _ ff, h, la.wk f, lb.wk f, Paired.mono (fun _ _ z => z.wk g) hp⟩
theorem isVars.wk {v : V} {L : List (Str × Int)} (h : isVars H F G v L) (f : ∀ a, F a → F' a) (g : ∀ a, G a → G' a) : isVars H F' G' v L := by
  obtain ⟨a, xs, e, la, hp⟩ := h
  exact ⟨a, xs, e, la.wk f, Paired.mono (fun _ _ z => z.wk g) hp⟩
theorem isEvs.wk {v : V} {R : List Row} (h : isEvs H F G v R) (f : ∀ a, F a → F' a) (g : ∀ a, G a → G' a) : isEvs H F' G' v R := by
  obtain ⟨a, xs, e, la, hp⟩ := h
  exact ⟨a, xs, e, la.wk f, Paired.mono (fun _ _ z => z.wk f g) hp⟩
theorem isPair.same {x : V} {q : Str × Int} (h : isPair H G x q) (m : Same H H') : isPair H' G x q := h.mv (Mv.of_same m (W := fun _ => False)) fun _ _ z => z
theorem isTupI.same {x : V} {ns : List Int} (h : isTupI H G x ns) (m : Same H H') : isTupI H' G x ns := h.mv (Mv.of_same m (W := fun _ => False)) fun _ _ z => z
theorem isRow.same {x : V} {r : Row} (h : isRow H F G x r) (m : Same H H') : isRow H' F G x r := h.mv (Mv.of_same m (W := fun _ => False)) (fun _ _ z => z) fun _ _ z => z
theorem isVars.same {v : V} {L : List (Str × Int)} (h : isVars H F G v L) (m : Same H H') : isVars H' F G v L := h.mv (Mv.of_same m (W := fun _ => False)) (fun _ _ z => z) fun _ _ z => z
theorem isEvs.same {v : V} {R : List Row} (h : isEvs H F G v R) (m : Same H H') : isEvs H' F G v R := h.mv (Mv.of_same m (W := fun _ => False)) (fun _ _ z => z) fun _ _ z => z
theorem LT.same {a : Addr} {xs : List V} (h : LT H F a xs) (m : Same H H') : LT H' F a xs := h.mv (Mv.of_same m (W := fun _ => False)) fun _ _ z => z
end
/-- a row whose scope and bad tuples are lists -/
def isRowS (H : Hp) (F G : Addr → Prop) (x : V) (r : Row) : Prop := ∃ p a b ys, x = .ref p ∧ F p ∧ H p = some (.tup [.str r.1, .ref a, .ref b]) ∧ (F a ∧ H a = some (.lst (r.2.1.map V.str))) ∧ (F b ∧ H b = some (.lst ys)) ∧ Paired (isTupI H G) ys r.2.2
section
variable {H H' : Hp} {F F' G G' W : Addr → Prop}
theorem isRowS.row {x : V} {r : Row} (h : isRowS H F G x r) : isRow H F G x r := by
  obtain ⟨p, a, b, ys, e, f, h, la, lb, hp⟩ := h
  exact ⟨p, a, b, ys, e, f, h, ⟨la.1, .inl la.2⟩, ⟨lb.1, .inl lb.2⟩, hp⟩
theorem isRowS.mv {x : V} {r : Row} (h : isRowS H F G x r) (m : Mv W H H') (d : ∀ a, F a → ¬ W a) (d' : ∀ a, G a → ¬ W a) : isRowS H' F G x r := by
  obtain ⟨p, a, b, ys, e, f, h, la, lb, hp⟩ := h
  exact ⟨p, a, b, ys, e, f, m _ _ (d _ f) h, ⟨la.1, m _ _ (d _ la.1) la.2⟩, ⟨lb.1, m _ _ (d _ lb.1) lb.2⟩, Paired.mono (fun _ _ z => z.mv m d') hp⟩
theorem isRowS.wk {x : V} {r : Row} (h : isRowS H F G x r) (f : ∀ a, F a → F' a) (g : ∀ a, G a → G' a) : isRowS H F' G' x r := by
  obtain ⟨p, a, b, ys, e, ff, h, la, lb, hp⟩ := h
  exact ⟨p, a, b, ys, e, f _ ff, h, ⟨f _ la.1, la.2⟩, ⟨f _ lb.1, lb.2⟩, Paired.mono (fun _ _ z => z.wk g) hp⟩
theorem isRowS.same {x : V} {r : Row} (h : isRowS H F G x r) (m : Same H H') : isRowS H' F G x r := h.mv (Mv.of_same m (W := fun _ => False)) (fun _ _ z => z) fun _ _ z => z
end
/-! ### what is asked of them -/
def NameOk (s : Str) : Prop := 1 ≤ (tl s).length ∧ (tl s).length ≤ 8 ∧ ∀ c ∈ tl s, 97 ≤ c ∧ c ≤ 122
def sizeOf (L : List (Str × Int)) (x : Str) : Int := ((L.find? fun q => decide (q.1 = x)).map (·.2)).getD 0
structure VarsOk (L : List (Str × Int)) : Prop where
  pos : 1 ≤ L.length
  few : L.length ≤ 8
  nm : ∀ q ∈ L, NameOk q.1
  sz : ∀ q ∈ L, 1 ≤ q.2 ∧ q.2 ≤ 6
  nd : (L.map (·.1)).Nodup
structure RowOk (L : List (Str × Int)) (r : Row) : Prop where
  nm : NameOk r.1
  pos : 1 ≤ r.2.1.length
  few : r.2.1.length ≤ 4
  sub : ∀ x ∈ r.2.1, x ∈ L.map (·.1)
  nd : r.2.1.Nodup
  bfew : r.2.2.length ≤ 12
  bnd : r.2.2.Nodup
  bl : ∀ ns ∈ r.2.2, ns.length = r.2.1.length
  bv : ∀ ns ∈ r.2.2, ∀ (i : Nat) (x : Str) (v : Int), r.2.1[i]? = some x → ns[i]? = some v → 0 ≤ v ∧ v < sizeOf L x
structure EvsOk (L : List (Str × Int)) (R : List Row) : Prop where
  few : R.length ≤ 8
  ok : ∀ r ∈ R, RowOk L r
  nd : (R.map (·.1)).Nodup

end K13
namespace K13
open PySem PySem.Spec PyProof.Rows L2 TL
/-! ### names that share a stem -/
theorem joinL_nil : ∀ ps : List (List Nat), joinL [] ps = ps.flatten
  | [] => rfl
  | [p] => by simp [joinL]
  | p :: q :: r => by
    show p ++ ([] ++ joinL [] (q :: r)) = _
    rw [joinL_nil (q :: r)]
    simp
theorem tl_join0 (ys : List Str) : tl (Txt.join (Str.ofString "") ys) = (ys.map tl).flatten := by
  rw [join_eq, tl_join, show tl (Str.ofString "") = [] by decide +kernel, joinL_nil]
theorem tl_cut0 (z : Str) (a : Nat) : tl (cutS z none (some (a : Int))) = (tl z).take a := by
  show ((z.cps.toList.drop 0).take (HT.sIx z.length z.length (some (a : Int)) - 0)) = _
  rw [HT.sIx_nat, List.drop_zero, Nat.sub_zero, show z.length = (tl z).length from len_tl z]
  show (tl z).take _ = _
  rw [← List.take_take, List.take_length]
theorem tl_cut2 (z : Str) (a b : Nat) (h : a ≤ (tl z).length) : tl (cutS z (some (a : Int)) (some (b : Int))) = ((tl z).drop a).take (b - a) := by
  show ((z.cps.toList.drop (HT.sIx z.length 0 (some (a : Int)))).take (HT.sIx z.length z.length (some (b : Int)) - HT.sIx z.length 0 (some (a : Int)))) = _
  rw [HT.sIx_nat, HT.sIx_nat, show z.length = (tl z).length from len_tl z, Nat.min_eq_left h]
  show ((tl z).drop a).take _ = _
  by_cases hb : b ≤ (tl z).length
  · rw [Nat.min_eq_left hb]
  · rw [Nat.min_eq_right (by omega), List.take_of_length_le (by rw [List.length_drop]; omega), List.take_of_length_le (by rw [List.length_drop]; omega)]
def AZ : Str := Str.ofString "abcdefghijklmnopqrstuvwxyz"
theorem az_list : AZ.cps.toList = List.range' 97 26 := by decide +kernel
theorem az_at {d : Int} (h0 : 0 ≤ d) (h1 : d < 26) : atI AZ.cps.toList d = some (97 + d.toNat) := by
  have e : ((d.toNat : Nat) : Int) = d := Int.toNat_of_nonneg h0
  have h := atI_nat (xs := AZ.cps.toList) (j := d.toNat) (v := 97 + d.toNat) (by rw [az_list, List.getElem?_range' (by omega)]; simp)
  rw [e] at h
  exact h
theorem az_len : AZ.length ≤ sizeLine := slen (by decide +kernel)
/-- a list of draws that are texts of a kind, made at D -/
def PvP (b D : Addr) (H1 : Hp) (n0 c : Nat) (P : Str → Prop) (i : Nat) (H' : Hp) : Prop := H1 D = none ∧ D ≠ b ∧ ∃ ys : List Str, ys.length = i ∧ (∀ s ∈ ys, P s) ∧ H' D = some (.lst (ys.map V.str)) ∧ Fr b H1 H' ∧ Bag H' b (n0 + c * i)
theorem pvP_0 {b D : Addr} {H1 : Hp} {n0 c : Nat} {P : Str → Prop} (hB : Bag H1 b n0) (hD : H1 D = none) : PvP b D H1 n0 c P 0 (upd H1 D (.lst [])) :=
  ⟨hD, (hB.ne hD).symm, [], rfl, fun _ h => (nomatch h), upd_same, Fr.new hD, (hB.upd (hB.ne hD)).mono (by omega)⟩
theorem pvP_put {b D : Addr} {H1 H' H4 : Hp} {n0 c i : Nat} {P : Str → Prop} {s : Str} (p : PvP b D H1 n0 c P i H') (f4 : Fr b H' H4) (b4 : Bag H4 b (n0 + c * (i + 1))) (hs4 : P s) (hi : i < 100000) :
    ∃ acc, H4 D = some (.lst acc) ∧ acc.length < sizeLine ∧ PvP b D H1 n0 c P (i + 1) (upd H4 D (.lst (acc ++ [V.str s]))) := by
  obtain ⟨hD, n1, ys, hl, hs, hD', hF, hB'⟩ := p
  refine ⟨ys.map V.str, f4 D _ n1 hD', ?_, hD, n1, ys ++ [s], by rw [List.length_append, hl]; rfl, ?_, ?_, (hF.trans f4).upd_p hD, b4.upd n1.symm⟩
  · rw [List.length_map, hl]
    have : sizeLine = 16777216 := sizeLine_eq
    omega
  · intro x hx
    rcases List.mem_append.mp hx with h | h
    · exact hs x h
    · rw [List.mem_singleton.mp h]; exact hs4
  · rw [upd_same, List.map_append]; rfl
def One (s : Str) : Prop := ∃ c : Nat, s = ⟨#[c]⟩ ∧ 97 ≤ c ∧ c ≤ 122
theorem one_flat : ∀ {ys : List Str}, (∀ s ∈ ys, One s) → (ys.map tl).flatten.length = ys.length ∧ ∀ c ∈ (ys.map tl).flatten, 97 ≤ c ∧ c ≤ 122
  | [], _ => ⟨rfl, by simp⟩
  | y :: r, h => by
    obtain ⟨h1, h2⟩ := one_flat (ys := r) fun s hs => h s (List.mem_cons_of_mem _ hs)
    obtain ⟨c, rfl, c1, c2⟩ := h y List.mem_cons_self
    have e : tl (⟨#[c]⟩ : Str) = [c] := rfl
    rw [List.map_cons, List.flatten_cons, e]
    refine ⟨by rw [List.length_append, h1]; simp; omega, fun x hx => ?_⟩
    rcases List.mem_append.mp hx with q | q
    · rw [List.mem_singleton.mp q]; exact ⟨c1, c2⟩
    · exact h2 x q
/-- the j-th name of a stem -/
def Shp (S : List Nat) (a : Nat) (f s : Int) (j : Nat) (y : Str) : Prop := ∃ m, a + m ≤ 7 ∧ tl y = S.take a ++ ((97 + ((f + s * (j : Int)) % 26).toNat) :: (S.drop a).take m)
theorem Shp.len {S : List Nat} {a : Nat} {f s : Int} {j : Nat} {y : Str} (h : Shp S a f s j y) (hS : S.length = 7) (ha : a < 8) : ∃ m, a + m ≤ 7 ∧ (tl y).length = a + 1 + m := by
  obtain ⟨m, hm, e⟩ := h
  refine ⟨m, hm, ?_⟩
  rw [e, List.length_append, List.length_take, List.length_cons, List.length_take, List.length_drop, hS]
  omega
theorem Shp.name {S : List Nat} {a : Nat} {f s : Int} {j : Nat} {y : Str} (h : Shp S a f s j y) (hS : S.length = 7) (hc : ∀ c ∈ S, 97 ≤ c ∧ c ≤ 122) (ha : a < 8) : NameOk y := by
  obtain ⟨m, hm, hl⟩ := h.len hS ha
  obtain ⟨m', hm', e⟩ := h
  refine ⟨by omega, by omega, fun c hcm => ?_⟩
  rw [e] at hcm
  rcases List.mem_append.mp hcm with q | q
  · exact hc c (List.mem_of_mem_take q)
  · rcases List.mem_cons.mp q with q | q
    · have := emod_in (f + s * (j : Int)) (m := 26) (by decide)
      omega
    · exact hc c (List.mem_of_mem_drop (List.mem_of_mem_take q))
theorem Shp.at {S : List Nat} {a : Nat} {f s : Int} {j : Nat} {y : Str} (h : Shp S a f s j y) (hS : S.length = 7) (ha : a < 8) : (tl y)[a]? = some (97 + ((f + s * (j : Int)) % 26).toNat) := by
  obtain ⟨m, hm, e⟩ := h
  rw [e, List.getElem?_append_right (by rw [List.length_take]; omega), List.length_take, hS, Nat.min_eq_left (by omega), Nat.sub_self]
  rfl
def stepsL : List Int := [1, 3, 5, 7, 9, 11, 15, 17]
theorem step_ne {s : Int} (hs : s ∈ stepsL) {d : Nat} (h1 : 1 ≤ d) (h2 : d < 8) : s * (d : Int) % 26 ≠ 0 := by
  have h : (stepsL.all fun s => (List.range' 1 7).all fun d => decide (s * (d : Int) % 26 ≠ 0)) = true := by decide +kernel
  have h3 := List.all_eq_true.mp (List.all_eq_true.mp h s hs) d (by simp [List.mem_range']; exact ⟨d - 1, by omega, by omega⟩)
  exact of_decide_eq_true h3
theorem step_inj {f s : Int} (hs : s ∈ stepsL) {j k : Nat} (hjk : j < k) (hk : k < 8) : ((f + s * (j : Int)) % 26).toNat ≠ ((f + s * (k : Int)) % 26).toNat := by
  intro e
  have a1 := emod_in (f + s * (j : Int)) (m := 26) (by decide)
  have a2 := emod_in (f + s * (k : Int)) (m := 26) (by decide)
  have e2 : (f + s * (j : Int)) % 26 = (f + s * (k : Int)) % 26 := by omega
  have e3 : s * ((k - j : Nat) : Int) = s * (k : Int) - s * (j : Int) := by
    rw [← Int.mul_sub]
    congr 1
    omega
  refine step_ne hs (d := k - j) (by omega) (by omega) ?_
  rw [e3]
  omega
theorem nodup_of_key {α β : Type} {l : List α} (key : α → β) (h : ∀ (i j : Nat) (x y : α), i < j → l[i]? = some x → l[j]? = some y → key x ≠ key y) : l.Nodup := by
  rw [List.nodup_iff_pairwise_ne, List.pairwise_iff_getElem]
  intro i j hi hj hij e
  exact h i j _ _ hij (List.getElem?_eq_getElem hi) (List.getElem?_eq_getElem hj) (by rw [e])
def sp_names : Sp := fun vs H Q _ => ∃ (b : Addr) (n : Nat) (c : Int), vs = [.ref b, .int c] ∧ Bag H b n ∧ n + 30 ≤ 1000000 ∧ 0 ≤ c ∧ c ≤ 8 ∧
  ∀ (p : Addr) (ys : List Str) H', Fr b H H' → H p = none → p ≠ b → H' p = some (.lst (ys.map V.str)) → (ys.length : Int) = c → (∀ y ∈ ys, NameOk y) → ys.Nodup → Bag H' b (n + 30) → Q (.ref p) H'
theorem ok_l_names {P : Program} {w : World} {K : PySem.W.Frag} {mg : Str → Option Value} {base : Heap} (T : Txt P K mg) : FnOk P w K mg base CX0 2 T.f_l_names T.fd_l_names ["_law_bag_here", "_law_count"] (sp_names) := by
  refine T.F_l_names.ok sc_l_names (fun vs H Q E h => ?_) (fun cdv A outer s H vs Q E hr h => ?_)
  · obtain ⟨_, _, _, rfl, _⟩ := h; rfl
  · obtain ⟨b, n, c, rfl, hB, hn, c0, c8, q⟩ := h
    refine ⟨_, PSs.nox (pss_cons (ps_set (i := 2) sc_l_names.nd rfl (Or.inr rfl) pe_str)
      (pss_cons (ps_set (i := 4) sc_l_names.nd rfl (Or.inl rfl) (pe_join pe_str (pe_lc (own := [("_law_index", 3)]) (g := gName 3) rfl sc_l_names.nd (pi_range1 (by rfl) T.n_range (pa_cons pe_int pa_nil)) (blkOk_by (own := [("_law_index", 3)]) (N := N_l_names) (sc := defScope s_l_names) (by decide +kernel)) (fun _ _ _ _ _ => (pg_name (i := 3) sc_l_names.nd rfl (Or.inl rfl))) (fun _ _ _ _ _ => pts_nil) (fun _ _ _ _ _ => (pe_ix ix_str (pv 2) (pe_call (ok_l_take T) (hr.mono (by decide)) (by rfl) T.g_l_take T.F_l_take.kp (b_l_take T) .nil pass0 (pa_cons (pv 0) (pa_cons pe_int pa_nil))) (fun _ _ => rfl))))))
      (pss_cons (ps_par3 (i := 5) (j := 6) (l := 7) (by rfl) sc_l_names.nd rfl rfl rfl (by decide) (by decide) (by decide) rfl rfl rfl (pa_cons (pe_call (ok_l_take T) (hr.mono (by decide)) (by rfl) T.g_l_take T.F_l_take.kp (b_l_take T) .nil pass0 (pa_cons (pv 0) (pa_cons pe_int pa_nil))) (pa_cons (pe_call (ok_l_take T) (hr.mono (by decide)) (by rfl) T.g_l_take T.F_l_take.kp (b_l_take T) .nil pass0 (pa_cons (pv 0) (pa_cons pe_int pa_nil))) (pa_cons (pe_ix (show IxR _ (rIxL K) from ix_list) (pe_lst (pa_cons pe_int (pa_cons pe_int (pa_cons pe_int (pa_cons pe_int (pa_cons pe_int (pa_cons pe_int (pa_cons pe_int (pa_cons pe_int pa_nil))))))))) (pe_call (ok_l_take T) (hr.mono (by decide)) (by rfl) T.g_l_take T.F_l_take.kp (b_l_take T) .nil pass0 (pa_cons (pv 0) (pa_cons pe_int pa_nil))) (fun _ _ => rfl)) pa_nil))) (by rfl))
      (pss_cons (ps_set (i := 8) sc_l_names.nd rfl (Or.inl rfl) (pe_lst pa_nil))
      (pss_cons (ps_for PassesOwn.never rfl (pi_range1 (by rfl) T.n_range (pa_cons (pv 1) pa_nil)) (pg_name (i := 3) sc_l_names.nd rfl (Or.inl rfl)) (pss_cons (ps_set (i := 9) sc_l_names.nd rfl (Or.inl rfl) (pe_op op_add_str (pe_slice sl_str (pv 4) po_none (po_some (pv 5))) (pe_ix ix_str (pv 2) (pe_op op_mod (pe_op op_add (pv 6) (pe_op op_mul (pv 7) (pv 3))) pe_int) (fun _ _ => rfl))))
      (pss_one (ps_expr (pe_bm PySem.F.plainAttrs_list PySem.F.slot_list_append PySem.F.type_list_append mt_append (pv 8) (pa_cons (pe_op op_add_str (pv 9) (pe_slice sl_str (pv 4) (po_some (pv 5)) (po_some (pe_op op_add (pv 5) (pe_call (ok_l_take T) (hr.mono (by decide)) (by rfl) T.g_l_take T.F_l_take.kp (b_l_take T) .nil pass0 (pa_cons (pv 0) (pa_cons (pe_op op_sub pe_int (pv 5)) pa_nil))))))) pa_nil))))))
      (pss_cons (ps_if (PW.pt (pw_and (pt_cmpR op_gt (pv 1) pe_int (nomark _)) (pw_and (pt_cmpR op_lt (pe_callB call_len_str (by rfl) T.n_len (by decide +kernel) (pa_cons (pe_ix (show IxR _ (rIxL K) from ix_list) (pv 8) pe_int (fun _ _ => rfl)) pa_nil)) pe_int (nomark _)) (pw_and1 (pt_cmpR op_eq (pe_call (ok_l_take T) (hr.mono (by decide)) (by rfl) T.g_l_take T.F_l_take.kp (b_l_take T) .nil pass0 (pa_cons (pv 0) (pa_cons pe_int pa_nil))) pe_int (nomark _)))))) (pss_one (ps_asg (pe_op op_add_str (pe_ix (show IxR _ (rIxL K) from ix_list) (pv 8) pe_int (fun _ _ => rfl)) (pe_ix ix_str (pv 2) (pe_call (ok_l_take T) (hr.mono (by decide)) (by rfl) T.g_l_take T.F_l_take.kp (b_l_take T) .nil pass0 (pa_cons (pv 0) (pa_cons pe_int pa_nil))) (fun _ _ => rfl))) (pg_sub (pv 8) pe_int set_list))) pss_nil)
      (pss_one (ps_ret (pv 8))))))))), ?_⟩
    refine ⟨⟨_, rfl⟩, 7, rfl, by decide, by decide, fun D nD => lc_range (PvP b D H n 1 One) (pvP_0 hB nD) (fun i H' hi p => ⟨rfl, ?_⟩) (fun H2 p => ?_)⟩
    · obtain ⟨-, -, ys, -, -, -, -, hb'⟩ := _root_.id p
      refine ⟨_, rfl, _, rfl, b, _, 26, rfl, hb', by omega, by decide, by decide, fun d2 H3 f3 b3 d20 d21 => ?_⟩
      exact ⟨_, _, _, rfl, rfl, az_len, az_at d20 d21, pvP_put p f3 (b3.mono (by omega)) ⟨_, rfl, by omega, by omega⟩ (by omega)⟩
    · obtain ⟨hD0, nDb, ys, hl, hs, hD, f2, b2⟩ := p
      obtain ⟨o1, o2⟩ := one_flat hs
      have hjs := join_size (a := Str.ofString "") (L := 1) (fun s hs' => by obtain ⟨c, rfl, _⟩ := hs s hs'; exact Nat.le_refl _) (n := 7) (A := 0) (by rw [hl]; decide) (by decide +kernel)
      refine ⟨_, D, ys, rfl, rfl, .inl (SqL.of hD), by omega, ?_⟩
      have hst := tl_join0 ys
      generalize Txt.join (Str.ofString "") ys = stem at hst
      generalize hSS : (ys.map tl).flatten = S at hst o1 o2
      have hS7 : S.length = 7 := by rw [o1, hl]; rfl
      have hsl : stem.length = 7 := by rw [len_tl, hst, hS7]
      clear hjs hs hSS hD
      -- at, first, step
      refine ⟨_, rfl, b, _, 8, rfl, b2, by omega, by decide, by decide, fun d1 H3 f3 b3 d10 d11 => ?_⟩
      refine ⟨_, rfl, b, _, 26, rfl, b3, by omega, by decide, by decide, fun d2 H4 f4 b4 d20 d21 => ?_⟩
      refine ⟨lenk 8 rfl (by decide), fun p1 np1 => ?_⟩
      have nb1 := b4.ne np1
      refine ⟨_, rfl, b, _, 8, rfl, b4.upd nb1, by omega, by decide, by decide, fun d3 H5 f5 b5 d30 d31 => ?_⟩
      have hp1 := f5 p1 _ (Ne.symm nb1) upd_same
      obtain ⟨sv, hsv, _⟩ := atI_in (xs := stepsL) d30 (by show d3 < 8; exact d31)
      have hav' : atI (stepsL.map V.int) d3 = some (.int sv) := by
        have e : ((d3.toNat : Nat) : Int) = d3 := Int.toNat_of_nonneg d30
        have := atI_nat (xs := stepsL.map V.int) (j := d3.toNat) (v := .int sv) (by rw [List.getElem?_map, hsv]; rfl)
        rw [e] at this
        exact this
      have hsm : sv ∈ stepsL := List.mem_of_getElem? hsv
      refine ⟨p1, _, _, _, rfl, rfl, SqL.of hp1, hav', ?_⟩
      have F6 : Fr b H H5 := ((f2.trans f3).trans f4).trans ((Fr.new np1).trans f5)
      have B6 := b5
      refine ⟨_, _, _, rfl, ?_⟩
      generalize H5 = H6 at F6 B6
      obtain ⟨a, rfl⟩ := Int.eq_ofNat_of_zero_le d10
      have ha : a < 8 := by omega
      refine ⟨Nat.zero_le _, fun D2 nD2 => ?_⟩
      have nb3 := B6.ne nD2
      refine ⟨_, rfl, c, rfl, by omega, by omega, for_it walk_range (fun i σ H' => ∃ (ys : List Str) (xi x9 : Option V), σ = [some (.ref b), some (.int c), some (.str AZ), xi, some (.str stem), some (.int (a : Int)), some (.int d2), some (.int sv), some (.ref D2), x9] ∧
        Fr b H6 H' ∧ Bag H' b (n + 1 * 7 + 1 + 1 + 1 + i) ∧ H' D2 = some (.lst (ys.map V.str)) ∧ ys.length = i ∧ ∀ j y, ys[j]? = some y → Shp S a d2 sv j y) ?_ (fun _ _ _ _ _ => trivial) ?_ ?_⟩
      · exact ⟨[], _, _, rfl, Fr.new nD2, B6.upd nb3, upd_same, rfl, fun j y h => by simp at h⟩
      · intro i x σ H' H'' hi' pp yy
        obtain ⟨ys, xi, x9, rfl, f7, b7, hD7, hl7, hs7⟩ := pp
        obtain ⟨rfl, rfl⟩ := yy
        have hi8 : (i : Int) < c := by omega
        have e1 := tl_cut0 stem a
        have l1 := cutS_length stem none (some (a : Int))
        have sb : 1 ≤ sv ∧ sv ≤ 17 := by
          have : ∀ s ∈ stepsL, 1 ≤ s ∧ s ≤ 17 := by decide
          exact this sv hsm
        refine ⟨_, rfl, _, rfl, _, rfl, _, rfl, slen (by omega), _, rfl, _, rfl, _, rfl, _, rfl, _, _, rfl, rfl, .inl ⟨by omega, by omega⟩, _, _, rfl, rfl, _, _, rfl, rfl, (show (0 : Int) < 26 by decide), ?_⟩
        have m1 := emod_in (d2 + sv * (0 + (i : Nat))) (m := 26) (by decide)
        refine ⟨_, _, _, rfl, rfl, az_len, az_at m1.1 m1.2, _, _, rfl, rfl, slen (by have : (⟨#[97 + ((d2 + sv * (0 + (i : Nat))) % 26).toNat]⟩ : Str).length = 1 := rfl; omega), ?_⟩
        refine ⟨_, rfl, .inl ⟨rfl, _, SqL.of hD7⟩, _, rfl, _, rfl, _, rfl, ?_⟩
        refine ⟨_, rfl, _, rfl, _, rfl, _, rfl, _, _, rfl, rfl, b, _, _, rfl, b7, by omega, by omega, by omega, fun d7 H8 f8 b8 d70 d71 => ?_⟩
        obtain ⟨m, rfl⟩ := Int.eq_ofNat_of_zero_le d70
        have hD8 := f8 D2 _ (Ne.symm nb3) hD7
        refine ⟨_, _, rfl, rfl, _, rfl, _, rfl, slen (by omega), ?_⟩
        have l2 := cutS_length stem (some (a : Int)) (some ((a : Int) + (m : Int)))
        have e2 := tl_cut2 stem a (a + m) (by rw [hst, hS7]; omega)
        rw [Int.natCast_add, Nat.add_sub_cancel_left] at e2
        have l3 : (⟨#[97 + ((d2 + sv * (0 + (i : Nat))) % 26).toNat]⟩ : Str).length = 1 := rfl
        refine ⟨_, _, rfl, rfl, slen (by rw [app_len]; omega), D2, _, _, rfl, rfl, hD8, by rw [List.length_map, hl7, sizeLine_eq]; omega, ?_⟩
        refine ⟨ys ++ [(cutS stem none (some (a : Int)) ++ ⟨#[97 + ((d2 + sv * (0 + (i : Nat))) % 26).toNat]⟩) ++ cutS stem (some (a : Int)) (some ((a : Int) + (m : Int)))], _, _, rfl, (f7.trans f8).upd_p nD2, (b8.upd nb3).mono (by omega), by rw [upd_same, List.map_append]; rfl, by rw [List.length_append, hl7]; rfl, fun j y hj => ?_⟩
        by_cases hji : j < ys.length
        · rw [List.getElem?_append_left hji] at hj
          exact hs7 j y hj
        · have hjl : j < (ys ++ [(cutS stem none (some (a : Int)) ++ ⟨#[97 + ((d2 + sv * (0 + (i : Nat))) % 26).toNat]⟩) ++ cutS stem (some (a : Int)) (some ((a : Int) + (m : Int)))]).length := (List.getElem?_eq_some_iff.mp hj).1
          have ej : j = i := by rw [List.length_append, hl7] at hjl; simp at hjl; omega
          rw [List.getElem?_append_right (by omega), ej, hl7, Nat.sub_self] at hj
          have ey := Option.some.inj hj
          subst ey
          refine ⟨m, by omega, ?_⟩
          rw [tl_append, tl_append, e1, e2, hst, ej]
          show S.take a ++ [97 + ((d2 + sv * (0 + (i : Nat))) % 26).toNat] ++ (S.drop a).take m = _
          rw [Int.zero_add, List.append_assoc]
          rfl
      · intro σ H' pp
        obtain ⟨ys, xi, x9, rfl, f7, b7, hD7, hl7, hs7⟩ := pp
        have okn : ∀ y ∈ ys, NameOk y := fun y hy => by
          obtain ⟨j, hj⟩ := List.getElem?_of_mem hy
          exact (hs7 j y hj).name hS7 o2 ha
        have lt8 : ∀ {j : Nat} {y : Str}, ys[j]? = some y → j < 8 := fun h => by
          have := (List.getElem?_eq_some_iff.mp h).1
          omega
        have nd : ys.Nodup := nodup_of_key (fun y => (tl y)[a]?) fun i j x y hij hx hy e => by
          rw [(hs7 i x hx).at hS7 ha, (hs7 j y hy).at hS7 ha] at e
          exact step_inj (f := d2) hsm hij (lt8 hy) (by have := Option.some.inj e; omega)
        have nDH : H D2 = none := F6.free (Ne.symm nb3) nD2
        refine ⟨_, rfl, _, _, rfl, rfl, _, rfl, ite2 (fun c1 => ?_) (fun c1 => ⟨_, rfl, q D2 ys H' (F6.trans f7) nDH (Ne.symm nb3) hD7 (by omega) okn nd (b7.mono (by omega))⟩)⟩
        have hc1 := lt_of_dec c1
        have l0 : 0 < ys.length := by omega
        have y0 : ys[0]? = some ys[0] := List.getElem?_eq_getElem l0
        have a0 : atI (ys.map V.str) ((0 : Nat) : Int) = some (.str ys[0]) := atI_nat (by rw [List.getElem?_map, y0]; rfl)
        obtain ⟨m0, hm0, hlen0⟩ := (hs7 0 _ y0).len hS7 ha
        have sl0 : (ys[0]).length ≤ 8 := by rw [len_tl]; omega
        refine ⟨_, rfl, D2, _, _, _, rfl, rfl, SqL.of hD7, a0, _, rfl, slen (by omega), _, _, rfl, rfl, _, rfl, ite2 (fun c2 => ?_) (fun c2 => ⟨_, rfl, q D2 ys H' (F6.trans f7) nDH (Ne.symm nb3) hD7 (by omega) okn nd (b7.mono (by omega))⟩)⟩
        have hc2 := lt_of_dec c2
        refine ⟨_, rfl, b, _, 3, rfl, b7, by omega, by decide, by decide, fun d8 H8 f8 b8 d80 d81 => ?_⟩
        have hD8 := f8 D2 _ (Ne.symm nb3) hD7
        refine ⟨rfl, _, rfl, ite2 (fun c3 => ?_) (fun c3 => ⟨_, rfl, q D2 ys H8 ((F6.trans f7).trans f8) nDH (Ne.symm nb3) hD8 (by omega) okn nd (b8.mono (by omega))⟩)⟩
        refine ⟨_, rfl, D2, _, _, _, rfl, rfl, SqL.of hD8, a0, _, rfl, _, rfl, b, _, 26, rfl, b8, by omega, by decide, by decide, fun d9 H9 f9 b9 d90 d91 => ?_⟩
        have hD9 := f9 D2 _ (Ne.symm nb3) hD8
        have l3 : (⟨#[97 + d9.toNat]⟩ : Str).length = 1 := rfl
        refine ⟨_, _, _, rfl, rfl, az_len, az_at d90 d91, _, _, rfl, rfl, slen (by omega), _, rfl, D2, _, 1, 1, rfl, rfl, hD9, by unfold ixN; rw [if_pos (by decide), if_pos (by rw [List.length_map]; omega)]; rfl, ?_⟩
        have sh : ∀ (j : Nat) (y : Str), (ys.set 1 (ys[0] ++ ⟨#[97 + d9.toNat]⟩))[j]? = some y → (j = 1 ∧ y = ys[0] ++ ⟨#[97 + d9.toNat]⟩) ∨ (j ≠ 1 ∧ ys[j]? = some y) := fun j y hj => by
          by_cases h1 : j = 1
          · subst h1
            rw [List.getElem?_set_self (by omega)] at hj
            exact .inl ⟨rfl, (Option.some.inj hj).symm⟩
          · rw [List.getElem?_set_ne (Ne.symm h1)] at hj
            exact .inr ⟨h1, hj⟩
        have tl1 : tl (ys[0] ++ ⟨#[97 + d9.toNat]⟩) = tl ys[0] ++ [97 + d9.toNat] := tl_append _ _
        have at0 := (hs7 0 _ y0).at hS7 ha
        have at1 : (tl (ys[0] ++ ⟨#[97 + d9.toNat]⟩))[a]? = some (97 + ((d2 + sv * ((0 : Nat) : Int)) % 26).toNat) := by
          rw [tl1, List.getElem?_append_left (List.getElem?_eq_some_iff.mp at0).1, at0]
        refine ⟨_, rfl, q D2 (ys.set 1 (ys[0] ++ ⟨#[97 + d9.toNat]⟩)) _ (((F6.trans f7).trans (f8.trans f9)).upd_p nDH) nDH (Ne.symm nb3) (by rw [upd_same, List.map_set]) (by rw [List.length_set]; omega) (fun y hy => ?_) ?_ ((b9.upd nb3).mono (by omega))⟩
        · obtain ⟨j, hj⟩ := List.getElem?_of_mem hy
          rcases sh j y hj with ⟨_, rfl⟩ | ⟨_, hj⟩
          · obtain ⟨p1, p2, p3⟩ := okn _ (List.getElem_mem l0)
            have e8 : (tl ys[0]).length < 8 := by rw [show (tl ys[0]).length = ys[0].length from (len_tl _).symm]; exact Int.ofNat_lt.mp hc2
            refine ⟨by rw [tl1, List.length_append]; omega, by rw [tl1, List.length_append]; show (tl ys[0]).length + 1 ≤ 8; omega, fun c hc => ?_⟩
            rw [tl1] at hc
            rcases List.mem_append.mp hc with h | h
            · exact p3 c h
            · rw [List.mem_singleton.mp h]; omega
          · exact okn y (List.mem_of_getElem? hj)
        · refine nodup_of_key (fun y => y) fun i j x y hij hx hy e => ?_
          subst e
          rcases sh i x hx with ⟨i1, ex⟩ | ⟨i1, hi⟩ <;> rcases sh j x hy with ⟨j1, ey⟩ | ⟨j1, hj⟩
          · omega
          · have q1 := (hs7 j x hj).at hS7 ha
            rw [ex, at1] at q1
            exact step_inj (f := d2) hsm (j := 0) (k := j) (by omega) (lt8 hj) (by have := Option.some.inj q1; omega)
          · have i0 : i = 0 := by omega
            subst i0
            rw [y0] at hi
            have := Option.some.inj hi
            rw [← this] at ey
            have l9 := congrArg (fun z => (tl z).length) ey
            simp only [tl1, List.length_append, List.length_cons, List.length_nil] at l9
            omega
          · have n1 := (List.nodup_iff_pairwise_ne.mp nd)
            rw [List.pairwise_iff_getElem] at n1
            obtain ⟨li, gi⟩ := List.getElem?_eq_some_iff.mp hi
            obtain ⟨lj, gj⟩ := List.getElem?_eq_some_iff.mp hj
            exact n1 i j li lj hij (by rw [gi, gj])

end K13
namespace K13
open PySem PySem.Spec PyProof.Rows L2 TL
/-! ### a scope: some of the names, in a drawn order -/
theorem seq_at {n : Nat} {i : Int} (h0 : 0 ≤ i) (h1 : i < (n : Int)) : seqIndex? i n = some i.toNat := by
  refine (ixN_seq (j := i.toNat) ?_).1
  unfold ixN
  rw [if_pos h0, if_pos h1]
theorem map_erase {α β : Type} (f : α → β) : ∀ (l : List α) (k : Nat), (l.map f).eraseIdx k = (l.eraseIdx k).map f
  | [], _ => rfl
  | _ :: _, 0 => rfl
  | a :: r, k + 1 => congrArg (f a :: ·) (map_erase f r k)
def sp_scope (K : PySem.W.Frag) : Sp := fun vs H Q _ => ∃ (b a : Addr) (n : Nat) (ns : List Str), vs = [.ref b, .ref a] ∧ Bag H b n ∧ n + 10 ≤ 1000000 ∧ SqL K H a (ns.map V.str) ∧ 1 ≤ ns.length ∧ ns.length ≤ 8 ∧ ns.Nodup ∧
  ∀ (p : Addr) (sc : List Str) H', Fr b H H' → H p = none → p ≠ b → H' p = some (.lst (sc.map V.str)) → 1 ≤ sc.length → sc.length ≤ 4 → (∀ x ∈ sc, x ∈ ns) → sc.Nodup → Bag H' b (n + 10) → Q (.ref p) H'
theorem ok_l_scope {P : Program} {w : World} {K : PySem.W.Frag} {mg : Str → Option Value} {base : Heap} (T : Txt P K mg) : FnOk P w K mg base CX0 2 T.f_l_scope T.fd_l_scope ["_law_bag_here", "_law_names_here"] (sp_scope K) := by
  refine T.F_l_scope.ok sc_l_scope (fun vs H Q E h => ?_) (fun cdv A outer s H vs Q E hr h => ?_)
  · obtain ⟨_, _, _, _, rfl, _⟩ := h; rfl
  · obtain ⟨b, a, n, ns, rfl, hB, hn, hS, n1, n8, nd, q⟩ := h
    refine ⟨_, PSs.nox (pss_cons (ps_set (i := 2) sc_l_scope.nd rfl (Or.inr rfl) (pe_callTy (show CallR _ _ (rListOf K) from call_list_of) (by rfl) T.n_list (by decide +kernel) (pa_cons (pv 1) pa_nil)))
      (pss_cons (ps_set (i := 3) sc_l_scope.nd rfl (Or.inl rfl) (pe_callB (call_min2 rfl) (by rfl) T.n_min (by decide +kernel) (pa_cons pe_int (pa_cons (pe_callB (show CallR _ _ (rLenSeq K) from call_len_seq) (by rfl) T.n_len (by decide +kernel) (pa_cons (pv 2) pa_nil)) pa_nil))))
      (pss_one (ps_ret (pe_lc (own := [("_law_index", 4)]) (g := gName 4) rfl sc_l_scope.nd (pi_range1 (by rfl) T.n_range (pa_cons (pe_op op_add pe_int (pe_call (ok_l_take T) (hr.mono (by decide)) (by rfl) T.g_l_take T.F_l_take.kp (b_l_take T) .nil pass0 (pa_cons (pv 0) (pa_cons (pv 3) pa_nil)))) pa_nil)) (blkOk_by (own := [("_law_index", 4)]) (N := N_l_scope) (sc := defScope s_l_scope) (by decide +kernel)) (fun _ _ _ _ _ => (pg_name (i := 4) sc_l_scope.nd rfl (Or.inl rfl))) (fun _ _ _ _ _ => pts_nil) (fun _ _ _ _ _ => (show PE _ _ (tBM K "list" rPopAt _ _) from pe_bm PySem.F.plainAttrs_list PySem.F.slot_list_pop PySem.F.type_list_pop mt_popAt (pv 2) (pa_cons (pe_call (ok_l_take T) (hr.mono (by decide)) (by rfl) T.g_l_take T.F_l_take.kp (b_l_take T) .nil pass0 (pa_cons (pv 0) (pa_cons (pe_callB (show CallR _ _ (rLenSeq K) from call_len_seq) (by rfl) T.n_len (by decide +kernel) (pa_cons (pv 2) pa_nil)) pa_nil))) pa_nil)))))))), ?_⟩
    refine ⟨_, rfl, a, _, rfl, .inl hS, fun l nl => ?_⟩
    have nbl := hB.ne nl
    have hl : upd H l (.lst (ns.map V.str)) l = some (.lst (ns.map V.str)) := upd_same
    refine ⟨_, rfl, l, _, rfl, .inl (SqL.of hl), _, _, rfl, ?_⟩
    refine ⟨_, rfl, _, rfl, b, n, _, rfl, hB.upd nbl, by omega, ?_, ?_, fun d H2 f2 b2 d0 d1 => ?_⟩
    · rw [List.length_map]; split <;> omega
    · rw [List.length_map]; split <;> omega
    have d4 : d < 4 ∧ d < ns.length := by
      rw [List.length_map] at d1
      split at d1 <;> omega
    have hl2 := f2 l _ (Ne.symm nbl) hl
    have F2 : Fr b H H2 := (Fr.new nl).trans f2
    refine ⟨_, _, rfl, rfl, _, rfl, by omega, by omega, fun D nD => lc_range (fun i H' => ∃ sc rest : List Str, H' D = some (.lst (sc.map V.str)) ∧ H' l = some (.lst (rest.map V.str)) ∧ (sc ++ rest).Perm ns ∧ sc.length = i ∧ Fr b H H' ∧ Bag H' b (n + 1 + i)) ?_ (fun i H' hi p => ⟨rfl, ?_⟩) (fun H3 p => ?_)⟩
    · exact ⟨[], ns, upd_same, by rw [upd_ne (ne_of_none hl2 nD)]; exact hl2, .refl _, rfl, F2.upd_p (F2.free (Ne.symm (b2.ne nD)) nD), (b2.upd (b2.ne nD)).mono (by omega)⟩
    · obtain ⟨sc, rest, hD, hl3, pm, ls, f3, b3⟩ := p
      have hlen : sc.length + rest.length = ns.length := by rw [← pm.length_eq, List.length_append]
      have hr1 : 1 ≤ rest.length := by omega
      refine ⟨_, rfl, .inl ⟨rfl, _, SqL.of hl3⟩, _, rfl, _, rfl, l, _, rfl, .inl (SqL.of hl3), b, _, _, rfl, b3, by omega, by rw [List.length_map]; omega, by rw [List.length_map]; omega, fun k H4 f4 b4 k0 k1 => ?_⟩
      rw [List.length_map] at k1
      have hl4 := f4 l _ (Ne.symm nbl) hl3
      have nbD : b ≠ D := b2.ne nD
      have hD4 := f4 D _ (Ne.symm nbD) hD
      have nDl : D ≠ l := (ne_of_none hl2 nD).symm
      have hkl : k.toNat < rest.length := by omega
      have hk : rest[k.toNat]? = some (rest[k.toNat]'hkl) := List.getElem?_eq_getElem hkl
      refine ⟨l, _, k, k.toNat, _, rfl, rfl, hl4, by omega, by omega, seq_at k0 (by rw [List.length_map]; omega), by rw [List.getElem?_map, hk]; rfl, ?_⟩
      refine ⟨sc.map V.str, by rw [upd_ne nDl]; exact hD4, by rw [List.length_map, sizeLine_eq]; omega, sc ++ [rest[k.toNat]'hkl], rest.eraseIdx k.toNat, ?_, ?_, ?_, ?_, ?_, ?_⟩
      · rw [upd_same, List.map_append]; rfl
      · rw [upd_ne (Ne.symm nDl), upd_same, map_erase]
      · rw [List.append_assoc]
        exact ((popP hk).append_left sc).trans pm
      · rw [List.length_append, ls]; rfl
      · exact ((f3.trans f4).upd_p nl).upd_p (F2.free (Ne.symm nbD) nD)
      · exact ((b4.upd nbl).upd nbD).mono (by omega)
    · obtain ⟨sc, rest, hD, hl3, pm, ls, f3, b3⟩ := p
      have nd2 := pm.nodup_iff.mpr nd
      exact q D sc H3 f3 (F2.free (Ne.symm (b2.ne nD)) nD) (Ne.symm (b2.ne nD)) hD (by omega) (by omega) (fun x hx => pm.mem_iff.mp (List.mem_append_left _ hx)) (List.nodup_append.mp nd2).1 (b3.mono (by omega))

end K13
namespace K13
open PySem PySem.Spec PyProof.Rows L2 TL
/-! ### data: shapes, equality -/
def Shd (k : Nat) (d : PyData) : Prop := d.canLay0 = true ∧ d.depth ≤ k
theorem Shd.shaped {k : Nat} {d : PyData} (h : Shd k d) (hk : k ≤ 64) : SeqAt.shaped d = true := by
  unfold SeqAt.shaped
  rw [h.1, Bool.true_and]
  exact decide_eq_true (Nat.le_trans h.2 hk)
theorem shd_all {k : Nat} : ∀ {ds : List PyData}, (∀ d ∈ ds, Shd k d) → PyData.canLayAll0 ds = true ∧ PyData.depthAll ds ≤ k
  | [], _ => ⟨by simp [PyData.canLayAll0], by simp [PyData.depthAll]⟩
  | d :: r, h => by
    obtain ⟨h1, h2⟩ := shd_all (ds := r) fun x hx => h x (List.mem_cons_of_mem _ hx)
    obtain ⟨h3, h4⟩ := h d List.mem_cons_self
    exact ⟨by simp only [PyData.canLayAll0]; rw [h3, h1]; rfl, by simp only [PyData.depthAll]; omega⟩
theorem Shd.tuple {k : Nat} {ds : List PyData} (h : ∀ d ∈ ds, Shd k d) : Shd (k + 1) (.tuple ds) := by
  obtain ⟨h1, h2⟩ := shd_all h
  exact ⟨by simp only [PyData.canLay0]; exact h1, by simp only [PyData.depth]; omega⟩
theorem Shd.list {k : Nat} {ds : List PyData} (h : ∀ d ∈ ds, Shd k d) : Shd (k + 1) (.list ds) := by
  obtain ⟨h1, h2⟩ := shd_all h
  exact ⟨by simp only [PyData.canLay0]; exact h1, by simp only [PyData.depth]; omega⟩
theorem Shd.int (i : Int) : Shd 0 (.int i) := ⟨by simp only [PyData.canLay0], by simp only [PyData.depth]; omega⟩
theorem Shd.str {s : Str} (h : NameOk s) : Shd 0 (.str s) := by
  refine ⟨?_, by simp only [PyData.depth]; omega⟩
  simp only [PyData.canLay0]
  show s.cps.all _ = true
  rw [Array.all_eq_true']
  intro c hc
  have := h.2.2 c (Array.mem_toList_iff.mpr hc)
  exact decide_eq_true (by omega)
def tupD (ns : List Int) : PyData := .tuple (ns.map PyData.int)
theorem shd_tup (ns : List Int) : Shd 1 (tupD ns) := Shd.tuple fun d hd => by
  obtain ⟨i, _, rfl⟩ := List.mem_map.mp hd
  exact Shd.int i
theorem shd_tups (l : List (List Int)) : Shd 2 (.list (l.map tupD)) := Shd.list fun d hd => by
  obtain ⟨i, _, rfl⟩ := List.mem_map.mp hd
  exact shd_tup i
theorem eqv_ints : ∀ ns ms : List Int, PyData.eqvAll (ns.map PyData.int) (ms.map PyData.int) = decide (ns = ms)
  | [], [] => by simp [PyData.eqvAll]
  | [], _ :: _ => by simp [PyData.eqvAll]
  | _ :: _, [] => by simp [PyData.eqvAll]
  | n :: ns, m :: ms => by
    simp only [List.map_cons, PyData.eqvAll, PyData.eqv]
    rw [eqv_ints ns ms]
    by_cases h : n = m
    · subst h; simp
    · have : (n == m) = false := by simpa using h
      rw [this, Bool.false_and]
      symm
      exact decide_eq_false fun e => h (List.cons.inj e).1
theorem eqv_tup (ns ms : List Int) : PyData.eqv (tupD ns) (tupD ms) = decide (ns = ms) := by
  unfold tupD
  simp only [PyData.eqv]
  exact eqv_ints ns ms
theorem any_tups (l : List (List Int)) (ns : List Int) : ((l.map tupD).any fun z => PyData.eqv z (tupD ns)) = decide (ns ∈ l) := by
  induction l with
  | nil => rfl
  | cons a r ih =>
    rw [List.map_cons, List.any_cons, ih, eqv_tup]
    by_cases h : a = ns
    · subst h; simp
    · rw [decide_eq_false h, Bool.false_or]
      by_cases h2 : ns ∈ r
      · rw [decide_eq_true h2, decide_eq_true (List.mem_cons_of_mem _ h2)]
      · rw [decide_eq_false h2, decide_eq_false fun z => by rcases List.mem_cons.mp z with z | z; exact h z.symm; exact h2 z]
theorem dp_ints {K : PySem.W.Frag} {H : Hp} : ∀ ns : List Int, DpAll K H (ns.map V.int) (ns.map PyData.int)
  | [] => .nil
  | n :: r => .cons (.int n) (dp_ints r)
theorem dp_tup {K : PySem.W.Frag} {H : Hp} {G : Addr → Prop} {x : V} {ns : List Int} (h : isTupI H G x ns) : Dp K H x (tupD ns) := by
  obtain ⟨t, rfl, _, h⟩ := h
  exact .tup (.inl (.inl h)) (dp_ints ns)
theorem dp_all {K : PySem.W.Frag} {H : Hp} {α : Type} {F : V → α → Prop} {f : α → PyData} (hf : ∀ x y, F x y → Dp K H x (f y)) : ∀ {xs : List V} {ys : List α}, Paired F xs ys → DpAll K H xs (ys.map f)
  | _, _, .nil => .nil
  | _, _, .cons r t => .cons (hf _ _ r) (dp_all hf t)
/-! ### bad tuples: distinct tuples of values of a scope -/
def rowVals (kvs : List (Key × V)) (sc : List Str) (sz : Str → Int) : Prop := ∀ x ∈ sc, valV kvs (Sum.inr x) = some (.int (sz x)) ∧ 1 ≤ sz x ∧ sz x ≤ 6
def okVals (sc : List Str) (sz : Str → Int) (ns : List Int) : Prop := ns.length = sc.length ∧ ∀ (i : Nat) (x : Str) (v : Int), sc[i]? = some x → ns[i]? = some v → 0 ≤ v ∧ v < sz x
def sp_tuples (K : PySem.W.Frag) : Sp := fun vs H Q _ => ∃ (b d a : Addr) (n : Nat) (most : Int) (kvs : List (Key × V)) (sc : List Str) (sz : Str → Int), vs = [.ref b, .ref d, .ref a, .int most] ∧ Bag H b n ∧ n + 60 ≤ 1000000 ∧
  H d = some (.dK kvs) ∧ (SqL K H a (sc.map V.str) ∨ SqT K H a (sc.map V.str)) ∧ a ≠ b ∧ sc.length ≤ 4 ∧ rowVals kvs sc sz ∧ 0 ≤ most ∧ most ≤ 12 ∧
  ∀ (p : Addr) (ys : List V) (bad : List (List Int)) H', Fr b H H' → H p = none → p ≠ b → H' p = some (.lst ys) → Paired (isTupI H' fun t => H t = none ∧ t ≠ b) ys bad → bad.length ≤ 12 → bad.Nodup → (∀ ns ∈ bad, okVals sc sz ns) → Bag H' b (n + 60) → Q (.ref p) H'
theorem ok_l_tuples {P : Program} {w : World} {K : PySem.W.Frag} {mg : Str → Option Value} {base : Heap} (T : Txt P K mg) : FnOk P w K mg base CX0 2 T.f_l_tuples T.fd_l_tuples ["_law_bag_here", "_law_sizes", "_law_scope_here", "_law_most"] (sp_tuples K) := by
  refine T.F_l_tuples.ok sc_l_tuples (fun vs H Q E h => ?_) (fun cdv A outer s H vs Q E hr h => ?_)
  · obtain ⟨_, _, _, _, _, _, _, _, rfl, _⟩ := h; rfl
  · obtain ⟨b, d, a, n, most, kvs, sc, sz, rfl, hB, hn, hd, hS, nab, sc4, hv, m0, m12, q⟩ := h
    have ndb : d ≠ b := by
      obtain ⟨x, y, z, e0, _⟩ := id hB
      exact ne_of hd e0 (fun z => by cases z)
    refine ⟨_, PSs.nox (pss_cons (ps_set (i := 4) sc_l_tuples.nd rfl (Or.inl rfl) (pe_lst pa_nil))
      (pss_cons (ps_for PassesOwn.never rfl (pi_range1 (by rfl) T.n_range (pa_cons (pe_call (ok_l_take T) (hr.mono (by decide)) (by rfl) T.g_l_take T.F_l_take.kp (b_l_take T) .nil pass0 (pa_cons (pv 0) (pa_cons (pe_op op_add (pv 3) pe_int) pa_nil))) pa_nil)) (pg_name (i := 5) sc_l_tuples.nd rfl (Or.inl rfl)) (pss_cons (ps_set (i := 6) sc_l_tuples.nd rfl (Or.inl rfl) (pe_callTy (show CallR _ _ (rTupOf K) from call_tuple_of) (by rfl) T.n_tuple (by decide +kernel) (pa_cons (pe_lc (own := [("_law_name", 7)]) (g := gName 7) rfl sc_l_tuples.nd (pi_or (pi_list (pv 2)) (pi_tup (pv 2))) (blkOk_by (own := [("_law_name", 7)]) (N := N_l_tuples) (sc := defScope s_l_tuples) (by decide +kernel)) (fun _ _ _ _ _ => (pg_name (i := 7) sc_l_tuples.nd rfl (Or.inl rfl))) (fun _ _ _ _ _ => pts_nil) (fun _ _ _ _ _ => (pe_call (ok_l_take T) (hr.mono (by decide)) (by rfl) T.g_l_take T.F_l_take.kp (b_l_take T) .nil pass0 (pa_cons (pv 0) (pa_cons (pe_dget (hu_of hr) (pv 1) (pv 7) (fun _ _ => rfl)) pa_nil))))) pa_nil)))
      (pss_one (ps_if (pt_cmpR (show OpR _ (compareOp .NotIn) (rNotInD K) from op_notInD (hu65 hr)) (pv 6) (pv 4) (by first | rfl | with_unfolding_all rfl)) (pss_one (ps_expr (pe_bm PySem.F.plainAttrs_list PySem.F.slot_list_append PySem.F.type_list_append mt_append (pv 4) (pa_cons (pv 6) pa_nil)))) pss_nil))))
      (pss_one (ps_ret (pv 4))))), ?_⟩
    refine ⟨Nat.zero_le _, fun p np => ?_⟩
    have nbp := hB.ne np
    refine ⟨_, rfl, _, rfl, _, _, rfl, rfl, b, n, _, rfl, hB.upd nbp, by omega, by omega, by omega, fun c H1 f1 b1 c0 c1 => ?_⟩
    have hp1 := f1 p _ (Ne.symm nbp) upd_same
    have F1 : Fr b H H1 := (Fr.new np).trans f1
    refine ⟨c, rfl, by omega, by omega, for_it walk_range (fun i σ H' => ∃ (ys : List V) (bad : List (List Int)) (x5 x6 : Option V), σ = [some (.ref b), some (.ref d), some (.ref a), some (.int most), some (.ref p), x5, x6, none] ∧ Fr b H H' ∧ Bag H' b (n + 1 + 4 * i) ∧
      H' p = some (.lst ys) ∧ Paired (isTupI H' fun t => H t = none ∧ t ≠ b) ys bad ∧ bad.length ≤ i ∧ bad.Nodup ∧ ∀ ns ∈ bad, okVals sc sz ns) ?_ (fun _ _ _ _ _ => trivial) ?_ ?_⟩
    · exact ⟨[], [], _, _, rfl, F1, b1, hp1, .nil, Nat.zero_le _, .nil, fun _ h => by cases h⟩
    · intro i x σ H' H'' hi' pp yy
      obtain ⟨ys, bad, x5, x6, rfl, f2, b2, hp2, pd, lb, nd, ok⟩ := pp
      obtain ⟨rfl, rfl⟩ := yy
      have ka : ∀ {H3 : Hp}, Fr b H H3 → Kp K a H H3 := fun f => Kp.at fun o e => f a o nab e
      refine or_walk (fun R' h => ⟨_, rfl, h⟩) ((ka f2).sq hS) fun J G w g D nD => ?_
      have nbD := b2.ne nD
      have nDH : H D = none := f2.free (Ne.symm nbD) nD
      refine lc_it w (fun j H3 => ∃ ns : List Int, H3 D = some (.lst (ns.map V.int)) ∧ ns.length = j ∧ Fr b H'' H3 ∧ Bag H3 b (n + 1 + 4 * i + j) ∧ ∀ (k : Nat) (x : Str) (v : Int), sc[k]? = some x → ns[k]? = some v → 0 ≤ v ∧ v < sz x) ?_ ?_ ?_ ?_
      · exact ⟨[], upd_same, rfl, Fr.new nD, (b2.upd nbD).mono (by omega), fun k x v _ h => by simp at h⟩
      · rintro j H3 _ ⟨ns, _, _, f3, _, _⟩
        exact g H3 (Kp.at fun o e => f3 a o nab e)
      · rintro j x H3 H4 hj ⟨ns, hD, ln, f3, b3, okv⟩ ⟨rfl, hx⟩
        rw [List.length_map] at hj
        rw [List.getElem?_map] at hx
        obtain ⟨y, hy, rfl⟩ : ∃ y, sc[j]? = some y ∧ x = .str y := by
          cases e : sc[j]? with
          | none => rw [e] at hx; cases hx
          | some y => rw [e] at hx; exact ⟨y, rfl, (Option.some.inj hx).symm⟩
        obtain ⟨hv1, hv2, hv3⟩ := hv y (List.mem_of_getElem? hy)
        have hd4 := f3 d _ ndb (f2 d _ ndb hd)
        have dg : DGet H4 d (.str y) (some (.int (sz y))) := by rw [← hv1]; exact DGet.k (k := Sum.inr y) hd4
        refine ⟨rfl, _, rfl, _, rfl, _, rfl, d, _, rfl, dg, b, _, _, rfl, b3, by omega, by omega, by omega, fun v H5 f5 b5 v0 v1 => ?_⟩
        refine ⟨ns.map V.int, f5 D _ (Ne.symm nbD) hD, by rw [List.length_map, sizeLine_eq]; omega, ns ++ [v], by rw [upd_same, List.map_append]; rfl, by rw [List.length_append, ln]; rfl, (f3.trans f5).upd_p nD, (b5.upd nbD).mono (by omega), fun k x' v' h1 h2 => ?_⟩
        by_cases hk : k < ns.length
        · rw [List.getElem?_append_left hk] at h2
          exact okv k x' v' h1 h2
        · have ek : k = j := by
            have := (List.getElem?_eq_some_iff.mp h2).1
            rw [List.length_append] at this
            simp at this
            omega
          subst ek
          rw [List.getElem?_append_right (by omega), ln, Nat.sub_self] at h2
          rw [hy] at h1
          cases h1
          cases h2
          exact ⟨v0, v1⟩
      · rintro H3 ⟨ns, hD, ln, f3, b3, okv⟩
        rw [List.length_map] at ln b3
        refine ⟨D, _, rfl, .inl ⟨SqL.of hD, fun t nt => ?_⟩⟩
        have nbt := b3.ne nt
        have ntD : D ≠ t := ne_of_none hD nt
        have f4 : Fr b H'' (upd H3 t (.tup (ns.map V.int))) := f3.upd_p (f3.free (Ne.symm nbt) nt)
        have F4 : Fr b H (upd H3 t (.tup (ns.map V.int))) := f2.trans f4
        have b4 : Bag (upd H3 t (.tup (ns.map V.int))) b (n + 1 + 4 * (i + 1)) := (b3.upd nbt).mono (by omega)
        have ht : upd H3 t (.tup (ns.map V.int)) t = some (.tup (ns.map V.int)) := upd_same
        have ntH : H t = none ∧ t ≠ b := ⟨f2.free (Ne.symm nbt) (f3.free (Ne.symm nbt) nt), Ne.symm nbt⟩
        generalize upd H3 t (.tup (ns.map V.int)) = H5 at f4 F4 b4 ht
        have hp5 := f4 p _ (Ne.symm nbp) hp2
        have pd5 := Paired.mono (fun _ _ z => isTupI.mv z (Mv.of_fr f4) fun a ha e => ha.2 e) pd
        have t5 : isTupI H5 (fun t => H t = none ∧ t ≠ b) (.ref t) ns := ⟨t, rfl, ntH, ht⟩
        refine ⟨_, rfl, _, rfl, tupD ns, bad.map tupD, dp_tup t5, .lst (SqL.of hp5) (dp_all (fun _ _ z => dp_tup z) pd5), (shd_tup ns).shaped (by decide), (shd_tups bad).shaped (by decide), _, rfl, ?_⟩
        rw [any_tups]
        by_cases hm : ns ∈ bad
        · rw [decide_eq_true hm]
          exact iteF ⟨ys, bad, _, _, rfl, F4, b4, hp5, pd5, by omega, nd, ok⟩
        · rw [decide_eq_false hm]
          refine iteT ⟨_, rfl, .inl ⟨rfl, _, SqL.of hp5⟩, _, rfl, p, _, _, rfl, rfl, hp5, by have := pd5.length; rw [this, sizeLine_eq]; omega, ?_⟩
          have np5 : ∀ a, (H a = none ∧ a ≠ b) → a ≠ p → True := fun _ _ _ => trivial
          refine ⟨ys ++ [.ref t], bad ++ [ns], _, _, rfl, F4.upd_p np, b4.upd nbp, upd_same, ?_, by rw [List.length_append]; simp; omega, ?_, ?_⟩
          · have k5 : ∀ (x : V) (ms : List Int), isTupI H5 (fun t => H t = none ∧ t ≠ b) x ms → isTupI (upd H5 p (.lst (ys ++ [.ref t]))) (fun t => H t = none ∧ t ≠ b) x ms := fun x ms z => by
              obtain ⟨u, e, gu, hu⟩ := z
              refine ⟨u, e, gu, ?_⟩
              rw [upd_ne (ne_of hu hp5 (by simp))]
              exact hu
            exact Paired.snoc (Paired.mono (fun x ms z => k5 x ms z) pd5) (k5 _ _ t5)
          · rw [List.nodup_append]
            exact ⟨nd, by simp, fun x hx y hy e => hm (by rw [List.mem_singleton.mp hy] at e; rw [← e]; exact hx)⟩
          · intro ms hms
            rcases List.mem_append.mp hms with h | h
            · exact ok ms h
            · rw [List.mem_singleton.mp h]; exact ⟨ln, okv⟩
    · intro σ H' pp
      obtain ⟨ys, bad, x5, x6, rfl, f2, b2, hp2, pd, lb, nd, ok⟩ := pp
      exact ⟨_, rfl, q p ys bad H' f2 np (Ne.symm nbp) hp2 pd (by omega) nd ok (b2.mono (by omega))⟩

end K13
namespace K13
open PySem PySem.Spec PyProof.Rows L2 TL
/-! ### variables and events, drawn -/
def NewTo (H : Hp) (b : Addr) : Addr → Prop := fun t => H t = none ∧ t ≠ b
theorem ints_at {ns : List Int} {i : Int} (h0 : 0 ≤ i) (h1 : i < (ns.length : Int)) : ∃ v : Int, atI (ns.map V.int) i = some (.int v) ∧ v ∈ ns := by
  obtain ⟨v, hv, _⟩ := atI_in (xs := ns) h0 h1
  refine ⟨v, ?_, List.mem_of_getElem? hv⟩
  have e : ((i.toNat : Nat) : Int) = i := Int.toNat_of_nonneg h0
  have := atI_nat (xs := ns.map V.int) (j := i.toNat) (v := .int v) (by rw [List.getElem?_map, hv]; rfl)
  rw [e] at this
  exact this
def kvL (L : List (Str × Int)) : List (Key × V) := L.map fun q => (Sum.inr q.1, V.int q.2)
theorem kvL_val (L : List (Str × Int)) (x : Str) : valV (kvL L) (Sum.inr x) = (L.find? fun q => decide (q.1 = x)).map fun q => V.int q.2 := by
  unfold kvL valV
  rw [List.find?_map, Option.map_map]
  have e : ((fun kv : Key × V => decide (kv.1 = Sum.inr x)) ∘ fun q : Str × Int => ((Sum.inr q.1 : Key), V.int q.2)) = fun q => decide (q.1 = x) := by
    funext q
    show decide ((Sum.inr q.1 : Key) = Sum.inr x) = _
    by_cases h : q.1 = x
    · rw [h]; simp
    · rw [decide_eq_false h, decide_eq_false fun z => h (Sum.inr.inj z)]
  rw [e]
  rfl
theorem find_mem {L : List (Str × Int)} {x : Str} (h : x ∈ L.map (·.1)) : ∃ q ∈ L, q.1 = x ∧ (L.find? fun q => decide (q.1 = x)) = some q := by
  cases e : L.find? fun q => decide (q.1 = x) with
  | none =>
    obtain ⟨q, hq, ex⟩ := List.mem_map.mp h
    have := List.find?_eq_none.mp e q hq
    exact absurd (decide_eq_true ex) this
  | some q =>
    have h1 := List.find?_some e
    exact ⟨q, List.mem_of_find?_eq_some e, of_decide_eq_true h1, rfl⟩
theorem sizes_val {L : List (Str × Int)} (h : VarsOk L) {x : Str} (hx : x ∈ L.map (·.1)) : valV (kvL L) (Sum.inr x) = some (.int (sizeOf L x)) ∧ 1 ≤ sizeOf L x ∧ sizeOf L x ≤ 6 := by
  obtain ⟨q, hq, _, e⟩ := find_mem hx
  have hs : sizeOf L x = q.2 := by unfold sizeOf; rw [e]; rfl
  rw [kvL_val, e, hs]
  exact ⟨rfl, h.sz q hq⟩
theorem merge_new : ∀ (more kvs : List (Key × V)), (more.map (·.1)).Nodup → (∀ k ∈ more.map (·.1), k ∉ kvs.map (·.1)) → mergeK kvs more = kvs ++ more
  | [], kvs, _, _ => by simp [mergeK]
  | (k, v) :: r, kvs, nd, dj => by
    rw [List.map_cons, List.nodup_cons] at nd
    have hk : putK kvs k v = kvs ++ [(k, v)] := by
      unfold putK
      rw [if_neg]
      intro h
      obtain ⟨p, hp, e⟩ := List.any_eq_true.mp h
      exact dj k (by simp) (List.mem_map.mpr ⟨p, hp, of_decide_eq_true e⟩)
    show mergeK (putK kvs k v) r = _
    rw [hk, merge_new r _ nd.2 fun k' hk' hm => ?_, List.append_assoc]
    · rfl
    · rw [List.map_append] at hm
      rcases List.mem_append.mp hm with h | h
      · exact dj k' (List.mem_cons_of_mem _ hk') h
      · have : k' = k := by simpa using h
        rw [this] at hk'
        exact nd.1 hk'
theorem kvL_keys (L : List (Str × Int)) : (kvL L).map (·.1) = (L.map (·.1)).map Sum.inr := by
  unfold kvL
  rw [List.map_map, List.map_map]
  rfl
theorem inr_nodup {l : List Str} (h : l.Nodup) : (l.map (Sum.inr : Str → Key)).Nodup := by
  rw [List.nodup_iff_pairwise_ne, List.pairwise_map]
  exact (List.nodup_iff_pairwise_ne.mp h).imp fun {a b} z e => z (Sum.inr.inj e)
theorem merge_kvL {L : List (Str × Int)} (h : VarsOk L) : mergeK [] (kvL L) = kvL L := by
  rw [merge_new _ _ (by rw [kvL_keys]; exact inr_nodup h.nd) fun k _ hm => by cases hm]
  rfl
theorem pair_addrs {H : Hp} {G : Addr → Prop} : ∀ {xs : List V} {L : List (Str × Int)}, Paired (isPair H G) xs L → ∃ ps : List Addr, xs = ps.map V.ref ∧ ∀ K : PySem.W.Frag, Paired (fun p (kv : Key × V) => SqT K H p [kV kv.1, kv.2]) ps (kvL L)
  | _, _, .nil => ⟨[], rfl, fun _ => .nil⟩
  | _, _, .cons ⟨t, e, _, h⟩ r => by
    obtain ⟨ps, e2, p2⟩ := pair_addrs r
    exact ⟨t :: ps, by rw [e, e2]; rfl, fun K => .cons (.inl (.inl h)) (p2 K)⟩
theorem inV_str (l : List Str) (y : Str) : inV (.str y) (l.map V.str) = decide (y ∈ l) := by
  unfold inV
  induction l with
  | nil => rfl
  | cons a r ih =>
    rw [List.map_cons, List.any_cons, ih]
    show (a == y || decide (y ∈ r)) = _
    by_cases h : a = y
    · subst h; simp
    · have : (a == y) = false := by simpa using h
      rw [this, Bool.false_or]
      by_cases h2 : y ∈ r
      · rw [decide_eq_true h2, decide_eq_true (List.mem_cons_of_mem _ h2)]
      · rw [decide_eq_false h2, decide_eq_false fun z => by rcases List.mem_cons.mp z with z | z; exact h z.symm; exact h2 z]
theorem flat_str (l : List Str) : (l.map V.str).all flatV = true := by
  rw [List.all_map, List.all_eq_true]
  intro x _; rfl
theorem cutV0 (xs : List V) (k : Nat) : cutV xs none (some (k : Int)) = xs.take k := by
  unfold cutV
  rw [HT.sIx_nat, HT.sIx_none, List.drop_zero, Nat.sub_zero]
  rw [← List.take_take, List.take_length]
def sp_parts : Sp := fun vs H Q _ => ∃ (b : Addr) (n : Nat), vs = [.ref b] ∧ Bag H b n ∧ n + 900 ≤ 1000000 ∧
  ∀ (p a r : Addr) (xs ys : List V) (L : List (Str × Int)) (R : List Row) H', Fr b H H' → H' p = some (.tup [.ref a, .ref r]) → NewTo H b a → NewTo H b r → H' a = some (.lst xs) → Paired (isPair H' (NewTo H b)) xs L →
    H' r = some (.lst ys) → Paired (isRowS H' (NewTo H b) (NewTo H b)) ys R → VarsOk L → EvsOk L R → Bag H' b (n + 900) → Q (.ref p) H'
theorem ok_l_parts {P : Program} {w : World} {K : PySem.W.Frag} {mg : Str → Option Value} {base : Heap} (T : Txt P K mg) : FnOk P w K mg base CX0 3 T.f_l_parts T.fd_l_parts ["_law_bag_here"] (sp_parts) := by
  refine T.F_l_parts.ok sc_l_parts (fun vs H Q E h => ?_) (fun cdv A outer s H vs Q E hr h => ?_)
  · obtain ⟨_, _, rfl, _⟩ := h; rfl
  · obtain ⟨b, n, rfl, hB, hn, q⟩ := h
    refine ⟨_, PSs.nox (pss_cons (ps_set (i := 1) sc_l_parts.nd rfl (Or.inl rfl) (pe_ix (show IxR _ (rIxL K) from ix_list) (pe_lst (pa_cons pe_int (pa_cons pe_int (pa_cons pe_int (pa_cons pe_int (pa_cons pe_int (pa_cons pe_int (pa_cons pe_int (pa_cons pe_int (pa_cons pe_int (pa_cons pe_int pa_nil))))))))))) (pe_call (ok_l_take T) (hr.mono (by decide)) (by rfl) T.g_l_take T.F_l_take.kp (b_l_take T) .nil pass0 (pa_cons (pv 0) (pa_cons pe_int pa_nil))) (fun _ _ => rfl)))
      (pss_cons (ps_set (i := 2) sc_l_parts.nd rfl (Or.inl rfl) (pe_call (ok_l_names T) (hr.mono (by decide)) (by rfl) T.g_l_names T.F_l_names.kp (b_l_names T) .nil pass0 (pa_cons (pv 0) (pa_cons (pv 1) pa_nil))))
      (pss_cons (ps_setLc (i := 3) (own := [("_law_name", 8)]) (g := gName 8) rfl sc_l_parts.nd rfl rfl (sw_true rfl rfl rfl (by decide +kernel)) (pi_list (pv 2)) (blkOk_by (own := [("_law_name", 8)]) (N := N_l_parts) (sc := defScope s_l_parts) (by decide +kernel)) (fun _ _ _ _ _ => (pg_name (i := 8) sc_l_parts.nd rfl (Or.inl rfl))) (fun _ _ _ _ _ => pts_nil) (fun _ _ _ _ _ => (pe_tup (pa_cons (pv 8) (pa_cons (pe_ix (show IxR _ (rIxL K) from ix_list) (pe_lst (pa_cons pe_int (pa_cons pe_int (pa_cons pe_int (pa_cons (pe_op op_add pe_int (pe_call (ok_l_take T) (hr.mono (by decide)) (by rfl) T.g_l_take T.F_l_take.kp (b_l_take T) .nil pass0 (pa_cons (pv 0) (pa_cons pe_int pa_nil)))) pa_nil))))) (pe_call (ok_l_take T) (hr.mono (by decide)) (by rfl) T.g_l_take T.F_l_take.kp (b_l_take T) .nil pass0 (pa_cons (pv 0) (pa_cons pe_int pa_nil))) (fun _ _ => rfl)) pa_nil)))))
      (pss_cons (ps_set (i := 4) sc_l_parts.nd rfl (Or.inr rfl) (pe_call (ok_l_names T) (hr.mono (by decide)) (by rfl) T.g_l_names T.F_l_names.kp (b_l_names T) .nil pass0 (pa_cons (pv 0) (pa_cons (pe_ix (show IxR _ (rIxL K) from ix_list) (pe_lst (pa_cons pe_int (pa_cons pe_int (pa_cons pe_int (pa_cons pe_int (pa_cons pe_int (pa_cons pe_int (pa_cons pe_int (pa_cons pe_int (pa_cons pe_int (pa_cons pe_int pa_nil))))))))))) (pe_call (ok_l_take T) (hr.mono (by decide)) (by rfl) T.g_l_take T.F_l_take.kp (b_l_take T) .nil pass0 (pa_cons (pv 0) (pa_cons pe_int pa_nil))) (fun _ _ => rfl)) pa_nil))))
      (Evl.pss_cut (ps_if (pt_cmpR op_eq (pe_call (ok_l_take T) (hr.mono (by decide)) (by rfl) T.g_l_take T.F_l_take.kp (b_l_take T) .nil pass0 (pa_cons (pv 0) (pa_cons pe_int pa_nil))) pe_int (nomark _)) (pss_cons (ps_set (i := 4) sc_l_parts.nd rfl (Or.inr rfl) (pe_slice (show SlR _ (rSlL K) from sl_list) (pe_op op_cat (pv 2) (pv 4)) po_none (po_some (pe_callB (call_min2 rfl) (by rfl) T.n_min (by decide +kernel) (pa_cons pe_int (pa_cons (pe_callB (show CallR _ _ (rLenSeq K) from call_len_seq) (by rfl) T.n_len (by decide +kernel) (pa_cons (pv 4) pa_nil)) pa_nil))))))
      (pss_one (ps_set (i := 4) sc_l_parts.nd rfl (Or.inr rfl) (pe_lc (own := [("_law_index", 9), ("_law_title", 5)]) (g := gTup K 2 (gCons (gName 9) (gCons (gName 5) gNil))) rfl sc_l_parts.nd (pi_enum (by rfl) T.n_enumerate (pa_cons (pv 4) pa_nil)) (blkOk_by (own := [("_law_index", 9), ("_law_title", 5)]) (N := N_l_parts) (sc := defScope s_l_parts) (by decide +kernel)) (fun _ _ _ _ _ => (pg_tup rfl (pgs_cons (pg_name (i := 9) sc_l_parts.nd rfl (Or.inl rfl)) (pgs_cons (pg_name (i := 5) sc_l_parts.nd rfl (Or.inl rfl)) pgs_nil)))) (fun _ _ _ _ _ => pts_one (pt_cmpR (show OpR _ (compareOp .NotIn) (rIn K true) from op_notIn_seq) (pv 5) (pe_slice (show SlR _ (rSlL K) from sl_list) (pv 4) po_none (po_some (pv 9))) (by first | rfl | with_unfolding_all rfl))) (fun _ _ _ _ _ => (pv 5)))))) pss_nil)
      (pss_cons (ps_set (i := 6) sc_l_parts.nd rfl (Or.inl rfl) (pe_lst pa_nil))
      (pss_cons (ps_for PassesOwn.never rfl (pi_list (pv 4)) (pg_name (i := 5) sc_l_parts.nd rfl (Or.inl rfl)) (pss_cons (ps_set (i := 7) sc_l_parts.nd rfl (Or.inl rfl) (pe_call (ok_l_scope T) (hr.mono (by decide)) (by rfl) T.g_l_scope T.F_l_scope.kp (b_l_scope T) .nil pass0 (pa_cons (pv 0) (pa_cons (pv 2) pa_nil))))
      (pss_one (ps_expr (pe_bm PySem.F.plainAttrs_list PySem.F.slot_list_append PySem.F.type_list_append mt_append (pv 6) (pa_cons (pe_tup (pa_cons (pv 5) (pa_cons (pv 7) (pa_cons (pe_call (ok_l_tuples T) (hr.mono (by decide)) (by rfl) T.g_l_tuples T.F_l_tuples.kp (b_l_tuples T) .nil pass0 (pa_cons (pv 0) (pa_cons (pe_callTy (call_dictP rfl) (by rfl) T.n_dict (by decide +kernel) (pa_cons (pv 3) pa_nil)) (pa_cons (pv 7) (pa_cons (pe_ix (show IxR _ (rIxL K) from ix_list) (pe_lst (pa_cons pe_int (pa_cons pe_int (pa_cons pe_int (pa_cons pe_int pa_nil))))) (pe_call (ok_l_take T) (hr.mono (by decide)) (by rfl) T.g_l_take T.F_l_take.kp (b_l_take T) .nil pass0 (pa_cons (pv 0) (pa_cons pe_int pa_nil))) (fun _ _ => rfl)) pa_nil))))) pa_nil)))) pa_nil))))))
      (pss_one (ps_ret (pe_tup (pa_cons (pv 3) (pa_cons (pv 6) pa_nil)))))))))))), ?_⟩
    -- count
    refine ⟨lenk 10 rfl (by decide), fun p1 np1 => ?_⟩
    have nb1 := hB.ne np1
    refine ⟨_, rfl, b, n, 10, rfl, hB.upd nb1, by omega, by decide, by decide, fun d1 H1 f1 b1 d10 d11 => ?_⟩
    have hp1 := f1 p1 _ (Ne.symm nb1) upd_same
    obtain ⟨c, hc, hcm⟩ := ints_at (ns := [1, 2, 3, 3, 4, 4, 5, 6, 7, 8]) d10 d11
    have hc8 : 1 ≤ c ∧ c ≤ 8 := by
      have : ∀ v ∈ ([1, 2, 3, 3, 4, 4, 5, 6, 7, 8] : List Int), 1 ≤ v ∧ v ≤ 8 := by decide
      exact this c hcm
    refine ⟨p1, _, _, _, rfl, rfl, SqL.of hp1, hc, ?_⟩
    have F1 : Fr b H H1 := (Fr.new np1).trans f1
    -- names
    refine ⟨_, rfl, _, rfl, b, _, c, rfl, b1, by omega, by omega, by omega, fun pn ns H2 f2 npn pnb hpn ln okn ndn b2 => ?_⟩
    have F2 := F1.trans f2
    -- sizes
    refine ⟨_, rfl, pn, rfl, ⟨_, SqL.of hpn⟩, fun D nD => lc_it (walk_list (K := K) (a := pn) (xs := ns.map V.str)) (fun i H' => ∃ (xs : List V) (L : List (Str × Int)), H' D = some (.lst xs) ∧ Paired (isPair H' (NewTo H b)) xs L ∧ L.map (·.1) = ns.take i ∧ (∀ q ∈ L, 1 ≤ q.2 ∧ q.2 ≤ 6) ∧ Fr b H2 H' ∧ Bag H' b (n + 1 + 30 + 2 * i)) ?_ ?_ ?_ ?_⟩
    · exact ⟨[], [], upd_same, .nil, rfl, (fun _ h => by cases h), Fr.new nD, (b2.upd (b2.ne nD)).mono (by omega)⟩
    · rintro i H' hi ⟨xs, L, hD, pd, eL, sz, f, bb⟩
      exact SqL.of (f pn _ pnb hpn)
    · rintro i x Hx H3 hi ⟨xs, L, hD, pd, eL, sz, f3, b3⟩ ⟨rfl, hx⟩
      rw [List.length_map] at hi
      rw [List.getElem?_map, List.getElem?_eq_getElem hi] at hx
      have ex := Option.some.inj hx
      subst ex
      have nbD : b ≠ D := b2.ne nD
      refine ⟨rfl, _, rfl, _, rfl, b, _, 6, rfl, b3, by omega, by decide, by decide, fun d2 H4 f4 b4 d20 d21 => ?_⟩
      refine ⟨_, _, rfl, rfl, lenk 4 rfl (by decide), fun p2 np2 => ?_⟩
      have nb2 := b4.ne np2
      refine ⟨_, rfl, b, _, 4, rfl, b4.upd nb2, by omega, by decide, by decide, fun d3 H5 f5 b5 d30 d31 => ?_⟩
      have hp2 := f5 p2 _ (Ne.symm nb2) upd_same
      obtain ⟨z, hz, hzm⟩ := ints_at (ns := [2, 2, 3, 1 + d2]) d30 d31
      have z6 : 1 ≤ z ∧ z ≤ 6 := by
        simp only [List.mem_cons, List.not_mem_nil, or_false] at hzm
        omega
      refine ⟨p2, _, _, _, rfl, rfl, SqL.of hp2, hz, lenk 2 rfl (by decide), fun t nt => ?_⟩
      have f6 : Fr b H3 H5 := f4.trans ((Fr.new np2).trans f5)
      have nbt := b5.ne nt
      have hD5 := f6 D _ (Ne.symm nbD) hD
      have nDt : D ≠ t := ne_of_none hD5 nt
      have nt3 : H3 t = none := f6.free (Ne.symm nbt) nt
      have ntH : NewTo H b t := ⟨F2.free (Ne.symm nbt) (f3.free (Ne.symm nbt) nt3), Ne.symm nbt⟩
      have f7 : Fr b H3 (upd H5 t (.tup [.str ns[i], .int z])) := f6.upd_p nt3
      refine ⟨xs, by rw [upd_ne nDt]; exact hD5, ?_, xs ++ [.ref t], L ++ [(ns[i], z)], upd_same, ?_, ?_, ?_, (f3.trans f7).upd_p nD, ((b5.upd nbt).upd nbD).mono (by omega)⟩
      · rw [pd.length]
        have := congrArg List.length eL
        rw [List.length_map, List.length_take] at this
        rw [sizeLine_eq]; omega
      · have pm : ∀ (x : V) (q : Str × Int), isPair H3 (NewTo H b) x q → isPair (upd (upd H5 t (.tup [.str ns[i], .int z])) D (.lst (xs ++ [.ref t]))) (NewTo H b) x q := fun x q zz => by
          obtain ⟨u, e, gu, hu⟩ := zz
          refine ⟨u, e, gu, ?_⟩
          rw [upd_ne (ne_of hu hD (by simp))]
          exact f7 u _ gu.2 hu
        exact Paired.snoc (Paired.mono pm pd) ⟨t, rfl, ntH, by rw [upd_ne (Ne.symm nDt), upd_same]⟩
      · rw [List.map_append, eL, List.take_succ, List.getElem?_eq_getElem hi]; rfl
      · intro q hq
        rcases List.mem_append.mp hq with h | h
        · exact sz q h
        · rw [List.mem_singleton.mp h]; exact z6
    · rintro H3 ⟨xs, L, hD, pd, eL, sz, f3, b3⟩
      rw [List.length_map, List.take_length] at eL
      rw [List.length_map] at b3
      have nbD : b ≠ D := b2.ne nD
      have F3 := F2.trans f3
      have nDH : NewTo H b D := ⟨F2.free (Ne.symm nbD) nD, Ne.symm nbD⟩
      have lL : L.length = ns.length := by rw [← eL, List.length_map]
      have vok : VarsOk L := ⟨by omega, by omega, fun q hq => okn _ (by rw [← eL]; exact List.mem_map.mpr ⟨q, hq, rfl⟩), sz, by rw [eL]; exact ndn⟩
      have hpn3 := f3 pn _ pnb hpn
      -- titles
      refine ⟨_, rfl, lenk 10 rfl (by decide), fun p4 np4 => ?_⟩
      have nb4 := b3.ne np4
      refine ⟨_, rfl, b, _, 10, rfl, b3.upd nb4, by omega, by decide, by decide, fun d5 H5 f5 b5 d50 d51 => ?_⟩
      have hp4 := f5 p4 _ (Ne.symm nb4) upd_same
      obtain ⟨ct, hct, hctm⟩ := ints_at (ns := [0, 1, 2, 3, 3, 4, 5, 6, 7, 8]) d50 d51
      have hct8 : 0 ≤ ct ∧ ct ≤ 8 := by
        have : ∀ v ∈ ([0, 1, 2, 3, 3, 4, 5, 6, 7, 8] : List Int), 0 ≤ v ∧ v ≤ 8 := by decide
        exact this ct hctm
      refine ⟨p4, _, _, _, rfl, rfl, SqL.of hp4, hct, ?_⟩
      refine ⟨b, _, ct, rfl, b5, by omega, by omega, by omega, fun pt ts H6 f6 npt ptb hpt lt okt ndt b6 => ?_⟩
      have f36 : Fr b H3 H6 := ((Fr.new np4).trans f5).trans f6
      -- behind the if: the titles, distinct
      let Mid : L2.St → Hp → Prop := fun σ H' => ∃ (pt : Addr) (ts : List Str) (x5 : Option V), σ = [some (.ref b), some (.int c), some (.ref pn), some (.ref D), some (.ref pt), x5, none, none, none, none] ∧ Fr b H3 H' ∧ pt ≠ b ∧ H' pt = some (.lst (ts.map V.str)) ∧ ts.length ≤ 8 ∧ (∀ y ∈ ts, NameOk y) ∧ ts.Nodup ∧ Bag H' b (n + 200)
      refine ⟨Mid, ?_, fun σ H' mid => ?_⟩
      · refine ⟨_, rfl, b, _, 4, rfl, b6, by omega, by decide, by decide, fun d7 H7 f7 b7 d70 d71 => ?_⟩
        have hpt7 := f7 pt _ ptb hpt
        have f37 := f36.trans f7
        refine ⟨rfl, _, rfl, ite2 (fun c1 => ?_) (fun c1 => ⟨pt, ts, _, rfl, f37, ptb, hpt7, by omega, okt, ndt, b7.mono (by omega)⟩)⟩
        refine ⟨_, rfl, _, rfl, pn, pt, _, _, rfl, rfl, f7 pn _ pnb (f36 pn _ pnb hpn3), hpt7, by rw [List.length_map, List.length_map, sizeLine_eq]; omega, fun p8 np8 => ?_⟩
        have nb8 := b7.ne np8
        have hpt8 : upd H7 p8 (.lst (ns.map V.str ++ ts.map V.str)) pt = some (.lst (ts.map V.str)) := by rw [upd_ne (ne_of_none hpt7 np8)]; exact hpt7
        have f38 : Fr b H3 (upd H7 p8 (.lst (ns.map V.str ++ ts.map V.str))) := f37.upd_p (f37.free (Ne.symm nb8) np8)
        have hp8 : upd H7 p8 (.lst (ns.map V.str ++ ts.map V.str)) p8 = some (.lst ((ns ++ ts).map V.str)) := by rw [upd_same, List.map_append]
        have b8 := b7.upd (o := .lst (ns.map V.str ++ ts.map V.str)) nb8
        generalize upd H7 p8 (.lst (ns.map V.str ++ ts.map V.str)) = H8 at hpt8 f38 hp8 b8
        refine ⟨_, rfl, pt, _, rfl, .inl (SqL.of hpt8), _, _, rfl, _, rfl, p8, _, rfl, SqL.of hp8, fun p9 np9 => ?_⟩
        have hk : ∃ k : Nat, k ≤ 8 ∧ (if (((ts.map V.str).length : Nat) : Int) < 8 then (((ts.map V.str).length : Nat) : Int) else 8) = (k : Int) := by
          rw [List.length_map]
          by_cases h : ((ts.length : Nat) : Int) < 8
          · exact ⟨ts.length, by omega, by rw [if_pos h]⟩
          · exact ⟨8, by omega, by rw [if_neg h]; rfl⟩
        obtain ⟨k, hk8, ek⟩ := hk
        rw [ek, cutV0, ← List.map_take]
        have nb9 := b8.ne np9
        have ecs : (ns ++ ts).take k = (ns ++ ts).take k := rfl
        generalize hcs : (ns ++ ts).take k = cs
        have lcs : cs.length ≤ 8 := by rw [← hcs, List.length_take]; omega
        have okc : ∀ y ∈ cs, NameOk y := fun y hy => by
          rw [← hcs] at hy
          rcases List.mem_append.mp (List.mem_of_mem_take hy) with h | h
          · exact okn y h
          · exact okt y h
        have f39 : Fr b H3 (upd H8 p9 (.lst (cs.map V.str))) := f38.upd_p (f38.free (Ne.symm nb9) np9)
        have hp9 : upd H8 p9 (.lst (cs.map V.str)) p9 = some (.lst (cs.map V.str)) := upd_same
        have b9 := b8.upd (o := .lst (cs.map V.str)) nb9
        generalize upd H8 p9 (.lst (cs.map V.str)) = H9 at f39 hp9 b9
        refine ⟨_, rfl, p9, _, rfl, SqL.of hp9, fun D2 nD2 => lc_it (walk_enum (K := K) (a := p9) (xs := cs.map V.str)) (fun i H' => ∃ out : List Str, H' D2 = some (.lst (out.map V.str)) ∧ out.Nodup ∧ (∀ y, y ∈ out ↔ y ∈ cs.take i) ∧ out.length ≤ i ∧ Fr b H9 H' ∧ Bag H' b (n + 190)) ?_ ?_ ?_ ?_⟩
        · exact ⟨[], upd_same, .nil, fun y => by simp, Nat.le_refl _, Fr.new nD2, (b9.upd (b9.ne nD2)).mono (by omega)⟩
        · rintro i H' hi ⟨out, hD2, nd2, io, lo, f, bb⟩
          exact SqL.of (f p9 _ (Ne.symm nb9) hp9)
        · rintro i x H10 H11 hi ⟨out, hD2, nd2, io, lo, f10, b10⟩ ⟨t, x1, x2, rfl, nt, rfl, e1, e2⟩
          rw [List.length_map] at hi
          have e1' := Option.some.inj e1
          subst e1'
          have e2' : x2 = .str cs[i] := by
            replace e2 : (cs.map V.str)[i]? = some x2 := e2
            rw [List.getElem?_map, List.getElem?_eq_getElem hi] at e2
            exact (Option.some.inj e2).symm
          subst e2'
          have nbt := b10.ne nt
          have hD2t : upd H10 t (.tup [.int (i : Nat), .str cs[i]]) D2 = some (.lst (out.map V.str)) := by rw [upd_ne (ne_of_none hD2 nt)]; exact hD2
          have f11 : Fr b H9 (upd H10 t (.tup [.int (i : Nat), .str cs[i]])) := f10.upd_p (f10.free (Ne.symm nbt) nt)
          have b11 := b10.upd (o := .tup [.int (i : Nat), .str cs[i]]) nbt
          have ht : upd H10 t (.tup [.int (i : Nat), .str cs[i]]) t = some (.tup [.int (i : Nat), .str cs[i]]) := upd_same
          generalize upd H10 t (.tup [.int (i : Nat), .str cs[i]]) = H12 at hD2t f11 b11 ht
          refine ⟨t, _, rfl, .inl (.inl ht), rfl, _, _, rfl, _, _, rfl, rfl, rfl, ?_⟩
          refine ⟨_, rfl, _, rfl, _, rfl, _, rfl, p9, _, rfl, SqL.of (f11 p9 _ (Ne.symm nb9) hp9), fun p10 np10 => ?_⟩
          have nb10 := b11.ne np10
          have nD210 : D2 ≠ p10 := ne_of_none hD2t np10
          have hD210 : upd H12 p10 (.lst (cutV (cs.map V.str) none (some ((i : Nat) : Int)))) D2 = some (.lst (out.map V.str)) := by rw [upd_ne nD210]; exact hD2t
          have f12 : Fr b H9 (upd H12 p10 (.lst (cutV (cs.map V.str) none (some ((i : Nat) : Int))))) := f11.upd_p (f11.free (Ne.symm nb10) np10)
          have b12 := b11.upd (o := .lst (cutV (cs.map V.str) none (some ((i : Nat) : Int)))) nb10
          have hp10 : upd H12 p10 (.lst (cutV (cs.map V.str) none (some ((i : Nat) : Int)))) p10 = some (.lst ((cs.take i).map V.str)) := by rw [upd_same, cutV0, ← List.map_take]
          generalize upd H12 p10 (.lst (cutV (cs.map V.str) none (some ((i : Nat) : Int)))) = H13 at hD210 f12 b12 hp10
          refine ⟨p10, _, rfl, .inl (SqL.of hp10), rfl, flat_str _, _, rfl, ?_⟩
          rw [inV_str]
          have tk : cs.take (i + 1) = cs.take i ++ [cs[i]] := by rw [List.take_succ, List.getElem?_eq_getElem hi]; rfl
          by_cases hm : cs[i] ∈ cs.take i
          · rw [decide_eq_true hm]
            refine iteF ⟨out, hD210, nd2, fun y => ?_, by omega, f12, b12⟩
            rw [io y, tk, List.mem_append]
            exact ⟨.inl, fun z => z.elim id fun z => by rw [List.mem_singleton.mp z]; exact hm⟩
          · rw [decide_eq_false hm]
            refine iteT ⟨_, rfl, out.map V.str, hD210, by rw [List.length_map, sizeLine_eq]; omega, out ++ [cs[i]], by rw [upd_same, List.map_append]; rfl, ?_, fun y => ?_, by rw [List.length_append]; simp; omega, f12.upd_p nD2, b12.upd (b9.ne nD2)⟩
            · rw [List.nodup_append]
              exact ⟨nd2, by simp, fun x hx y hy e => hm (by rw [List.mem_singleton.mp hy] at e; rw [← e]; exact (io x).mp hx)⟩
            · rw [List.mem_append, io y, tk, List.mem_append]
        · rintro H10 ⟨out, hD2, nd2, io, lo, f10, b10⟩
          rw [List.length_map] at lo
          exact ⟨D2, out, _, rfl, f39.trans f10, Ne.symm (b9.ne nD2), hD2, by omega, fun y hy => okc y (List.mem_of_mem_take ((io y).mp hy)), nd2, b10.mono (by omega)⟩
      · obtain ⟨pt, ts, x5, rfl, fM, ptb, hpt, lt8, okt, ndt, bM⟩ := mid
        refine ⟨Nat.zero_le _, fun r nr => ?_⟩
        have nbr := bM.ne nr
        have nr3 : H3 r = none := fM.free (Ne.symm nbr) nr
        have nrH : NewTo H b r := ⟨F3.free (Ne.symm nbr) nr3, Ne.symm nbr⟩
        refine ⟨_, rfl, pt, rfl, ⟨_, SqL.of (by rw [upd_ne (ne_of_none hpt nr)]; exact hpt)⟩, for_it (walk_list (K := K) (a := pt) (xs := ts.map V.str)) (fun i σ H'' => ∃ (ys : List V) (R : List Row) (x5 x7 : Option V),
          σ = [some (.ref b), some (.int c), some (.ref pn), some (.ref D), some (.ref pt), x5, some (.ref r), x7, none, none] ∧ Fr b H3 H'' ∧ H'' pt = some (.lst (ts.map V.str)) ∧ Bag H'' b (n + 200 + 75 * i) ∧ H'' r = some (.lst ys) ∧
          Paired (isRowS H'' (fun t => NewTo H b t ∧ t ≠ r) (fun t => NewTo H b t ∧ t ≠ r)) ys R ∧ R.map (·.1) = ts.take i ∧ ∀ w ∈ R, RowOk L w) ?_ ?_ ?_ ?_⟩
        · exact ⟨[], [], _, _, rfl, fM.upd_p nr3, by rw [upd_ne (ne_of_none hpt nr)]; exact hpt, (bM.upd nbr).mono (by omega), upd_same, .nil, rfl, fun _ h => by cases h⟩
        · rintro i σ H'' hi ⟨ys, R, x5, x7, rfl, f, hp, bb, hr', pdr, eR, okR⟩
          exact SqL.of hp
        · rintro i x σ Hx H12 hi ⟨ys, R, x5, x7, rfl, f12, hp12, b12, hr12, pdr, eR, okR⟩ ⟨rfl, hx⟩
          rw [List.length_map] at hi
          rw [List.getElem?_map, List.getElem?_eq_getElem hi] at hx
          have ex := Option.some.inj hx
          subst ex
          refine ⟨_, rfl, _, rfl, b, pn, _, ns, rfl, b12, by omega, SqL.of (f12 pn _ pnb hpn3), by omega, by omega, ndn, fun psc sc H13 f13 npsc pscb hpsc s1 s4 ssub snd b13 => ?_⟩
          have hr13 := f13 r _ (Ne.symm nbr) hr12
          have f13' := f12.trans f13
          obtain ⟨ps, exs, pps⟩ := pair_addrs (Paired.mono (fun _ _ z => isPair.mv z (Mv.of_fr f13') fun a ha e => ha.2 e) pd)
          refine ⟨_, rfl, .inl ⟨rfl, _, SqL.of hr13⟩, _, rfl, _, rfl, _, rfl, _, rfl, D, ps, kvL L, rfl, by rw [← exs]; exact SqL.of (f13' D _ (Ne.symm nbD) hD), pps K, fun dd ndd => ?_⟩
          rw [merge_kvL vok]
          have nbdd := b13.ne ndd
          refine ⟨_, rfl, lenk 4 rfl (by decide), fun pl npl => ?_⟩
          have b14 := (b13.upd (o := .dK (kvL L)) nbdd)
          have nbpl := b14.ne npl
          have ndpl : dd ≠ pl := ne_of_none upd_same npl
          refine ⟨_, rfl, b, _, 4, rfl, b14.upd nbpl, by omega, by decide, by decide, fun d15 H15 f15 b15 d150 d151 => ?_⟩
          have hpl15 := f15 pl _ (Ne.symm nbpl) upd_same
          have hdd15 : H15 dd = some (.dK (kvL L)) := f15 dd _ (Ne.symm nbdd) (by rw [upd_ne ndpl, upd_same])
          obtain ⟨most, hmost, hmm⟩ := ints_at (ns := [1, 2, 4, 12]) d150 d151
          have hm12 : 0 ≤ most ∧ most ≤ 12 := by
            have : ∀ v ∈ ([1, 2, 4, 12] : List Int), 0 ≤ v ∧ v ≤ 12 := by decide
            exact this most hmm
          have f1315 : Fr b H13 H15 := (Fr.new ndd).trans ((Fr.new npl).trans f15)
          have hpsc15 := f1315 psc _ pscb hpsc
          have rv : rowVals (kvL L) sc (sizeOf L) := fun x hx => sizes_val vok (by rw [eL]; exact ssub x hx)
          refine ⟨pl, _, _, _, rfl, rfl, SqL.of hpl15, hmost, b, dd, psc, _, most, kvL L, sc, sizeOf L, rfl, b15, by omega, hdd15, .inl (SqL.of hpsc15), pscb, s4, rv, by omega, by omega, fun pb ysb bad H16 f16 npb pbb hpb pdb lb bnd bok b16 => ?_⟩
          refine ⟨lenk 3 rfl (by decide), fun t nt => ?_⟩
          have nbt := b16.ne nt
          have f1316 := f1315.trans f16
          have hr16 := f1316 r _ (Ne.symm nbr) hr13
          have hpsc16 := f1316 psc _ pscb hpsc
          have nrt : r ≠ t := ne_of_none hr16 nt
          have f316 : Fr b H3 H16 := f13'.trans f1316
          have nt3 : H3 t = none := f316.free (Ne.symm nbt) nt
          refine ⟨r, _, _, rfl, rfl, by rw [upd_ne nrt]; exact hr16, by rw [pdr.length]; have := congrArg List.length eR; rw [List.length_map, List.length_take] at this; rw [sizeLine_eq]; omega, ?_⟩
          have new3 : ∀ {a : Addr} {Hk : Hp}, Fr b H3 Hk → Hk a = none → a ≠ b → NewTo H b a := fun f e hb => ⟨F3.free hb (f.free hb e), hb⟩
          have npscr : psc ≠ r := (ne_of_none hr12 npsc).symm
          have npbr : pb ≠ r := (ne_of_none (f1315 r _ (Ne.symm nbr) hr13) npb).symm
          have mvr : Mv (fun a => a = r) (upd H16 t (.tup [.str ts[i], .ref psc, .ref pb])) (upd (upd H16 t (.tup [.str ts[i], .ref psc, .ref pb])) r (.lst (ys ++ [.ref t]))) := fun a o na e => by rw [upd_ne na]; exact e
          have mvt : Same H16 (upd H16 t (.tup [.str ts[i], .ref psc, .ref pb])) := Same.new nt
          refine ⟨ys ++ [.ref t], R ++ [(ts[i], sc, bad)], _, _, rfl, (f316.upd_p nt3).upd_p nr3, ?_, ((b16.upd nbt).upd nbr).mono (by omega), upd_same, ?_, ?_, ?_⟩
          · rw [upd_ne (ne_of_none hpt nr), upd_ne (ne_of_none (f1316 pt _ ptb (f13 pt _ ptb hp12)) nt)]
            exact f1316 pt _ ptb (f13 pt _ ptb hp12)
          · refine Paired.snoc (Paired.mono (fun _ _ z => ?_) pdr) ?_
            · exact (((isRowS.mv z (Mv.of_fr (f13.trans f1316)) (fun a ha e => ha.1.2 e) fun a ha e => ha.1.2 e).same mvt).mv mvr (fun a ha e => ha.2 e) fun a ha e => ha.2 e)
            · refine ⟨t, psc, pb, ysb, rfl, ⟨new3 f316 nt (Ne.symm nbt), Ne.symm nrt⟩, by rw [upd_ne (Ne.symm nrt), upd_same], ?_, ?_, ?_⟩
              · refine ⟨⟨new3 f12 npsc pscb, npscr⟩, ?_⟩
                rw [upd_ne npscr, upd_ne (ne_of_none hpsc16 nt)]
                exact hpsc16
              · refine ⟨⟨new3 (f13'.trans f1315) npb pbb, npbr⟩, ?_⟩
                rw [upd_ne npbr, upd_ne (ne_of_none hpb nt)]
                exact hpb
              · refine Paired.mono (fun x ms z => ?_) pdb
                obtain ⟨u, e, gu, hu⟩ := z
                have nur : u ≠ r := ne_of hu hr16 (by simp)
                refine ⟨u, e, ⟨new3 (f13'.trans f1315) gu.1 gu.2, nur⟩, ?_⟩
                rw [upd_ne nur, upd_ne (ne_of_none hu nt)]
                exact hu
          · rw [List.map_append, eR, List.take_succ, List.getElem?_eq_getElem hi]; rfl
          · intro w hw
            rcases List.mem_append.mp hw with h | h
            · exact okR w h
            · rw [List.mem_singleton.mp h]
              exact ⟨okt _ (List.getElem_mem hi), s1, s4, fun x hx => by rw [eL]; exact ssub x hx, snd, lb, bnd, fun ms hms => (bok ms hms).1, fun ms hms => (bok ms hms).2⟩
        · rintro σ H12 ⟨ys, R, x5, x7, rfl, f12, hp12, b12, hr12, pdr, eR, okR⟩
          rw [List.length_map] at b12 eR
          rw [List.take_length] at eR
          refine ⟨_, rfl, _, rfl, lenk 2 rfl (by decide), fun p np => ?_⟩
          have nbp := b12.ne np
          have sp := Same.new (o := .tup [.ref D, .ref r]) np
          have lR : R.length = ts.length := by rw [← eR, List.length_map]
          exact q p D r xs ys L R _ ((F3.trans f12).trans (Fr.of_same sp)) upd_same nDH nrH (sp _ _ (f12 D _ (Ne.symm nbD) hD)) (Paired.mono (fun _ _ z => (isPair.mv z (Mv.of_fr f12) fun a ha e => ha.2 e).same sp) pd)
            (sp _ _ hr12) (Paired.mono (fun _ _ z => (isRowS.wk z (fun a ha => ha.1) fun a ha => ha.1).same sp) pdr) vok ⟨by omega, okR, by rw [eR]; exact ndt⟩ ((b12.upd nbp).mono (by omega))

end K13
namespace K13
open PySem PySem.Spec PyProof.Rows L2 TL
/-! ### what names, integers, lists are -/
theorem a97 : (Str.ofString "a").cps.toList = [97] := by decide +kernel
theorem z122 : (Str.ofString "z").cps.toList = [122] := by decide +kernel
theorem ge_chr (c d : Nat) : (!decide ([c] < [d])) = decide (d ≤ c) := by
  rw [show decide ([c] < [d]) = decide (c < d) by rw [decide_eq_decide, List.cons_lt_cons_iff]; simp, ← decide_not, decide_eq_decide]; omega
theorem kit_ii {K : PySem.W.Frag} : PySem.W.kitOne K (.type "int") (.type "int") = some true := kit_ty (show kitB "int" "int" = some true by decide +kernel)
theorem kit_ib {K : PySem.W.Frag} : PySem.W.kitOne K (.type "int") (.type "bool") = some false := kit_ty (show kitB "int" "bool" = some false by decide +kernel)
theorem kit_ss {K : PySem.W.Frag} : PySem.W.kitOne K (.type "str") (.type "str") = some true := kit_ty (show kitB "str" "str" = some true by decide +kernel)
theorem kit_tt {K : PySem.W.Frag} : PySem.W.kitOne K (.type "tuple") (.type "tuple") = some true := kit_ty (show kitB "tuple" "tuple" = some true by decide +kernel)
theorem kit_ll {K : PySem.W.Frag} : PySem.W.kitOne K (.type "list") (.type "list") = some true := kit_ty (show kitB "list" "list" = some true by decide +kernel)
theorem kit_tl {K : PySem.W.Frag} : PySem.W.kitOne K (.type "tuple") (.type "list") = some false := kit_ty (show kitB "tuple" "list" = some false by decide +kernel)
theorem kitA_l {K : PySem.W.Frag} : PySem.W.kitAny K (.type "list") [.type "list", .type "tuple"] = some true := by
  simp only [PySem.W.kitAny, kit_ll]
theorem kitA_t {K : PySem.W.Frag} : PySem.W.kitAny K (.type "tuple") [.type "list", .type "tuple"] = some true := by
  simp only [PySem.W.kitAny, kit_tl, kit_tt]
/-- a list or a tuple: one that stands here, or the empty one of the program's own text -/
def Sq (K : PySem.W.Frag) (H : Hp) (a : Addr) (xs : List V) : Prop := H a = some (.lst xs) ∨ H a = some (.tup xs) ∨ (EXV.IsE K a ∧ xs = [])
section
variable {K : PySem.W.Frag} {H H' : Hp} {a : Addr} {xs : List V}
theorem Sq.sq (h : Sq K H a xs) : SqL K H a xs ∨ SqT K H a xs := by
  rcases h with h | h | ⟨h, rfl⟩
  · exact .inl (SqL.of h)
  · exact .inr (.inl (.inl h))
  · exact .inr (h.sq H)
theorem Sq.same (h : Sq K H a xs) (s : Same H H') : Sq K H' a xs := by
  rcases h with h | h | h
  · exact .inl (s _ _ h)
  · exact .inr (.inl (s _ _ h))
  · exact .inr (.inr h)
theorem Sq.kit (h : Sq K H a xs) : ∃ t, TyX K H (.ref a) t ∧ PySem.W.kitAny K t [.type "list", .type "tuple"] = some true := by
  rcases h with h | h | ⟨⟨o, n, h1, h2, _⟩, _⟩
  · exact ⟨_, .base (.lst h), kitA_l⟩
  · exact ⟨_, .base (.tup h), kitA_t⟩
  · exact ⟨_, .kTuple h1 h2, kitA_t⟩
theorem sq_same (h : SqL K H a xs ∨ SqT K H a xs) (s : Same H H') : SqL K H' a xs ∨ SqT K H' a xs := (Kp.at fun o e => s a o e).sq h
theorem LT.s {F : Addr → Prop} (h : LT H F a xs) : Sq K H a xs := by
  obtain ⟨_, h | h⟩ := h
  · exact .inl h
  · exact .inr (.inl h)
theorem TyX.same {v : V} {t : Value} (h : TyX K H v t) (s : Same H H') : TyX K H' v t := by
  cases h with
  | base h =>
    cases h with
    | non => exact .base .non
    | bl b => exact .base (.bl b)
    | int i => exact .base (.int i)
    | str z => exact .base (.str z)
    | flt z => exact .base (.flt z)
    | lst e => exact .base (.lst (s _ _ e))
    | frz e => exact .base (.frz (s _ _ e))
    | tup e => exact .base (.tup (s _ _ e))
    | dK e => exact .base (.dK (s _ _ e))
    | dT e => exact .base (.dT (s _ _ e))
    | ins e c ha hn ht hm => exact .base (.ins (s _ _ e) c ha hn ht hm)
  | byt b => exact .byt b
  | set e => exact .set (s _ _ e)
  | kList e c => exact .kList e c
  | kTuple e c => exact .kTuple e c
  | kDict e c => exact .kDict e c
  | fTuple e => exact .fTuple (s _ _ e)
  | fDict e => exact .fDict (s _ _ e)
theorem kp_same {b : Addr} (s : Same H H') : Kp K b H H' := Kp.at fun o e => s b o e
end
theorem or_walkA {K : PySem.W.Frag} {tl : TE} {σ : L2.St} {H0 H : Hp} {R : It → Hp → Prop} {a : Addr} {xs : List V} (ht : ∀ R' : VK, R' (.ref a) H → tl σ H R') (hS : SqL K H0 a xs ∨ SqT K H0 a xs) (k0 : ∀ o, H0 a = some o → H a = some o)
    (h : ∀ (J : It) (G : Hp → Prop), Walk J xs.length G (YAt xs) → (∀ H', (∀ o, H0 a = some o → H' a = some o) → G H') → R J H) : iList K tl σ H R ∨ iTup K tl σ H R := by
  rcases hS with hS | hS
  · exact .inl (ht _ ⟨a, rfl, ⟨xs, (Kp.at k0).1 xs hS⟩, h _ _ walk_list fun H' k => (Kp.at k).1 xs hS⟩)
  · exact .inr (ht _ ⟨a, rfl, ⟨xs, (Kp.at k0).2 xs hS⟩, h _ _ walk_tup fun H' k => (Kp.at k).2 xs hS⟩)
theorem walk_zipM {K : PySem.W.Frag} {a b : Addr} {xs ys : List V} : Walk (Itzm K a b xs ys) (min xs.length ys.length) (fun H => SqT K H a xs ∧ SqL K H b ys) (YPair (fun i => xs[i]?) (fun i => ys[i]?)) :=
  ⟨fun _ _ hi q => ⟨q, hi⟩, fun _ q => ⟨q, Nat.le_refl _⟩, fun _ _ _ _ _ _ y => y⟩
def sp_isname : Sp := fun vs H Q _ => ∃ s : Str, vs = [.str s] ∧ NameOk s ∧ ∀ H', Same H H' → Q (.bl true) H'
theorem ok_is_name {P : Program} {w : World} {K : PySem.W.Frag} {mg : Str → Option Value} {base : Heap} (T : Txt P K mg) : FnOk P w K mg base CX0 1 T.f_is_name T.fd_is_name ["value"] (sp_isname) := by
  refine T.F_is_name.ok sc_is_name (fun vs H Q E h => ?_) (fun cdv A outer s H vs Q E hr h => ?_)
  · obtain ⟨_, rfl, _⟩ := h; rfl
  · obtain ⟨z, rfl, ⟨n1, n2, n3⟩, q⟩ := h
    refine ⟨_, PSs.nox (pss_cons (ps_if (PW.pt (pw_or (pt_not (pt_val (pe_callB (show CallR _ _ (rIsi K) from call_isi) (by rfl) T.n_isinstance (by decide +kernel) (pa_cons (pv 0) (pa_cons (pe_bltn (v := .ty "str") (by rfl) T.n_str (by decide +kernel) rfl) pa_nil))))) (pw_or1 (pt_not (pt_chain op_le op_le pe_int (pe_callB call_len_str (by rfl) T.n_len (by decide +kernel) (pa_cons (pv 0) pa_nil)) pe_int))))) (pss_one (ps_ret pe_bl)) pss_nil)
      (pss_one (ps_ret (pe_callB (show CallR _ _ (rAll K) from cr_all rfl) (by rfl) T.n_all (by decide +kernel) (pa_cons (pe_lc (own := [("letter", 1)]) (g := gName 1) rfl sc_is_name.nd (pi_str (pv 0)) (blkOk_by (own := [("letter", 1)]) (N := N_is_name) (sc := defScope s_is_name) (by decide +kernel)) (fun _ _ _ _ _ => (pg_name (i := 1) sc_is_name.nd rfl (Or.inl rfl))) (fun _ _ _ _ _ => pts_nil) (fun _ _ _ _ _ => (pe_chain op_le_str op_le_str pe_str (pv 1) pe_str))) pa_nil))))), ?_⟩
    have zl : z.length = (tl z).length := len_tl z
    refine ⟨_, rfl, _, _, _, _, _, rfl, .ty _, .base (.str _), kit_ss, _, rfl, ?_⟩
    refine ⟨_, rfl, z, rfl, slen (by omega), _, _, rfl, rfl, _, rfl, ite2 (fun e1 => ?_) (fun e1 => absurd (decide_eq_true (by omega)) e1)⟩
    refine ⟨_, _, rfl, rfl, _, rfl, ite2 (fun e2 => absurd (decide_eq_true (show (z.length : Int) ≤ 8 by omega)) (by simpa using e2)) (fun e2 => ?_)⟩
    refine ⟨_, rfl, z, rfl, fun D nD => lc_it walk_str (fun i H' => H' D = some (.lst (List.replicate i (.bl true))) ∧ Same H H') ⟨upd_same, Same.new nD⟩ (fun _ _ _ _ => trivial) (fun i x H' H'' hi p y => ?_) (fun H' p => ?_)⟩
    · obtain ⟨p1, p2⟩ := p
      obtain ⟨rfl, c, hc, rfl⟩ := y
      have cm : c ∈ tl z := Array.mem_toList_iff.mpr (Array.mem_of_getElem? hc)
      have cb := n3 c cm
      have il : i < z.length := hi
      refine ⟨rfl, _, rfl, _, _, rfl, rfl, _, rfl, ite2 (fun e3 => ?_) (fun e3 => absurd (by rw [a97, ge_chr]; exact decide_eq_true cb.1) e3)⟩
      refine ⟨_, _, rfl, rfl, ?_⟩
      have el : (!decide ((Str.ofString "z").cps.toList < (⟨#[c]⟩ : Str).cps.toList)) = true := by
        rw [z122, ge_chr]; exact decide_eq_true cb.2
      rw [el]
      exact ⟨_, p1, by rw [List.length_replicate, sizeLine_eq]; omega, by rw [upd_same, List.replicate_succ'], Same.upd_p p2 nD⟩
    · obtain ⟨p1, p2⟩ := p
      refine ⟨D, List.replicate z.cps.size true, rfl, SqL.of (by rw [p1, List.map_replicate]), ?_⟩
      have : (List.replicate z.cps.size true).all id = true := by simp
      rw [this]
      exact q H' p2
/-- not an integer: isinstance says no, or it is a bool -/
def NotI (K : PySem.W.Frag) (H : Hp) (u : V) : Prop := ∃ t, TyX K H u t ∧ (PySem.W.kitOne K t (.type "int") = some false ∨ (PySem.W.kitOne K t (.type "int") = some true ∧ PySem.W.kitOne K t (.type "bool") = some true))
theorem NotI.same {K : PySem.W.Frag} {H H' : Hp} {u : V} (h : NotI K H u) (s : Same H H') : NotI K H' u := by
  obtain ⟨t, ty, k⟩ := h
  exact ⟨t, TyX.same ty s, k⟩
def sp_anyint (K : PySem.W.Frag) : Sp := fun vs H Q _ => ∃ v, vs = [v] ∧ ((∃ i : Int, v = .int i ∧ Q (.bl true) H) ∨ (NotI K H v ∧ Q (.bl false) H))
theorem ok_is_any_integer {P : Program} {w : World} {K : PySem.W.Frag} {mg : Str → Option Value} {base : Heap} (T : Txt P K mg) : FnOk P w K mg base CX0 1 T.f_is_any_integer T.fd_is_any_integer ["value"] (sp_anyint K) := by
  refine T.F_is_any_integer.ok sc_is_any_integer (fun vs H Q E h => ?_) (fun cdv A outer s H vs Q E hr h => ?_)
  · obtain ⟨_, rfl, _⟩ := h; rfl
  · obtain ⟨v, rfl, q⟩ := h
    refine ⟨_, PSs.nox (pss_one (ps_ret (pe_and (pe_callB (show CallR _ _ (rIsi K) from call_isi) (by rfl) T.n_isinstance (by decide +kernel) (pa_cons (pv 0) (pa_cons (pe_bltn (v := .ty "int") (by rfl) T.n_int (by decide +kernel) rfl) pa_nil))) (pe_one (pe_not (pe_callB (show CallR _ _ (rIsi K) from call_isi) (by rfl) T.n_isinstance (by decide +kernel) (pa_cons (pv 0) (pa_cons (pe_bltn (v := .ty "bool") (by rfl) T.n_bool (by decide +kernel) rfl) pa_nil)))))))), ?_⟩
    rcases q with ⟨i, rfl, q⟩ | ⟨⟨t, ty, k | ⟨k, k2⟩⟩, q⟩
    · exact ⟨_, rfl, _, _, _, _, _, rfl, .ty _, .base (.int i), kit_ii, _, rfl, _, rfl, _, _, _, _, _, rfl, .ty _, .base (.int i), kit_ib, _, rfl, q⟩
    · exact ⟨_, rfl, _, _, t, _, _, rfl, .ty _, ty, k, _, rfl, q⟩
    · exact ⟨_, rfl, _, _, t, _, _, rfl, .ty _, ty, k, _, rfl, _, rfl, _, _, t, _, _, rfl, .ty _, ty, k2, _, rfl, q⟩
def inI (lo hi : Int) : V → Bool | .int i => decide (lo ≤ i) && decide (i ≤ hi) | _ => false
def sp_isint (K : PySem.W.Frag) : Sp := fun vs H Q _ => ∃ (v : V) (lo hi : Int), vs = [v, .int lo, .int hi] ∧ ((∃ i, v = .int i) ∨ NotI K H v) ∧ Q (.bl (inI lo hi v)) H
theorem NotI.no {K : PySem.W.Frag} {H : Hp} {i : Int} (h : NotI K H (.int i)) : False := by
  obtain ⟨t, ty, k⟩ := h
  cases ty with
  | base b =>
    cases b
    rw [kit_ii, kit_ib] at k
    rcases k with k | ⟨_, k⟩ <;> cases k
theorem NotI.inI {K : PySem.W.Frag} {H : Hp} {v : V} (h : NotI K H v) (lo hi : Int) : inI lo hi v = false := by
  cases v with
  | int i => exact absurd h fun z => z.no
  | _ => rfl
theorem ok_is_integer {P : Program} {w : World} {K : PySem.W.Frag} {mg : Str → Option Value} {base : Heap} (T : Txt P K mg) : FnOk P w K mg base CX0 2 T.f_is_integer T.fd_is_integer ["value", "low", "high"] (sp_isint K) := by
  refine T.F_is_integer.ok sc_is_integer (fun vs H Q E h => ?_) (fun cdv A outer s H vs Q E hr h => ?_)
  · obtain ⟨_, _, _, rfl, _⟩ := h; rfl
  · obtain ⟨v, lo, hi, rfl, h1, q⟩ := h
    refine ⟨_, PSs.nox (pss_one (ps_ret (pe_and (pe_call (ok_is_any_integer T) (hr.mono (by decide)) (by rfl) T.g_is_any_integer T.F_is_any_integer.kp (b_is_any_integer T) .nil pass0 (pa_cons (pv 0) pa_nil)) (pe_one (pe_chain op_le op_le (pv 1) (pv 0) (pv 2)))))), ?_⟩
    rcases h1 with ⟨i, rfl⟩ | h1
    · refine ⟨_, rfl, _, rfl, .inl ⟨i, rfl, _, rfl, ?_⟩⟩
      have en : inI lo hi (.int i) = (decide (lo ≤ i) && decide (i ≤ hi)) := rfl
      rw [en] at q
      refine ⟨_, rfl, _, rfl, _, _, rfl, rfl, _, rfl, ite2 (fun e1 => ?_) (fun e1 => ?_)⟩
      · rw [e1, Bool.true_and] at q
        exact ⟨_, rfl, _, _, rfl, rfl, q⟩
      · rw [Bool.eq_false_iff.mpr e1, Bool.false_and] at q
        exact q
    · rw [h1.inI] at q
      exact ⟨_, rfl, _, rfl, .inr ⟨h1, _, rfl, q⟩⟩
def sp_islist (K : PySem.W.Frag) : Sp := fun vs H Q _ => ∃ (a : Addr) (xs : List V) (lo hi : Int), vs = [.ref a, .int lo, .int hi] ∧ Sq K H a xs ∧ lo ≤ xs.length ∧ xs.length ≤ hi ∧ ∀ H', Same H H' → Q (.bl true) H'
theorem ok_is_list {P : Program} {w : World} {K : PySem.W.Frag} {mg : Str → Option Value} {base : Heap} (T : Txt P K mg) : FnOk P w K mg base CX0 1 T.f_is_list T.fd_is_list ["value", "low", "high"] (sp_islist K) := by
  refine T.F_is_list.ok sc_is_list (fun vs H Q E h => ?_) (fun cdv A outer s H vs Q E hr h => ?_)
  · obtain ⟨_, _, _, _, rfl, _⟩ := h; rfl
  · obtain ⟨a, xs, lo, hi, rfl, hS, h1, h2, q⟩ := h
    refine ⟨_, PSs.nox (pss_one (ps_ret (pe_and (pe_callB (show CallR _ _ (rIsiT K) from call_isiT) (by rfl) T.n_isinstance (by decide +kernel) (pa_cons (pv 0) (pa_cons (pe_tup (pa_cons (pe_bltn (v := .ty "list") (by rfl) T.n_list (by decide +kernel) rfl) (pa_cons (pe_bltn (v := .ty "tuple") (by rfl) T.n_tuple (by decide +kernel) rfl) pa_nil))) pa_nil))) (pe_one (pe_chain op_le op_le (pv 1) (pe_callB (show CallR _ _ (rLenSeq K) from call_len_seq) (by rfl) T.n_len (by decide +kernel) (pa_cons (pv 0) pa_nil)) (pv 2)))))), ?_⟩
    refine ⟨_, rfl, lenk 2 rfl (by decide), fun tp ntp => ?_⟩
    have sm : Same H (upd H tp (.tup [.ty "list", .ty "tuple"])) := Same.new ntp
    have ht : upd H tp (.tup [.ty "list", .ty "tuple"]) tp = some (.tup [.ty "list", .ty "tuple"]) := upd_same
    obtain ⟨t, ty, kk⟩ := (hS.same sm).kit
    refine ⟨_, tp, _, t, _, _, rfl, ht, .cons (.ty _) (.cons (.ty _) .nil), ty, kk, _, rfl, ?_⟩
    refine ⟨_, rfl, _, rfl, a, _, rfl, (hS.same sm).sq, _, _, rfl, rfl, _, rfl, ite2 (fun e1 => ?_) (fun e1 => absurd (decide_eq_true h1) e1)⟩
    refine ⟨_, rfl, _, _, rfl, rfl, ?_⟩
    show Q (.bl (decide ((xs.length : Int) ≤ hi))) _
    rw [decide_eq_true h2]
    exact q _ sm
def sp_distinct (K : PySem.W.Frag) : Sp := fun vs H Q _ => ∃ (a : Addr) (ns : List Str), vs = [.ref a] ∧ (SqL K H a (ns.map V.str) ∨ SqT K H a (ns.map V.str)) ∧ ns.Nodup ∧ ns.length ≤ 8 ∧ ∀ H', Same H H' → Q .non H'
theorem val_none {α : Type} {l : List α} {f : α → Str} {g : α → V} {x : Str} (h : x ∉ l.map f) : valV (l.map fun y => ((Sum.inr (f y) : Key), g y)) (Sum.inr x) = none := by
  unfold valV
  rw [Option.map_eq_none_iff, List.find?_eq_none]
  intro kv hkv e
  obtain ⟨y, hy, rfl⟩ := List.mem_map.mp hkv
  exact h (List.mem_map.mpr ⟨y, hy, Sum.inr.inj (of_decide_eq_true e)⟩)
theorem not_mem_take {α : Type} {l : List α} (nd : l.Nodup) {i : Nat} (hi : i < l.length) : l[i] ∉ l.take i := by
  intro h
  obtain ⟨j, hj⟩ := List.getElem?_of_mem h
  obtain ⟨lj, gj⟩ := List.getElem?_eq_some_iff.mp hj
  rw [List.length_take] at lj
  rw [List.getElem_take] at gj
  have n1 := List.nodup_iff_pairwise_ne.mp nd
  rw [List.pairwise_iff_getElem] at n1
  exact n1 j i (by omega) hi (by omega) gj
theorem str_at' {sc : List Str} {j : Nat} {x : V} (h : (sc.map V.str)[j]? = some x) : ∃ hj : j < sc.length, x = .str sc[j] := by
  rw [List.getElem?_map] at h
  cases e : sc[j]? with
  | none => rw [e] at h; cases h
  | some y =>
    rw [e] at h
    obtain ⟨hj, ey⟩ := List.getElem?_eq_some_iff.mp e
    exact ⟨hj, by rw [ey]; exact (Option.some.inj h).symm⟩
theorem take_snoc {α : Type} {l : List α} {i : Nat} (hi : i < l.length) : l.take (i + 1) = l.take i ++ [l[i]] := by
  rw [List.take_succ, List.getElem?_eq_getElem hi]; rfl
theorem ok_check_distinct {P : Program} {w : World} {K : PySem.W.Frag} {mg : Str → Option Value} {base : Heap} (T : Txt P K mg) : FnOk P w K mg base CX0 1 T.f_check_distinct T.fd_check_distinct ["names"] (sp_distinct K) := by
  refine T.F_check_distinct.ok sc_check_distinct (fun vs H Q E h => ?_) (fun cdv A outer s H vs Q E hr h => ?_)
  · obtain ⟨_, _, rfl, _⟩ := h; rfl
  · obtain ⟨a, ns, rfl, hS, nd, n8, q⟩ := h
    refine ⟨_, PSs.nox (pss_cons (ps_set (i := 1) sc_check_distinct.nd rfl (Or.inl rfl) pe_dnewK)
      (pss_one (ps_for PassesOwn.never rfl (pi_or (pi_list (pv 0)) (pi_tup (pv 0))) (pg_name (i := 2) sc_check_distinct.nd rfl (Or.inl rfl)) (pss_cons (ps_if (pt_cmp (pc_din (hu_of hr) (pv 2) (pv 1))) (pss_one ps_never) pss_nil)
      (pss_one (ps_asg pe_bl (pg_sub (pv 1) (pv 2) (set_dict (hu_of hr))))))))), ?_⟩
    intro D nD
    refine or_walkA (fun R' h => ⟨_, rfl, h⟩) hS (fun o e => Same.new nD a o e) fun J G w g => for_it w (fun i σ H' => ∃ x2, σ = [some (.ref a), some (.ref D), x2] ∧ Same H H' ∧ H' D = some (.dK ((ns.take i).map fun x => (Sum.inr x, .bl true)))) ?_ ?_ ?_ ?_
    · exact ⟨_, rfl, Same.new nD, upd_same⟩
    · rintro i σ H' _ ⟨x2, rfl, s1, hD⟩
      exact g H' (s1 a)
    · rintro i x σ Hx H' hi ⟨x2, rfl, s1, hD⟩ ⟨rfl, hx⟩
      obtain ⟨hj, rfl⟩ := str_at' hx
      have hn := val_none (l := ns.take i) (f := id) (g := fun _ => .bl true) (x := ns[i]) (by rw [List.map_id]; exact not_mem_take nd hj)
      replace hn : valV ((ns.take i).map fun x => ((Sum.inr x : Key), V.bl true)) (Sum.inr ns[i]) = none := hn
      have dg : DGet H' D (.str ns[i]) none := by rw [← hn]; exact DGet.k (k := Sum.inr ns[i]) hD
      refine ⟨_, rfl, _, rfl, D, _, rfl, dg, _, rfl, ?_⟩
      refine ⟨_, rfl, _, rfl, D, _, rfl, DPut.k (k := Sum.inr ns[i]) hD (by rw [List.length_map, List.length_take, sizeLine_eq]; omega), ?_⟩
      refine ⟨_, rfl, Same.upd_p s1 nD, ?_⟩
      rw [upd_same, putK_new _ hn, take_snoc hj, List.map_append]
      rfl
    · rintro σ H' ⟨x2, rfl, s1, hD⟩
      exact q H' s1

end K13
namespace K13
open PySem PySem.Spec PyProof.Rows L2 TL
/-! ### bad tuples in ascending order -/
theorem code_inj {B : Int} : ∀ {r q : List Int}, r.length = q.length → TS.Bd B r → TS.Bd B q → TS.code B r ≤ TS.code B q → TS.code B q ≤ TS.code B r → r = q
  | [], [], _, _, _, _, _ => rfl
  | [], _ :: _, h, _, _, _, _ => by simp at h
  | _ :: _, [], h, _, _, _, _ => by simp at h
  | d :: r, e :: q, hl, hr, hq, h1, h2 => by
    have hl' : r.length = q.length := by simpa using hl
    have he : d = e := by
      rcases Int.lt_trichotomy d e with h | h | h
      · have := TS.code_lt (B := B) hl' hr.tail hq.tail h; omega
      · exact h
      · have := TS.code_lt (B := B) hl'.symm hq.tail hr.tail h; omega
    subst he
    have a1 : ¬ TS.code B q < TS.code B r := fun h => by have := (TS.code_same (B := B) (d := d) hl'.symm).mpr h; omega
    have a2 : ¬ TS.code B r < TS.code B q := fun h => by have := (TS.code_same (B := B) (d := d) hl').mpr h; omega
    rw [code_inj hl' hr.tail hq.tail (by omega) (by omega)]
def Srt (bad out : List (List Int)) : Prop := out.Perm bad ∧ out.Pairwise fun x y => TS.code 6 x ≤ TS.code 6 y
theorem Srt.uniq {bad o1 o2 : List (List Int)} {d : Nat} (hb : ∀ ns ∈ bad, ns.length = d ∧ TS.Bd 6 ns) (h1 : Srt bad o1) (h2 : Srt bad o2) : o1 = o2 :=
  List.Perm.eq_of_pairwise (fun a b ha hb' l1 l2 => code_inj ((hb a (h1.1.mem_iff.mp ha)).1.trans (hb b (h2.1.mem_iff.mp hb')).1.symm) (hb a (h1.1.mem_iff.mp ha)).2 (hb b (h2.1.mem_iff.mp hb')).2 l1 l2) h1.2 h2.2 (h1.1.trans h2.1.symm)
theorem row_bd {L : List (Str × Int)} (ok : VarsOk L) {r : Row} (h : RowOk L r) : ∀ ns ∈ r.2.2, ns.length = r.2.1.length ∧ TS.Bd 6 ns := fun ns hns => by
  refine ⟨h.bl ns hns, fun v hv => ?_⟩
  obtain ⟨i, hi⟩ := List.getElem?_of_mem hv
  obtain ⟨li, _⟩ := List.getElem?_eq_some_iff.mp hi
  rw [h.bl ns hns] at li
  have hx := List.getElem?_eq_getElem li
  obtain ⟨a, b⟩ := h.bv ns hns i _ v hx hi
  have := (sizes_val ok (h.sub _ (List.getElem_mem li))).2.2
  omega
def intOf : V → Int | .int i => i | _ => 0
def rdT (H : Hp) : V → List Int | .ref t => (match H t with | some (.tup vs) => vs.map intOf | _ => []) | _ => []
theorem rdT_is {H : Hp} {G : Addr → Prop} {x : V} {ns : List Int} (h : isTupI H G x ns) : rdT H x = ns := by
  obtain ⟨t, rfl, _, ht⟩ := h
  unfold rdT
  simp only [ht, List.map_map]
  have : (intOf ∘ V.int) = id := rfl
  rw [this, List.map_id]
theorem pd_mem {α β : Type} {F : α → β → Prop} : ∀ {l₁ : List α} {l₂ : List β}, Paired F l₁ l₂ → ∀ x ∈ l₁, ∃ y ∈ l₂, F x y
  | _, _, .nil, _, h => by cases h
  | _, _, .cons r t, x, h => by
    rcases List.mem_cons.mp h with rfl | h
    · exact ⟨_, List.mem_cons_self, r⟩
    · obtain ⟨y, hy, f⟩ := pd_mem t x h
      exact ⟨y, List.mem_cons_of_mem _ hy, f⟩
theorem map_rdT {H : Hp} {G : Addr → Prop} : ∀ {xs : List V} {bad : List (List Int)}, Paired (isTupI H G) xs bad → xs.map (rdT H) = bad
  | _, _, .nil => rfl
  | _, _, .cons r t => by rw [List.map_cons, rdT_is r, map_rdT t]
theorem pd_all {α β : Type} {F : α → β → Prop} (f : α → β) : ∀ {l : List α}, (∀ x ∈ l, F x (f x)) → Paired F l (l.map f)
  | [], _ => .nil
  | x :: r, h => .cons (h x List.mem_cons_self) (pd_all f fun z hz => h z (List.mem_cons_of_mem _ hz))
theorem sort_out {H : Hp} {G : Addr → Prop} {xs ys : List V} {bad : List (List Int)} (pd : Paired (isTupI H G) xs bad) (pm : ys.Perm xs) (pw : ys.Pairwise fun x y => TS.code 6 (rdT H x) ≤ TS.code 6 (rdT H y)) :
    Srt bad (ys.map (rdT H)) ∧ Paired (isTupI H G) ys (ys.map (rdT H)) := by
  refine ⟨⟨?_, ?_⟩, pd_all _ fun x hx => ?_⟩
  · rw [← map_rdT pd]; exact pm.map _
  · rw [List.pairwise_map]; exact pw
  · obtain ⟨ns, _, h⟩ := pd_mem pd x (pm.mem_iff.mp hx)
    rw [rdT_is h]; exact h
theorem sort_in {K : PySem.W.Frag} {H : Hp} {G : Addr → Prop} {xs : List V} {bad : List (List Int)} {d : Nat} (pd : Paired (isTupI H G) xs bad) (hb : ∀ ns ∈ bad, ns.length = d ∧ TS.Bd 6 ns) :
    ∀ x ∈ xs, ∃ t, x = V.ref t ∧ SqT K H t ((rdT H x).map V.int) ∧ (rdT H x).length = d ∧ TS.Bd 6 (rdT H x) := fun x hx => by
  obtain ⟨ns, hns, h⟩ := pd_mem pd x hx
  obtain ⟨h1, h2⟩ := hb ns hns
  rw [rdT_is h]
  obtain ⟨t, rfl, _, ht⟩ := h
  exact ⟨t, rfl, .inl (.inl ht), h1, h2⟩
/-! ### neighbors -/
def share (a b : List Str) : Bool := a.any fun x => decide (x ∈ b)
def nbs (R : List Row) (r : Row) : List Str := (R.filter fun s => (!decide (s.1 = r.1)) && share r.2.1 s.2.1).map (·.1)
abbrev Ent := Str × Addr × Addr
def kvS (E : List Ent) : List (Key × V) := E.map fun q => ((Sum.inr q.1 : Key), V.ref q.2.1)
def kvB (E : List Ent) : List (Key × V) := E.map fun q => ((Sum.inr q.1 : Key), V.ref q.2.2)
theorem val_map {α : Type} (f : α → Str) (g : α → V) : ∀ {l : List α} {x : α}, (l.map f).Nodup → x ∈ l → valV (l.map fun y => ((Sum.inr (f y) : Key), g y)) (Sum.inr (f x)) = some (g x)
  | y :: r, x, nd, h => by
    rw [List.map_cons, List.nodup_cons] at nd
    rcases List.mem_cons.mp h with rfl | h
    · exact valV_pos rfl
    · have ne : f y ≠ f x := fun e => nd.1 (by rw [e]; exact List.mem_map.mpr ⟨x, h, rfl⟩)
      rw [List.map_cons, valV_neg (fun z => ne (Sum.inr.inj z))]
      exact val_map f g nd.2 h
theorem Same.none {H H' : Hp} {p : Addr} (s : Same H H') (h : H' p = none) : H p = none := by
  cases e : H p with
  | none => rfl
  | some o => rw [s _ _ e] at h; cases h
def scAt (H : Hp) (q : Ent) (r : Row) : Prop := q.1 = r.1 ∧ H q.2.1 = some (.lst (r.2.1.map V.str))
theorem sc_keys {H : Hp} : ∀ {E : List Ent} {R : List Row}, Paired (scAt H) E R → E.map (·.1) = R.map (·.1)
  | _, _, .nil => rfl
  | _, _, .cons r t => by rw [List.map_cons, List.map_cons, r.1, sc_keys t]
theorem dec_vstr {x y : Str} : decide (V.str x = V.str y) = decide (x = y) := by
  by_cases h : x = y
  · subst h; simp
  · rw [decide_eq_false h, decide_eq_false fun z => h (V.str.inj z)]
def sp_nb : Sp := fun vs H Q _ => ∃ (d : Addr) (o : Obj) (E : List Ent) (R : List Row) (r : Row), vs = [.str r.1, .ref d] ∧ H d = some (.frz o (.dK (kvS E))) ∧ R.length ≤ 8 ∧ (R.map (·.1)).Nodup ∧ r ∈ R ∧ Paired (scAt H) E R ∧ (∀ r ∈ R, r.2.1.length ≤ 4) ∧
  ∀ p H', Same H H' → H p = none → H' p = some (.lst ((nbs R r).map V.str)) → Q (.ref p) H'
theorem ok__neighbors_of {P : Program} {w : World} {K : PySem.W.Frag} {mg : Str → Option Value} {base : Heap} (T : Txt P K mg) : FnOk P w K mg base CX0 1 T.f__neighbors_of T.fd__neighbors_of ["event", "scopes"] (sp_nb) := by
  refine T.F__neighbors_of.ok sc__neighbors_of (fun vs H Q E h => ?_) (fun cdv A outer s H vs Q E hr h => ?_)
  · obtain ⟨_, _, _, _, _, rfl, _⟩ := h; rfl
  · obtain ⟨d, o, E, R, r, rfl, hd, r8, nd, hr', pd, l4, qq⟩ := h
    have lE := pd.length
    have ndE : (E.map (·.1)).Nodup := by rw [sc_keys pd]; exact nd
    obtain ⟨ir, hir⟩ := List.getElem?_of_mem hr'
    obtain ⟨q, hq, eq, hsc⟩ := pd_get' pd hir
    have mq := List.mem_of_getElem? hq
    have r4 := l4 r hr'
    refine ⟨_, PSs.nox (pss_cons (ps_set (i := 2) sc__neighbors_of.nd rfl (Or.inl rfl) (pe_lst pa_nil))
      (pss_cons (ps_for PassesOwn.never rfl (pi_items (pv 1)) (pg_tup rfl (pgs_cons (pg_name (i := 3) sc__neighbors_of.nd rfl (Or.inl rfl)) (pgs_cons (pg_name (i := 4) sc__neighbors_of.nd rfl (Or.inr rfl)) pgs_nil))) (pss_one (ps_if (PW.pt (pw_and (pt_cmpR op_ne (pv 3) (pv 0) (nomark _)) (pw_and1 (pt_val (pe_callB (show CallR _ _ (rAny K) from cr_any rfl) (by rfl) T.n_any (by decide +kernel) (pa_cons (pe_lc (own := [("variable", 5)]) (g := gName 5) rfl sc__neighbors_of.nd (pi_list (pe_dget (hu_of hr) (pv 1) (pv 0) (fun _ _ => rfl))) (blkOk_by (own := [("variable", 5)]) (N := N__neighbors_of) (sc := defScope s__neighbors_of) (by decide +kernel)) (fun _ _ _ _ _ => (pg_name (i := 5) sc__neighbors_of.nd rfl (Or.inl rfl))) (fun _ _ _ _ _ => pts_nil) (fun _ _ _ _ _ => (pe_cmpR (show OpR _ (compareOp .In) (rIn K false) from op_in_seq) (pv 5) (pv 4) (by first | rfl | with_unfolding_all rfl)))) pa_nil)))))) (pss_one (ps_expr (pe_bm PySem.F.plainAttrs_list PySem.F.slot_list_append PySem.F.type_list_append mt_append (pv 2) (pa_cons (pv 3) pa_nil)))) pss_nil)))
      (pss_one (ps_ret (pv 2))))), ?_⟩
    refine ⟨Nat.zero_le _, fun p np => ?_⟩
    refine ⟨_, rfl, d, o, kvS E, rfl, Same.new np _ _ hd, for_it walk_items (fun i σ H' => ∃ x3 x4, σ = [some (.str r.1), some (.ref d), some (.ref p), x3, x4, none] ∧ Same H H' ∧ H' p = some (.lst ((nbs (R.take i) r).map V.str))) ?_ ?_ ?_ ?_⟩
    · exact ⟨_, _, rfl, Same.new np, upd_same⟩
    · rintro i σ H' _ ⟨x3, x4, rfl, s1, hp⟩
      exact s1 _ _ hd
    · rintro i x σ H1 H2 hi ⟨x3, x4, rfl, s1, hp⟩ ⟨T, y1, y2, rfl, nT, rfl, e1, e2⟩
      have li : i < E.length := by unfold kvS at hi; rwa [List.length_map] at hi
      have liR : i < R.length := by omega
      obtain ⟨w, hw, ew, hsc2⟩ := pd_get pd (List.getElem?_eq_getElem li)
      obtain ⟨_, ew2⟩ := List.getElem?_eq_some_iff.mp hw
      have eq1 : (kvS E)[i]? = some (Sum.inr w.1, V.ref E[i].2.1) := by unfold kvS; rw [List.getElem?_map, List.getElem?_eq_getElem li, ← ew]; rfl
      simp only [eq1, Option.map_some] at e1 e2
      cases e1
      cases e2
      have s2 := Same.upd_p (o := .tup [kV (Sum.inr w.1), .ref E[i].2.1]) s1 (Same.none s1 nT)
      have hp2 : upd H1 T (.tup [kV (Sum.inr w.1), .ref E[i].2.1]) p = some (.lst ((nbs (R.take i) r).map V.str)) := by rw [upd_ne (ne_of_none hp nT)]; exact hp
      have hT2 : upd H1 T (.tup [kV (Sum.inr w.1), .ref E[i].2.1]) T = some (.tup [kV (Sum.inr w.1), .ref E[i].2.1]) := upd_same
      generalize upd H1 T (.tup [kV (Sum.inr w.1), .ref E[i].2.1]) = H2 at s2 hp2 hT2
      have e3 : nbs (R.take (i + 1)) r = nbs (R.take i) r ++ (if ((!decide (w.1 = r.1)) && share r.2.1 w.2.1) = true then [w.1] else []) := by
        unfold nbs
        rw [take_snoc liR, ew2, List.filter_append, List.map_append]
        congr 1
        by_cases h : ((!decide (w.1 = r.1)) && share r.2.1 w.2.1) = true
        · rw [if_pos h, List.filter_cons, if_pos h]; rfl
        · rw [if_neg h, List.filter_cons, if_neg h]; rfl
      have skip : ((!decide (w.1 = r.1)) && share r.2.1 w.2.1) = false → nbs (R.take (i + 1)) r = nbs (R.take i) r := fun h => by rw [e3, h]; simp
      have ln : (nbs (R.take i) r).length ≤ 8 := by
        unfold nbs
        rw [List.length_map]
        have := List.length_filter_le (fun s : Row => (!decide (s.1 = r.1)) && share r.2.1 s.2.1) (R.take i)
        rw [List.length_take] at this
        omega
      refine ⟨T, _, rfl, .inl (.inl hT2), rfl, _, _, rfl, _, _, rfl, rfl, ?_⟩
      refine ⟨_, rfl, _, rfl, rfl, _, rfl, ite2 (fun c => ?_) (fun c => ⟨_, _, rfl, s2, by
        have c' : (!decide (w.1 = r.1)) = false := by rw [← dec_vstr]; exact Bool.eq_false_iff.mpr c
        rw [skip (by rw [c', Bool.false_and])]
        exact hp2⟩)⟩
      have dg : DGet H2 d (.str r.1) (some (.ref q.2.1)) := .inl ⟨kvS E, Sum.inr r.1, .inr ⟨o, s2 _ _ hd⟩, rfl, by rw [← eq]; exact (val_map (fun q => q.1) (fun q => V.ref q.2.1) ndE mq).symm⟩
      refine ⟨_, rfl, _, rfl, d, _, rfl, dg, q.2.1, rfl, ⟨_, SqL.of (s2 _ _ hsc)⟩, fun D nD => ?_⟩
      refine lc_it (walk_list (K := K) (a := q.2.1) (xs := r.2.1.map V.str)) (fun j H' => H' D = some (.lst (((r.2.1.take j).map fun x => decide (x ∈ w.2.1)).map V.bl)) ∧ Same H2 H') ⟨upd_same, Same.new nD⟩ ?_ ?_ ?_
      · rintro j H' _ ⟨h1, h3⟩
        exact SqL.of (h3 _ _ (s2 _ _ hsc))
      · rintro j x H3 H4 hj ⟨h1, h3⟩ ⟨rfl, hx⟩
        rw [List.length_map] at hj
        obtain ⟨lj, rfl⟩ := str_at' hx
        refine ⟨rfl, _, rfl, _, rfl, E[i].2.1, _, rfl, .inl (SqL.of (h3 _ _ (s2 _ _ hsc2))), rfl, flat_str _, _, h1, by rw [List.length_map, List.length_map, List.length_take, sizeLine_eq]; omega, ?_, Same.upd_p h3 nD⟩
        rw [upd_same, inV_str, take_snoc lj, List.map_append, List.map_append]; rfl
      · rintro H3 ⟨h1, h3⟩
        rw [List.length_map, List.take_length] at h1
        refine ⟨D, r.2.1.map (fun x => decide (x ∈ w.2.1)), rfl, SqL.of h1, _, rfl, ?_⟩
        have es : (r.2.1.map fun x => decide (x ∈ w.2.1)).any id = share r.2.1 w.2.1 := by unfold share; rw [List.any_map]; rfl
        rw [es]
        have c' : (!decide (w.1 = r.1)) = true := by rw [← dec_vstr]; exact c
        by_cases hs : share r.2.1 w.2.1 = true
        · rw [hs]
          refine iteT ⟨_, rfl, .inl ⟨rfl, _, SqL.of (h3 _ _ hp2)⟩, _, rfl, p, _, _, rfl, rfl, h3 _ _ hp2, by rw [List.length_map, sizeLine_eq]; omega, ?_⟩
          refine ⟨_, _, rfl, Same.upd_p (s2.trans h3) np, ?_⟩
          rw [upd_same, e3, c', hs, if_pos (show (true && true) = true from rfl), List.map_append]; rfl
        · have hs' : share r.2.1 w.2.1 = false := Bool.eq_false_iff.mpr hs
          rw [hs']
          exact iteF ⟨_, _, rfl, s2.trans h3, by rw [skip (by rw [hs', Bool.and_false])]; exact h3 _ _ hp2⟩
    · rintro σ H' ⟨x3, x4, rfl, s1, hp⟩
      refine ⟨_, rfl, qq p H' s1 np ?_⟩
      have : (kvS E).length = R.length := by unfold kvS; rw [List.length_map, lE]
      rw [this, List.take_length] at hp
      exact hp

end K13
namespace K13
open PySem PySem.Spec PyProof.Rows L2 TL
/-! ### a problem that stands -/
def pfl (av ds dp ae dsc dbt dn : Addr) : List (Str × V) :=
  putF "_neighbors" (.ref dn) (putF "_bad_tuples" (.ref dbt) (putF "_scopes" (.ref dsc) (putF "_events" (.ref ae) (putF "_places" (.ref dp) (putF "_sizes" (.ref ds) (putF "_variables" (.ref av) []))))))
section
variable (av ds dp ae dsc dbt dn : Addr)
theorem pfl_variables : (pfl av ds dp ae dsc dbt dn).lookup ("_variables" : Str) = some (.ref av) := by
  unfold pfl
  iterate 6 refine (lookup_putF ..).trans ((if_neg (by decide +kernel)).trans ?_)
  exact (lookup_putF ..).trans (if_pos rfl)
theorem pfl_sizes : (pfl av ds dp ae dsc dbt dn).lookup ("_sizes" : Str) = some (.ref ds) := by
  unfold pfl
  iterate 5 refine (lookup_putF ..).trans ((if_neg (by decide +kernel)).trans ?_)
  exact (lookup_putF ..).trans (if_pos rfl)
theorem pfl_events : (pfl av ds dp ae dsc dbt dn).lookup ("_events" : Str) = some (.ref ae) := by
  unfold pfl
  iterate 3 refine (lookup_putF ..).trans ((if_neg (by decide +kernel)).trans ?_)
  exact (lookup_putF ..).trans (if_pos rfl)
theorem pfl_scopes : (pfl av ds dp ae dsc dbt dn).lookup ("_scopes" : Str) = some (.ref dsc) := by
  unfold pfl
  iterate 2 refine (lookup_putF ..).trans ((if_neg (by decide +kernel)).trans ?_)
  exact (lookup_putF ..).trans (if_pos rfl)
theorem pfl_bad : (pfl av ds dp ae dsc dbt dn).lookup ("_bad_tuples" : Str) = some (.ref dbt) := by
  unfold pfl
  iterate 1 refine (lookup_putF ..).trans ((if_neg (by decide +kernel)).trans ?_)
  exact (lookup_putF ..).trans (if_pos rfl)
end
def isEv (H : Hp) (F : Addr → Prop) (x : V) (q : Ent) : Prop := ∃ t, x = .ref t ∧ F t ∧ H t = some (.tup [.str q.1, .ref q.2.1, .ref q.2.2])
def isEnt (H : Hp) (F G : Addr → Prop) (q : Ent) (r : Row) : Prop := q.1 = r.1 ∧ F q.2.1 ∧ F q.2.2 ∧ H q.2.1 = some (.lst (r.2.1.map V.str)) ∧ ∃ ys out, H q.2.2 = some (.lst ys) ∧ Srt r.2.2 out ∧ Paired (isTupI H G) ys out
def kvN (N : List (Str × Addr)) : List (Key × V) := N.map fun q => ((Sum.inr q.1 : Key), V.ref q.2)
def isNb (H : Hp) (F : Addr → Prop) (R : List Row) (z : Str × Addr) (r : Row) : Prop := z.1 = r.1 ∧ F z.2 ∧ H z.2 = some (.lst ((nbs R r).map V.str))
def NbAt (H : Hp) (F : Addr → Prop) (R : List Row) (dn : Addr) : Prop := ∃ N, F dn ∧ H dn = some (.dK (kvN N)) ∧ Paired (isNb H F R) N R
def kvP (L : List (Str × Int)) : List (Key × V) := (L.map (·.1)).zipIdx.map fun z => ((Sum.inr z.1 : Key), V.int ((z.2 : Nat) : Int))
def PlAt (H : Hp) (F : Addr → Prop) (L : List (Str × Int)) (dp : Addr) : Prop := F dp ∧ H dp = some (.dK (kvP L))
def IsP (C : Addr) (H : Hp) (F G : Addr → Prop) (p : Addr) (L : List (Str × Int)) (R : List Row) : Prop := ∃ (dx av ds dp ae dsc dbt dn : Addr) (E : List Ent) (xs es : List V),
  H p = some (.ins C dx (pfl av ds dp ae dsc dbt dn)) ∧ (F p ∧ F av ∧ F ds ∧ F ae ∧ F dsc ∧ F dbt ∧ NbAt H F R dn ∧ PlAt H F L dp) ∧ (H av = some (.lst xs) ∧ Paired (isPair H G) xs L) ∧ H ds = some (.dK (kvL L)) ∧
  (H ae = some (.lst es) ∧ Paired (isEv H F) es E ∧ Paired (isEnt H F G) E R) ∧ H dsc = some (.dK (kvS E)) ∧ H dbt = some (.dK (kvB E))
section
variable {C : Addr} {H H' : Hp} {F F' G W : Addr → Prop}
theorem isEv.mv {x : V} {q : Ent} (h : isEv H F x q) (m : Mv W H H') (d : ∀ a, F a → ¬ W a) : isEv H' F x q := by
  obtain ⟨t, e, f, h⟩ := h
  exact ⟨t, e, f, m _ _ (d _ f) h⟩
theorem isEnt.mv {q : Ent} {r : Row} (h : isEnt H F G q r) (m : Mv W H H') (d : ∀ a, F a → ¬ W a) (d' : ∀ a, G a → ¬ W a) : isEnt H' F G q r := by
  obtain ⟨e, f1, f2, h1, ys, out, h2, s, pd⟩ := h
  exact ⟨e, f1, f2, m _ _ (d _ f1) h1, ys, out, m _ _ (d _ f2) h2, s, Paired.mono (fun _ _ z => z.mv m d') pd⟩
theorem isEv.wk {x : V} {q : Ent} (h : isEv H F x q) (f : ∀ a, F a → F' a) : isEv H F' x q := by
  obtain ⟨t, e, g, h⟩ := h
  exact ⟨t, e, f _ g, h⟩
theorem isEnt.wk {q : Ent} {r : Row} (h : isEnt H F G q r) (f : ∀ a, F a → F' a) : isEnt H F' G q r := by
  obtain ⟨e, f1, f2, h1, h2⟩ := h
  exact ⟨e, f _ f1, f _ f2, h1, h2⟩
theorem isNb.mv {R : List Row} {z : Str × Addr} {r : Row} (h : isNb H F R z r) (m : Mv W H H') (d : ∀ a, F a → ¬ W a) : isNb H' F R z r := ⟨h.1, h.2.1, m _ _ (d _ h.2.1) h.2.2⟩
theorem NbAt.mv {R : List Row} {dn : Addr} (h : NbAt H F R dn) (m : Mv W H H') (d : ∀ a, F a → ¬ W a) : NbAt H' F R dn := by
  obtain ⟨N, f, h1, h2⟩ := h
  exact ⟨N, f, m _ _ (d _ f) h1, Paired.mono (fun _ _ z => z.mv m d) h2⟩
theorem IsP.mv {p : Addr} {L : List (Str × Int)} {R : List Row} (h : IsP C H F G p L R) (m : Mv W H H') (d : ∀ a, F a → ¬ W a) (d' : ∀ a, G a → ¬ W a) : IsP C H' F G p L R := by
  obtain ⟨dx, av, ds, dp, ae, dsc, dbt, dn, E, xs, es, hp, ⟨f1, f2, f3, f4, f5, f6, f7⟩, ⟨h1, h2⟩, h3, ⟨h4, h5, h6⟩, h7, h8⟩ := h
  exact ⟨dx, av, ds, dp, ae, dsc, dbt, dn, E, xs, es, m _ _ (d _ f1) hp, ⟨f1, f2, f3, f4, f5, f6, f7.1.mv m d, f7.2.1, m _ _ (d _ f7.2.1) f7.2.2⟩, ⟨m _ _ (d _ f2) h1, Paired.mono (fun _ _ z => z.mv m d') h2⟩, m _ _ (d _ f3) h3,
    ⟨m _ _ (d _ f4) h4, Paired.mono (fun _ _ z => z.mv m d) h5, Paired.mono (fun _ _ z => z.mv m d d') h6⟩, m _ _ (d _ f5) h7, m _ _ (d _ f6) h8⟩
theorem IsP.same {p : Addr} {L : List (Str × Int)} {R : List Row} (h : IsP C H F G p L R) (m : Same H H') : IsP C H' F G p L R := h.mv (Mv.of_same m (W := fun _ => False)) (fun _ _ z => z) fun _ _ z => z
end
def Old (H : Hp) : Addr → Prop := fun a => ∃ o, H a = some o
def New (H : Hp) : Addr → Prop := fun a => H a = none
theorem isPair.old {H : Hp} {G : Addr → Prop} {x : V} {q : Str × Int} (h : isPair H G x q) : isPair H (Old H) x q := by
  obtain ⟨t, e, _, h⟩ := h
  exact ⟨t, e, ⟨_, h⟩, h⟩
theorem isTupI.old {H : Hp} {G : Addr → Prop} {x : V} {ns : List Int} (h : isTupI H G x ns) : isTupI H (Old H) x ns := by
  obtain ⟨t, e, _, h⟩ := h
  exact ⟨t, e, ⟨_, h⟩, h⟩
theorem LT.old {H : Hp} {F : Addr → Prop} {a : Addr} {xs : List V} (h : LT H F a xs) : LT H (Old H) a xs := ⟨h.2.elim (fun e => ⟨_, e⟩) fun e => ⟨_, e⟩, h.2⟩
theorem isRow.old {H : Hp} {F G : Addr → Prop} {x : V} {r : Row} (h : isRow H F G x r) : isRow H (Old H) (Old H) x r := by
  obtain ⟨p, a, b, ys, e, f, h, la, lb, hp⟩ := h
  exact ⟨p, a, b, ys, e, ⟨_, h⟩, h, la.old, lb.old, Paired.mono (fun _ _ z => z.old) hp⟩
theorem Mv.same_old {H H' : Hp} (s : Same H H') : ∀ a, Old H a → ∃ o, H' a = some o := fun a ⟨o, e⟩ => ⟨o, s _ _ e⟩
/-- what a dict's lock leaves -/
theorem Same.unlock {H H' : Hp} {d : Addr} {o : Obj} {u : HO} (h : H d = some u) (s : Same (upd H d (.frz o u)) H') : Same H (upd H' d u) := fun a v e => by
  by_cases ha : a = d
  · subst ha
    rw [h] at e
    cases e
    exact upd_same
  · rw [upd_ne ha]
    exact s a v (by rw [upd_ne ha]; exact e)
theorem frz_at {H H' : Hp} {d : Addr} {o : Obj} {u : HO} (s : Same (upd H d (.frz o u)) H') : H' d = some (.frz o u) := s _ _ upd_same
theorem kvL_take_len (L : List (Str × Int)) (i : Nat) : (kvL (L.take i)).length ≤ L.length := by
  unfold kvL; rw [List.length_map, List.length_take]; omega
theorem kvL_put {L : List (Str × Int)} (nd : (L.map (·.1)).Nodup) {i : Nat} (hi : i < L.length) : putK (kvL (L.take i)) (Sum.inr L[i].1) (.int L[i].2) = kvL (L.take (i + 1)) := by
  have hn := val_none (l := L.take i) (f := fun q => q.1) (g := fun q => V.int q.2) (x := L[i].1) (by
    have h := not_mem_take nd (i := i) (by rw [List.length_map]; exact hi)
    rw [List.getElem_map, ← List.map_take] at h
    exact h)
  unfold kvL
  rw [putK_new _ hn, take_snoc hi, List.map_append]
  rfl
theorem ent_put {g : Ent → V} {E : List Ent} (nd : (E.map (·.1)).Nodup) {i : Nat} (hi : i < E.length) : putK ((E.take i).map fun q => ((Sum.inr q.1 : Key), g q)) (Sum.inr E[i].1) (g E[i]) = (E.take (i + 1)).map fun q => ((Sum.inr q.1 : Key), g q) := by
  have hn := val_none (l := E.take i) (f := fun q => q.1) (g := g) (x := E[i].1) (by
    have h := not_mem_take nd (i := i) (by rw [List.length_map]; exact hi)
    rw [List.getElem_map, ← List.map_take] at h
    exact h)
  rw [putK_new _ hn, take_snoc hi, List.map_append]
  rfl

theorem kvP_snoc (L : List (Str × Int)) (q : Str × Int) : kvP (L ++ [q]) = kvP L ++ [((Sum.inr q.1 : Key), V.int ((L.length : Nat) : Int))] := by
  unfold kvP
  rw [List.map_append, List.zipIdx_append, List.map_append]
  simp
theorem zip_fst : ∀ (l : List Str) (k : Nat), (l.zipIdx k).map (fun z => (Sum.inr z.1 : Key)) = l.map Sum.inr
  | [], _ => rfl
  | x :: r, k => by rw [List.zipIdx_cons, List.map_cons, List.map_cons, zip_fst r (k + 1)]
theorem kvP_keys (L : List (Str × Int)) : (kvP L).map (·.1) = (L.map (·.1)).map Sum.inr := by
  unfold kvP
  rw [List.map_map]
  exact zip_fst _ 0
theorem kvP_len (L : List (Str × Int)) : (kvP L).length = L.length := by
  unfold kvP; simp
theorem kvP_put {L : List (Str × Int)} (nd : (L.map (·.1)).Nodup) {i : Nat} (hi : i < L.length) : putK (kvP (L.take i)) (Sum.inr L[i].1) (.int (i : Nat)) = kvP (L.take (i + 1)) := by
  have hn : valV (kvP (L.take i)) (Sum.inr L[i].1) = none := by
    unfold valV
    rw [Option.map_eq_none_iff, List.find?_eq_none]
    intro kv hkv e
    have h1 : kv.1 ∈ (kvP (L.take i)).map (·.1) := List.mem_map.mpr ⟨kv, hkv, rfl⟩
    rw [of_decide_eq_true e, kvP_keys] at h1
    obtain ⟨y, hy, e2⟩ := List.mem_map.mp h1
    cases (Sum.inr.inj e2)
    have h := not_mem_take nd (i := i) (by rw [List.length_map]; exact hi)
    rw [List.getElem_map, ← List.map_take] at h
    exact h hy
  rw [putK_new _ hn, take_snoc hi, kvP_snoc, List.length_take, Nat.min_eq_left (Nat.le_of_lt hi)]

end K13
namespace K13
open PySem PySem.Spec PyProof.Rows L2 TL
/-! ### the checks of variables and events, of good ones -/
def sp_vrow : Sp := fun vs H Q _ => ∃ (t : Addr) (q : Str × Int), vs = [.ref t] ∧ H t = some (.tup [.str q.1, .int q.2]) ∧ NameOk q.1 ∧ 1 ≤ q.2 ∧ q.2 ≤ 6 ∧ ∀ H', Same H H' → Q (.bl true) H'
theorem ok__is_variable_row {P : Program} {w : World} {K : PySem.W.Frag} {mg : Str → Option Value} {base : Heap} (T : Txt P K mg) : FnOk P w K mg base CX0 3 T.f__is_variable_row T.fd__is_variable_row ["row"] (sp_vrow) := by
  refine T.F__is_variable_row.ok sc__is_variable_row (fun vs H Q E h => ?_) (fun cdv A outer s H vs Q E hr h => ?_)
  · obtain ⟨_, _, rfl, _⟩ := h; rfl
  · obtain ⟨t, q, rfl, ht, hn, h1, h6, qq⟩ := h
    refine ⟨_, PSs.nox (pss_one (ps_ret (pe_and (pe_callB (show CallR _ _ (rIsi K) from call_isi) (by rfl) T.n_isinstance (by decide +kernel) (pa_cons (pv 0) (pa_cons (pe_bltn (v := .ty "tuple") (by rfl) T.n_tuple (by decide +kernel) rfl) pa_nil))) (pe_and (pe_cmpR op_eq (pe_callB (show CallR _ _ (rLenSeq K) from call_len_seq) (by rfl) T.n_len (by decide +kernel) (pa_cons (pv 0) pa_nil)) pe_int (nomark _)) (pe_and (pe_call (ok_is_name T) (hr.mono (by decide)) (by rfl) T.g_is_name T.F_is_name.kp (b_is_name T) .nil pass0 (pa_cons (pe_ix (show IxR _ (rIxT K) from ix_tup) (pv 0) pe_int (fun _ _ => rfl)) pa_nil)) (pe_one (pe_call (ok_is_integer T) (hr.mono (by decide)) (by rfl) T.g_is_integer T.F_is_integer.kp (b_is_integer T) .nil pass0 (pa_cons (pe_ix (show IxR _ (rIxT K) from ix_tup) (pv 0) pe_int (fun _ _ => rfl)) (pa_cons pe_int (pa_cons pe_int pa_nil)))))))))), ?_⟩
    refine ⟨_, rfl, _, _, _, _, _, rfl, .ty _, .base (.tup ht), kit_tt, _, rfl, ?_⟩
    refine ⟨_, rfl, t, _, rfl, .inr (.inl (.inl ht)), rfl, _, rfl, ?_⟩
    refine ⟨_, rfl, t, _, (0 : Int), _, rfl, rfl, .inl (.inl ht), rfl, q.1, rfl, hn, fun H1 s1 => ?_⟩
    have ht1 := s1 _ _ ht
    refine ⟨_, rfl, ?_⟩
    refine ⟨_, rfl, t, _, (1 : Int), _, rfl, rfl, .inl (.inl ht1), rfl, .int q.2, 1, 6, rfl, .inl ⟨q.2, rfl⟩, by show Q (.bl (decide (1 ≤ q.2) && decide (q.2 ≤ 6))) H1; rw [decide_eq_true h1, decide_eq_true h6]; exact qq _ s1⟩
def sp_vars (K : PySem.W.Frag) : Sp := fun vs H Q _ => ∃ (a : Addr) (xs : List V) (G : Addr → Prop) (L : List (Str × Int)), vs = [.ref a] ∧ Sq K H a xs ∧ Paired (isPair H G) xs L ∧ VarsOk L ∧ ∀ H', Same H H' → Q .non H'
theorem ok__check_variables {P : Program} {w : World} {K : PySem.W.Frag} {mg : Str → Option Value} {base : Heap} (T : Txt P K mg) : FnOk P w K mg base CX0 4 T.f__check_variables T.fd__check_variables ["variables"] (sp_vars K) := by
  refine T.F__check_variables.ok sc__check_variables (fun vs H Q E h => ?_) (fun cdv A outer s H vs Q E hr h => ?_)
  · obtain ⟨_, _, _, _, rfl, _⟩ := h; rfl
  · obtain ⟨a, xs, G, L, rfl, hS, pd, ok, q⟩ := h
    have lxs := pd.length
    have h1 := ok.pos
    have h8 := ok.few
    refine ⟨_, PSs.nox (pss_cons (ps_if (PW.pt (pw_or (pt_not (pt_val (pe_call (ok_is_list T) (hr.mono (by decide)) (by rfl) T.g_is_list T.F_is_list.kp (b_is_list T) .nil pass0 (pa_cons (pv 0) (pa_cons pe_int (pa_cons (pe_glob (v := .int 8) (by rfl) T.c_MOST_VARIABLES.choose_spec ⟨_, rfl⟩) pa_nil)))))) (pw_or1 (pt_not (pt_val (pe_callB (show CallR _ _ (rAll K) from cr_all rfl) (by rfl) T.n_all (by decide +kernel) (pa_cons (pe_lc (own := [("row", 3)]) (g := gName 3) rfl sc__check_variables.nd (pi_or (pi_list (pv 0)) (pi_tup (pv 0))) (blkOk_by (own := [("row", 3)]) (N := N__check_variables) (sc := defScope s__check_variables) (by decide +kernel)) (fun _ _ _ _ _ => (pg_name (i := 3) sc__check_variables.nd rfl (Or.inl rfl))) (fun _ _ _ _ _ => pts_nil) (fun _ _ _ _ _ => (pe_call (ok__is_variable_row T) (hr.mono (by decide)) (by rfl) T.g__is_variable_row T.F__is_variable_row.kp (b__is_variable_row T) .nil pass0 (pa_cons (pv 3) pa_nil)))) pa_nil))))))) (pss_one ps_never) pss_nil)
      (pss_one (ps_expr (pe_call (ok_check_distinct T) (hr.mono (by decide)) (by rfl) T.g_check_distinct T.F_check_distinct.kp (b_check_distinct T) .nil pass0 (pa_cons (pe_lc (own := [("name", 1), ("_", 2)]) (g := gTup K 2 (gCons (gName 1) (gCons (gName 2) gNil))) rfl sc__check_variables.nd (pi_or (pi_list (pv 0)) (pi_tup (pv 0))) (blkOk_by (own := [("name", 1), ("_", 2)]) (N := N__check_variables) (sc := defScope s__check_variables) (by decide +kernel)) (fun _ _ _ _ _ => (pg_tup rfl (pgs_cons (pg_name (i := 1) sc__check_variables.nd rfl (Or.inl rfl)) (pgs_cons (pg_name (i := 2) sc__check_variables.nd rfl (Or.inl rfl)) pgs_nil)))) (fun _ _ _ _ _ => pts_nil) (fun _ _ _ _ _ => (pv 1))) pa_nil))))), ?_⟩
    refine ⟨_, rfl, a, xs, 1, 8, rfl, hS, by omega, by omega, fun H1 s1 => ?_⟩
    refine ⟨_, rfl, ?_⟩
    refine or_walkA (fun R' h => ⟨_, rfl, h⟩) hS.sq (s1 a) fun J G1 w g D nD => ?_
    refine lc_it w (fun i H' => H' D = some (.lst (List.replicate i (.bl true))) ∧ Same H1 H') ⟨upd_same, Same.new nD⟩ (fun i H' _ p => g H' fun o e => p.2 a o (s1 a o e)) ?_ ?_
    · rintro i x H2 H3 hi ⟨p1, p2⟩ ⟨rfl, hx⟩
      obtain ⟨y, hy, t, rfl, _, ht⟩ := pd_get pd hx
      refine ⟨rfl, _, rfl, t, y, rfl, p2 _ _ (s1 _ _ ht), ok.nm y (List.mem_of_getElem? hy), (ok.sz y (List.mem_of_getElem? hy)).1, (ok.sz y (List.mem_of_getElem? hy)).2, fun H4 s4 => ?_⟩
      exact ⟨_, s4 _ _ p1, by rw [List.length_replicate, sizeLine_eq]; omega, by rw [upd_same, List.replicate_succ'], Same.upd_p (p2.trans s4) nD⟩
    · rintro H2 ⟨p1, p2⟩
      refine ⟨D, List.replicate xs.length true, rfl, SqL.of (by rw [p1, List.map_replicate]), ?_⟩
      have e : (List.replicate xs.length true).all id = true := by simp
      rw [e]
      refine ⟨_, rfl, ?_⟩
      have s2 := s1.trans p2
      refine or_walkA (fun R' h => ⟨_, rfl, h⟩) hS.sq (s2 a) fun J2 G2 w2 g2 D2 nD2 => ?_
      refine lc_it w2 (fun i H' => H' D2 = some (.lst ((L.take i).map fun z => V.str z.1)) ∧ Same H2 H') ⟨upd_same, Same.new nD2⟩ (fun i H' _ p => g2 H' fun o e => p.2 a o (s2 a o e)) ?_ ?_
      · rintro i x H3 H4 hi ⟨r1, r2⟩ ⟨rfl, hx⟩
        obtain ⟨y, hy, t, rfl, _, ht⟩ := pd_get pd hx
        have ht3 := r2 _ _ (s2 _ _ ht)
        refine ⟨t, _, rfl, .inl (.inl ht3), rfl, _, _, rfl, _, _, rfl, rfl, rfl, _, rfl, _, r1, by rw [List.length_map, List.length_take, sizeLine_eq]; omega, ?_, Same.upd_p r2 nD2⟩
        obtain ⟨li, ey⟩ := List.getElem?_eq_some_iff.mp hy
        rw [upd_same, take_snoc li, List.map_append, ey]; rfl
      · rintro H3 ⟨r1, r2⟩
        rw [lxs, List.take_length, show (L.map fun z => V.str z.1) = (L.map (·.1)).map V.str by rw [List.map_map]; rfl] at r1
        exact ⟨D2, L.map (·.1), rfl, .inl (SqL.of r1), ok.nd, by rw [List.length_map]; omega, fun H4 s4 => q H4 ((s2.trans r2).trans s4)⟩
def sp_var : Sp := fun vs H Q _ => ∃ (x : Str) (d : Addr) (kvs : List (Key × V)) (v : V), vs = [.str x, .ref d] ∧ H d = some (.dK kvs) ∧ valV kvs (Sum.inr x) = some v ∧ Q .non H
theorem ok__check_variable {P : Program} {w : World} {K : PySem.W.Frag} {mg : Str → Option Value} {base : Heap} (T : Txt P K mg) : FnOk P w K mg base CX0 1 T.f__check_variable T.fd__check_variable ["value", "sizes"] (sp_var) := by
  refine T.F__check_variable.ok sc__check_variable (fun vs H Q E h => ?_) (fun cdv A outer s H vs Q E hr h => ?_)
  · obtain ⟨_, _, _, _, rfl, _⟩ := h; rfl
  · obtain ⟨x, d, kvs, v, rfl, hd, hv, q⟩ := h
    refine ⟨_, PSs.nox (pss_one (ps_if (PW.pt (pw_or (pt_not (pt_val (pe_callB (show CallR _ _ (rIsi K) from call_isi) (by rfl) T.n_isinstance (by decide +kernel) (pa_cons (pv 0) (pa_cons (pe_bltn (v := .ty "str") (by rfl) T.n_str (by decide +kernel) rfl) pa_nil))))) (pw_or1 (pt_cmp (pc_dnotin (hu_of hr) (pv 0) (pv 1)))))) (pss_one ps_never) pss_nil)), ?_⟩
    have dg : DGet H d (.str x) (some v) := by rw [← hv]; exact DGet.k (k := Sum.inr x) hd
    exact ⟨_, rfl, _, _, _, _, _, rfl, .ty _, .base (.str _), kit_ss, _, rfl, _, rfl, _, rfl, d, _, rfl, dg, _, rfl, q⟩
def sp_chkscope (K : PySem.W.Frag) : Sp := fun vs H Q _ => ∃ (a d : Addr) (sc : List Str) (kvs : List (Key × V)), vs = [.ref a, .ref d] ∧ (SqL K H a (sc.map V.str) ∨ SqT K H a (sc.map V.str)) ∧ H d = some (.dK kvs) ∧ (∀ x ∈ sc, ∃ v, valV kvs (Sum.inr x) = some v) ∧ sc.Nodup ∧ sc.length ≤ 8 ∧ ∀ H', Same H H' → Q .non H'
theorem ok__check_scope {P : Program} {w : World} {K : PySem.W.Frag} {mg : Str → Option Value} {base : Heap} (T : Txt P K mg) : FnOk P w K mg base CX0 2 T.f__check_scope T.fd__check_scope ["scope", "sizes"] (sp_chkscope K) := by
  refine T.F__check_scope.ok sc__check_scope (fun vs H Q E h => ?_) (fun cdv A outer s H vs Q E hr h => ?_)
  · obtain ⟨_, _, _, _, rfl, _⟩ := h; rfl
  · obtain ⟨a, d, sc, kvs, rfl, hS, hd, hv, nd, s8, q⟩ := h
    refine ⟨_, PSs.nox (pss_cons (ps_for PassesOwn.never rfl (pi_or (pi_list (pv 0)) (pi_tup (pv 0))) (pg_name (i := 2) sc__check_scope.nd rfl (Or.inl rfl)) (pss_one (ps_expr (pe_call (ok__check_variable T) (hr.mono (by decide)) (by rfl) T.g__check_variable T.F__check_variable.kp (b__check_variable T) .nil pass0 (pa_cons (pv 2) (pa_cons (pv 1) pa_nil))))))
      (pss_one (ps_expr (pe_call (ok_check_distinct T) (hr.mono (by decide)) (by rfl) T.g_check_distinct T.F_check_distinct.kp (b_check_distinct T) .nil pass0 (pa_cons (pv 0) pa_nil))))), ?_⟩
    refine or_walkA (fun R' h => ⟨_, rfl, h⟩) hS (fun o e => e) fun J G w g => for_it w (fun i σ H' => ∃ x2, σ = [some (.ref a), some (.ref d), x2] ∧ H' = H) ?_ ?_ ?_ ?_
    · exact ⟨_, rfl, rfl⟩
    · rintro i σ H' _ ⟨x2, rfl, rfl⟩
      exact g _ fun o e => e
    · rintro i x σ Hx H' hi ⟨x2, rfl, rfl⟩ ⟨rfl, hx⟩
      obtain ⟨hj, rfl⟩ := str_at' hx
      obtain ⟨v, hv⟩ := hv _ (List.getElem_mem hj)
      exact ⟨_, rfl, _, rfl, _, d, kvs, v, rfl, hd, hv, _, rfl, rfl⟩
    · rintro σ H' ⟨x2, rfl, rfl⟩
      exact ⟨_, rfl, a, sc, rfl, hS, nd, s8, fun H' s' => q H' s'⟩
theorem int_at' {ns : List Int} {j : Nat} {x : V} (h : (ns.map V.int)[j]? = some x) : ∃ n, ns[j]? = some n ∧ x = .int n := by
  rw [List.getElem?_map] at h
  cases e : ns[j]? with
  | none => rw [e] at h; cases h
  | some y => rw [e] at h; exact ⟨y, rfl, (Option.some.inj h).symm⟩
/-- whether these are values, one for each of the sizes -/
def valsB (vs : List V) (zs : List Int) : Bool := decide (vs.length = zs.length) && (vs.zip zs).all fun z => inI 0 (z.2 - 1) z.1
theorem valsB_ok {ns zs : List Int} (l : ns.length = zs.length) (h : ∀ (i : Nat) (n z : Int), ns[i]? = some n → zs[i]? = some z → 0 ≤ n ∧ n < z) : valsB (ns.map V.int) zs = true := by
  unfold valsB
  rw [List.length_map, decide_eq_true l, Bool.true_and, List.all_eq_true]
  intro z hz
  obtain ⟨i, hi⟩ := List.getElem?_of_mem hz
  obtain ⟨h1, h2⟩ := List.getElem?_zip_eq_some.mp hi
  obtain ⟨n, hn, e⟩ := int_at' h1
  obtain ⟨a, b⟩ := h i n z.2 hn h2
  rw [e]
  show (decide (0 ≤ n) && decide (n ≤ z.2 - 1)) = true
  rw [decide_eq_true a, decide_eq_true (by omega)]; rfl
def sp_arevals (K : PySem.W.Frag) : Sp := fun vs H Q _ => ∃ (v : V) (p : Addr) (zs : List Int), vs = [v, .ref p] ∧ H p = some (.lst (zs.map V.int)) ∧ zs.length ≤ 8 ∧
  ((∃ ty, TyX K H v ty ∧ PySem.W.kitOne K ty (.type "tuple") = some false ∧ Q (.bl false) H) ∨
   ∃ t ws, v = .ref t ∧ H t = some (.tup ws) ∧ (∀ x ∈ ws, (∃ i, x = .int i) ∨ NotI K H x) ∧ ∀ H', Same H H' → Q (.bl (valsB ws zs)) H')
theorem ok__are_values {P : Program} {w : World} {K : PySem.W.Frag} {mg : Str → Option Value} {base : Heap} (T : Txt P K mg) : FnOk P w K mg base CX0 3 T.f__are_values T.fd__are_values ["value", "sizes"] (sp_arevals K) := by
  refine T.F__are_values.ok sc__are_values (fun vs H Q E h => ?_) (fun cdv A outer s H vs Q E hr h => ?_)
  · obtain ⟨_, _, _, rfl, _⟩ := h; rfl
  · obtain ⟨v, p, zs, rfl, hp, z8, h⟩ := h
    refine ⟨_, PSs.nox (pss_cons (ps_if (PW.pt (pw_or (pt_not (pt_val (pe_callB (show CallR _ _ (rIsi K) from call_isi) (by rfl) T.n_isinstance (by decide +kernel) (pa_cons (pv 0) (pa_cons (pe_bltn (v := .ty "tuple") (by rfl) T.n_tuple (by decide +kernel) rfl) pa_nil))))) (pw_or1 (pt_cmpR op_ne (pe_callB (show CallR _ _ (rLenSeq K) from call_len_seq) (by rfl) T.n_len (by decide +kernel) (pa_cons (pv 0) pa_nil)) (pe_callB (show CallR _ _ (rLenSeq K) from call_len_seq) (by rfl) T.n_len (by decide +kernel) (pa_cons (pv 1) pa_nil)) (nomark _))))) (pss_one (ps_ret pe_bl)) pss_nil)
      (pss_one (ps_ret (pe_callB (show CallR _ _ (rAll K) from cr_all rfl) (by rfl) T.n_all (by decide +kernel) (pa_cons (pe_lc (own := [("item", 2), ("size", 3)]) (g := gTup K 2 (gCons (gName 2) (gCons (gName 3) gNil))) rfl sc__are_values.nd (pi_zipM (by rfl) T.n_zip (pa_cons (pv 0) (pa_cons (pv 1) pa_nil))) (blkOk_by (own := [("item", 2), ("size", 3)]) (N := N__are_values) (sc := defScope s__are_values) (by decide +kernel)) (fun _ _ _ _ _ => (pg_tup rfl (pgs_cons (pg_name (i := 2) sc__are_values.nd rfl (Or.inl rfl)) (pgs_cons (pg_name (i := 3) sc__are_values.nd rfl (Or.inl rfl)) pgs_nil)))) (fun _ _ _ _ _ => pts_nil) (fun _ _ _ _ _ => (pe_call (ok_is_integer T) (hr.mono (by decide)) (by rfl) T.g_is_integer T.F_is_integer.kp (b_is_integer T) .nil pass0 (pa_cons (pv 2) (pa_cons pe_int (pa_cons (pe_op op_sub (pv 3) pe_int) pa_nil)))))) pa_nil))))), ?_⟩
    rcases h with ⟨ty, hty, k, q⟩ | ⟨t, ws, rfl, ht, hw, q⟩
    · exact ⟨_, rfl, _, _, ty, _, _, rfl, .ty _, hty, k, _, rfl, q⟩
    · refine ⟨_, rfl, _, _, _, _, _, rfl, .ty _, .base (.tup ht), kit_tt, _, rfl, ?_⟩
      refine ⟨_, rfl, t, _, rfl, .inr (.inl (.inl ht)), _, rfl, p, _, rfl, .inl (SqL.of hp), rfl, _, rfl, ite2 (fun e => ?_) (fun e => ?_)⟩
      · have ne : ¬ ws.length = zs.length := fun z => by rw [List.length_map, z] at e; simp at e
        have en : valsB ws zs = false := by unfold valsB; rw [decide_eq_false ne, Bool.false_and]
        rw [en] at q
        exact q H (Same.refl H)
      · have el : ws.length = zs.length := by
          rw [List.length_map] at e
          simp at e
          omega
        refine ⟨_, rfl, _, rfl, t, p, _, _, rfl, .inl (.inl ht), SqL.of hp, fun D nD => ?_⟩
        have mn : min ws.length (zs.map V.int).length = zs.length := by rw [List.length_map, el, Nat.min_self]
        refine lc_it walk_zipM (fun i H' => H' D = some (.lst ((((ws.zip zs).take i).map fun z => inI 0 (z.2 - 1) z.1).map V.bl)) ∧ Same H H') ⟨upd_same, Same.new nD⟩ (fun i H' _ p' => ⟨.inl (.inl (p'.2 _ _ ht)), SqL.of (p'.2 _ _ hp)⟩) ?_ ?_
        · rintro i x H2 H3 hi ⟨p1, p2⟩ ⟨T', x1, x2, rfl, nT, rfl, e1, e2⟩
          obtain ⟨z, hz, rfl⟩ := int_at' e2
          have mx := hw x1 (List.mem_of_getElem? e1)
          have li : i < (ws.zip zs).length := by rw [List.length_zip]; rw [List.length_map] at hi; exact hi
          have ez : (ws.zip zs)[i] = (x1, z) := by
            have := List.getElem?_zip_eq_some.mpr ⟨(show ws[i]? = some (x1, z).1 from e1), (show zs[i]? = some (x1, z).2 from hz)⟩
            exact (List.getElem?_eq_some_iff.mp this).2
          have hDT : upd H2 T' (.tup [x1, .int z]) D = some (.lst ((((ws.zip zs).take i).map fun z => inI 0 (z.2 - 1) z.1).map V.bl)) := by rw [upd_ne (ne_of_none p1 nT)]; exact p1
          have s3 := p2.trans (Same.new (o := .tup [x1, .int z]) nT)
          refine ⟨T', _, rfl, .inl (.inl upd_same), rfl, _, _, rfl, _, _, rfl, rfl, rfl, ?_⟩
          refine ⟨_, rfl, _, rfl, _, _, rfl, rfl, x1, 0, z - 1, rfl, mx.imp id fun h => h.same s3, ?_⟩
          refine ⟨_, hDT, by rw [List.length_map, List.length_map, List.length_take, sizeLine_eq]; omega, ?_, Same.upd_p s3 nD⟩
          rw [upd_same, take_snoc li, ez, List.map_append, List.map_append]; rfl
        · rintro H2 ⟨p1, p2⟩
          have lz : (ws.zip zs).length = min ws.length (zs.map V.int).length := by rw [List.length_zip, List.length_map]
          rw [← lz, List.take_length] at p1
          refine ⟨D, (ws.zip zs).map (fun z => inI 0 (z.2 - 1) z.1), rfl, SqL.of p1, ?_⟩
          have en : ((ws.zip zs).map fun z => inI 0 (z.2 - 1) z.1).all id = valsB ws zs := by
            unfold valsB; rw [decide_eq_true el, Bool.true_and, List.all_map]; rfl
          rw [en]
          exact q H2 p2

end K13
namespace K13
open PySem PySem.Spec PyProof.Rows L2 TL
theorem sizes_zs {L : List (Str × Int)} (ok : VarsOk L) {sc : List Str} (h : ∀ x ∈ sc, x ∈ L.map (·.1)) : ∀ x ∈ sc, valV (kvL L) (Sum.inr x) = some (.int (sizeOf L x)) := fun x hx => (sizes_val ok (h x hx)).1
def sp_arebad (K : PySem.W.Frag) : Sp := fun vs H Q _ => ∃ (a p : Addr) (ys : List V) (bad : List (List Int)) (G : Addr → Prop) (zs : List Int), vs = [.ref a, .ref p] ∧ Sq K H a ys ∧ Paired (isTupI H G) ys bad ∧ H p = some (.lst (zs.map V.int)) ∧ zs.length ≤ 8 ∧ bad.length ≤ 12 ∧ bad.Nodup ∧ (∀ ns ∈ bad, ns.length = zs.length) ∧
  (∀ ns ∈ bad, ∀ (i : Nat) (n z : Int), ns[i]? = some n → zs[i]? = some z → 0 ≤ n ∧ n < z) ∧ ∀ H', Same H H' → Q (.bl true) H'
theorem pd_take {α β : Type} {F : α → β → Prop} : ∀ {l₁ : List α} {l₂ : List β} (i : Nat), Paired F l₁ l₂ → Paired F (l₁.take i) (l₂.take i)
  | _, _, 0, _ => by simp only [List.take_zero]; exact .nil
  | _, _, _ + 1, .nil => .nil
  | _, _, i + 1, .cons r t => .cons r (pd_take i t)
theorem ok__are_bad_tuples {P : Program} {w : World} {K : PySem.W.Frag} {mg : Str → Option Value} {base : Heap} (T : Txt P K mg) : FnOk P w K mg base CX0 4 T.f__are_bad_tuples T.fd__are_bad_tuples ["bad_tuples", "sizes"] (sp_arebad K) := by
  refine T.F__are_bad_tuples.ok sc__are_bad_tuples (fun vs H Q E h => ?_) (fun cdv A outer s H vs Q E hr h => ?_)
  · obtain ⟨_, _, _, _, _, _, rfl, _⟩ := h; rfl
  · obtain ⟨a, p, ys, bad, G, zs, rfl, hS, pd, hp, z8, b12, nd, bl, bv, q⟩ := h
    have lys := pd.length
    refine ⟨_, PSs.nox (pss_cons (ps_set (i := 2) sc__are_bad_tuples.nd rfl (Or.inl rfl) (pe_lst pa_nil))
      (pss_cons (ps_for PassesOwn.never rfl (pi_or (pi_list (pv 0)) (pi_tup (pv 0))) (pg_name (i := 3) sc__are_bad_tuples.nd rfl (Or.inl rfl)) (pss_cons (ps_if (PW.pt (pw_or (pt_not (pt_val (pe_call (ok__are_values T) (hr.mono (by decide)) (by rfl) T.g__are_values T.F__are_values.kp (b__are_values T) .nil pass0 (pa_cons (pv 3) (pa_cons (pv 1) pa_nil))))) (pw_or1 (pt_cmpR (show OpR _ (compareOp .In) (rInD K) from op_inD (hu65 hr)) (pv 3) (pv 2) (by first | rfl | with_unfolding_all rfl))))) (pss_one (ps_ret pe_bl)) pss_nil)
      (pss_one (ps_expr (pe_bm PySem.F.plainAttrs_list PySem.F.slot_list_append PySem.F.type_list_append mt_append (pv 2) (pa_cons (pv 3) pa_nil))))))
      (pss_one (ps_ret pe_bl)))), ?_⟩
    refine ⟨Nat.zero_le _, fun l nl => ?_⟩
    refine or_walkA (fun R' h => ⟨_, rfl, h⟩) hS.sq (fun o e => Same.new nl a o e) fun J G1 w g => for_it w (fun i σ H' => ∃ x3, σ = [some (.ref a), some (.ref p), some (.ref l), x3] ∧ Same H H' ∧ H' l = some (.lst (ys.take i))) ?_ ?_ ?_ ?_
    · exact ⟨_, rfl, Same.new nl, upd_same⟩
    · rintro i σ H' _ ⟨x3, rfl, s1, hl⟩
      exact g H' (s1 a)
    · rintro i x σ Hx H' hi ⟨x3, rfl, s1, hl⟩ ⟨rfl, hx⟩
      obtain ⟨ns, hn, hT⟩ := pd_get pd hx
      obtain ⟨li, ens⟩ := List.getElem?_eq_some_iff.mp hn
      have hT' := hT
      obtain ⟨t, rfl, _, ht⟩ := hT'
      have mm := List.mem_of_getElem? hn
      refine ⟨_, rfl, _, rfl, .ref t, p, zs, rfl, s1 _ _ hp, z8, .inr ⟨t, _, rfl, s1 _ _ ht, fun x hx => (by obtain ⟨i, _, rfl⟩ := List.mem_map.mp hx; exact .inl ⟨i, rfl⟩), fun H2 s2 => ?_⟩⟩
      rw [valsB_ok (bl ns mm) (bv ns mm)]
      have s12 := s1.trans s2
      refine ⟨_, rfl, ?_⟩
      refine ⟨_, rfl, _, rfl, tupD ns, (bad.take i).map tupD, dp_tup (hT.same s12), .lst (SqL.of (s2 _ _ hl)) (dp_all (fun _ _ z => dp_tup z) (pd_take i (Paired.mono (fun _ _ z => isTupI.same z s12) pd))), (shd_tup ns).shaped (by decide), (shd_tups _).shaped (by decide), _, rfl, ?_⟩
      rw [any_tups, decide_eq_false (by rw [← ens]; exact not_mem_take nd li)]
      refine iteF ⟨_, rfl, .inl ⟨rfl, _, SqL.of (s2 _ _ hl)⟩, _, rfl, l, _, _, rfl, rfl, s2 _ _ hl, by rw [List.length_take, sizeLine_eq]; omega, ?_⟩
      obtain ⟨lj, ex⟩ := List.getElem?_eq_some_iff.mp hx
      exact ⟨_, rfl, Same.upd_p s12 nl, by rw [upd_same, take_snoc lj, ex]⟩
    · rintro σ H' ⟨x3, rfl, s1, hl⟩
      exact q H' s1
def sp_erow (K : PySem.W.Frag) : Sp := fun vs H Q _ => ∃ (t a b : Addr) (x : Str) (xs ys : List V), vs = [.ref t] ∧ H t = some (.tup [.str x, .ref a, .ref b]) ∧ NameOk x ∧ Sq K H a xs ∧ Sq K H b ys ∧ 1 ≤ xs.length ∧ xs.length ≤ 4 ∧ ys.length ≤ 12 ∧ ∀ H', Same H H' → Q (.bl true) H'
theorem ok__is_event_row {P : Program} {w : World} {K : PySem.W.Frag} {mg : Str → Option Value} {base : Heap} (T : Txt P K mg) : FnOk P w K mg base CX0 2 T.f__is_event_row T.fd__is_event_row ["row"] (sp_erow K) := by
  refine T.F__is_event_row.ok sc__is_event_row (fun vs H Q E h => ?_) (fun cdv A outer s H vs Q E hr h => ?_)
  · obtain ⟨_, _, _, _, _, _, rfl, _⟩ := h; rfl
  · obtain ⟨t, a, b, x, xs, ys, rfl, ht, hn, ha, hb, x1, x4, y12, q⟩ := h
    refine ⟨_, PSs.nox (pss_cons (ps_if (PW.pt (pw_or (pt_not (pt_val (pe_callB (show CallR _ _ (rIsi K) from call_isi) (by rfl) T.n_isinstance (by decide +kernel) (pa_cons (pv 0) (pa_cons (pe_bltn (v := .ty "tuple") (by rfl) T.n_tuple (by decide +kernel) rfl) pa_nil))))) (pw_or1 (pt_cmpR op_ne (pe_callB (show CallR _ _ (rLenSeq K) from call_len_seq) (by rfl) T.n_len (by decide +kernel) (pa_cons (pv 0) pa_nil)) pe_int (nomark _))))) (pss_one (ps_ret pe_bl)) pss_nil)
      (pss_one (ps_ret (pe_and (pe_call (ok_is_name T) (hr.mono (by decide)) (by rfl) T.g_is_name T.F_is_name.kp (b_is_name T) .nil pass0 (pa_cons (pe_ix (show IxR _ (rIxT K) from ix_tup) (pv 0) pe_int (fun _ _ => rfl)) pa_nil)) (pe_and (pe_call (ok_is_list T) (hr.mono (by decide)) (by rfl) T.g_is_list T.F_is_list.kp (b_is_list T) .nil pass0 (pa_cons (pe_ix (show IxR _ (rIxT K) from ix_tup) (pv 0) pe_int (fun _ _ => rfl)) (pa_cons pe_int (pa_cons pe_int pa_nil)))) (pe_one (pe_call (ok_is_list T) (hr.mono (by decide)) (by rfl) T.g_is_list T.F_is_list.kp (b_is_list T) .nil pass0 (pa_cons (pe_ix (show IxR _ (rIxT K) from ix_tup) (pv 0) pe_int (fun _ _ => rfl)) (pa_cons pe_int (pa_cons pe_int pa_nil)))))))))), ?_⟩
    refine ⟨_, rfl, _, _, _, _, _, rfl, .ty _, .base (.tup ht), kit_tt, _, rfl, ?_⟩
    refine ⟨_, rfl, t, _, rfl, .inr (.inl (.inl ht)), rfl, _, rfl, ?_⟩
    refine ⟨_, rfl, t, _, (0 : Int), _, rfl, rfl, .inl (.inl ht), rfl, x, rfl, hn, fun H1 s1 => ?_⟩
    refine ⟨_, rfl, ?_⟩
    refine ⟨_, rfl, t, _, (1 : Int), _, rfl, rfl, .inl (.inl (s1 _ _ ht)), rfl, a, xs, 1, 4, rfl, ha.same s1, by omega, by omega, fun H2 s2 => ?_⟩
    have s12 := s1.trans s2
    refine ⟨_, rfl, ?_⟩
    exact ⟨_, rfl, t, _, (2 : Int), _, rfl, rfl, .inl (.inl (s12 _ _ ht)), rfl, b, ys, 0, 12, rfl, hb.same s12, by omega, by omega, fun H3 s3 => q H3 (s12.trans s3)⟩
def sp_evs (K : PySem.W.Frag) : Sp := fun vs H Q _ => ∃ (a d : Addr) (xs : List V) (F G : Addr → Prop) (L : List (Str × Int)) (R : List Row), vs = [.ref a, .ref d] ∧ Sq K H a xs ∧ Paired (isRow H F G) xs R ∧ H d = some (.dK (kvL L)) ∧ VarsOk L ∧ EvsOk L R ∧ ∀ H', Same H H' → Q .non H'
theorem ok__check_events {P : Program} {w : World} {K : PySem.W.Frag} {mg : Str → Option Value} {base : Heap} (T : Txt P K mg) : FnOk P w K mg base CX0 5 T.f__check_events T.fd__check_events ["events", "sizes"] (sp_evs K) := by
  refine T.F__check_events.ok sc__check_events (fun vs H Q E h => ?_) (fun cdv A outer s H vs Q E hr h => ?_)
  · obtain ⟨_, _, _, _, _, _, _, rfl, _⟩ := h; rfl
  · obtain ⟨a, d, xs, F, G, L, R, rfl, hS, pd, hd, okL, okR, q⟩ := h
    have lxs := pd.length
    have r8 := okR.few
    refine ⟨_, PSs.nox (pss_cons (ps_if (PW.pt (pw_or (pt_not (pt_val (pe_call (ok_is_list T) (hr.mono (by decide)) (by rfl) T.g_is_list T.F_is_list.kp (b_is_list T) .nil pass0 (pa_cons (pv 0) (pa_cons pe_int (pa_cons (pe_glob (v := .int 8) (by rfl) T.c_MOST_EVENTS.choose_spec ⟨_, rfl⟩) pa_nil)))))) (pw_or1 (pt_not (pt_val (pe_callB (show CallR _ _ (rAll K) from cr_all rfl) (by rfl) T.n_all (by decide +kernel) (pa_cons (pe_lc (own := [("row", 6)]) (g := gName 6) rfl sc__check_events.nd (pi_or (pi_list (pv 0)) (pi_tup (pv 0))) (blkOk_by (own := [("row", 6)]) (N := N__check_events) (sc := defScope s__check_events) (by decide +kernel)) (fun _ _ _ _ _ => (pg_name (i := 6) sc__check_events.nd rfl (Or.inl rfl))) (fun _ _ _ _ _ => pts_nil) (fun _ _ _ _ _ => (pe_call (ok__is_event_row T) (hr.mono (by decide)) (by rfl) T.g__is_event_row T.F__is_event_row.kp (b__is_event_row T) .nil pass0 (pa_cons (pv 6) pa_nil)))) pa_nil))))))) (pss_one ps_never) pss_nil)
      (pss_cons (ps_set (i := 2) sc__check_events.nd rfl (Or.inl rfl) (pe_lst pa_nil))
      (pss_one (ps_for PassesOwn.never rfl (pi_or (pi_list (pv 0)) (pi_tup (pv 0))) (pg_tup rfl (pgs_cons (pg_name (i := 3) sc__check_events.nd rfl (Or.inl rfl)) (pgs_cons (pg_name (i := 4) sc__check_events.nd rfl (Or.inl rfl)) (pgs_cons (pg_name (i := 5) sc__check_events.nd rfl (Or.inl rfl)) pgs_nil)))) (pss_cons (ps_if (pt_cmpR (show OpR _ (compareOp .In) (rIn K false) from op_in_seq) (pv 3) (pv 2) (by first | rfl | with_unfolding_all rfl)) (pss_one ps_never) pss_nil)
      (pss_cons (ps_expr (pe_bm PySem.F.plainAttrs_list PySem.F.slot_list_append PySem.F.type_list_append mt_append (pv 2) (pa_cons (pv 3) pa_nil)))
      (pss_cons (ps_expr (pe_call (ok__check_scope T) (hr.mono (by decide)) (by rfl) T.g__check_scope T.F__check_scope.kp (b__check_scope T) .nil pass0 (pa_cons (pv 4) (pa_cons (pv 1) pa_nil))))
      (pss_one (ps_if (pt_not (pt_val (pe_call (ok__are_bad_tuples T) (hr.mono (by decide)) (by rfl) T.g__are_bad_tuples T.F__are_bad_tuples.kp (b__are_bad_tuples T) .nil pass0 (pa_cons (pv 5) (pa_cons (pe_lc (own := [("variable", 7)]) (g := gName 7) rfl sc__check_events.nd (pi_or (pi_list (pv 4)) (pi_tup (pv 4))) (blkOk_by (own := [("variable", 7)]) (N := N__check_events) (sc := defScope s__check_events) (by decide +kernel)) (fun _ _ _ _ _ => (pg_name (i := 7) sc__check_events.nd rfl (Or.inl rfl))) (fun _ _ _ _ _ => pts_nil) (fun _ _ _ _ _ => (pe_dget (hu_of hr) (pv 1) (pv 7) (fun _ _ => rfl)))) pa_nil))))) (pss_one ps_never) pss_nil))))))))), ?_⟩
    refine ⟨_, rfl, a, xs, 0, 8, rfl, hS, by omega, by omega, fun H1 s1 => ?_⟩
    refine ⟨_, rfl, ?_⟩
    refine or_walkA (fun R' h => ⟨_, rfl, h⟩) hS.sq (s1 a) fun J G1 w g D nD => ?_
    refine lc_it w (fun i H' => H' D = some (.lst (List.replicate i (.bl true))) ∧ Same H1 H') ⟨upd_same, Same.new nD⟩ (fun i H' _ p => g H' fun o e => p.2 a o (s1 a o e)) ?_ ?_
    · rintro i x H2 H3 hi ⟨p1, p2⟩ ⟨rfl, hx⟩
      obtain ⟨r, hr', t, ta, tb, ys, rfl, _, ht, la, lb, pb⟩ := pd_get pd hx
      have rok := okR.ok r (List.mem_of_getElem? hr')
      have s13 := s1.trans p2
      have k1 := rok.pos
      have k2 := rok.few
      have k3 := rok.bfew
      have k4 := pb.length
      refine ⟨rfl, _, rfl, t, ta, tb, r.1, _, ys, rfl, s13 _ _ ht, rok.nm, la.s.same s13, lb.s.same s13, by rw [List.length_map]; omega, by rw [List.length_map]; omega, by omega, fun H4 s4 => ?_⟩
      exact ⟨_, s4 _ _ p1, by rw [List.length_replicate, sizeLine_eq]; omega, by rw [upd_same, List.replicate_succ'], Same.upd_p (p2.trans s4) nD⟩
    · rintro H2 ⟨p1, p2⟩
      refine ⟨D, List.replicate xs.length true, rfl, SqL.of (by rw [p1, List.map_replicate]), ?_⟩
      have e : (List.replicate xs.length true).all id = true := by simp
      rw [e]
      refine ⟨_, rfl, ?_⟩
      have s2 := s1.trans p2
      refine ⟨Nat.zero_le _, fun l nl => ?_⟩
      have nlH : H l = none := by
        cases e : H l with
        | none => rfl
        | some o => rw [s2 _ _ e] at nl; cases nl
      refine or_walkA (fun R' h => ⟨_, rfl, h⟩) hS.sq (fun o e => (s2.trans (Same.new nl)) a o e) fun J G2 w g2 => for_it w (fun i σ H' => ∃ x3 x4 x5, σ = [some (.ref a), some (.ref d), some (.ref l), x3, x4, x5, none, none] ∧ Same H H' ∧ H' l = some (.lst ((R.take i).map fun r => V.str r.1))) ?_ ?_ ?_ ?_
      · exact ⟨_, _, _, rfl, s2.trans (Same.new nl), upd_same⟩
      · rintro i σ H' _ ⟨x3, x4, x5, rfl, s3, hl⟩
        exact g2 H' (s3 a)
      · rintro i x σ Hx H' hi ⟨x3, x4, x5, rfl, s3, hl⟩ ⟨rfl, hx⟩
        obtain ⟨r, hr', t, ta, tb, ys, rfl, _, ht, la, lb, pb⟩ := pd_get pd hx
        obtain ⟨li, er⟩ := List.getElem?_eq_some_iff.mp hr'
        have rok := okR.ok r (List.mem_of_getElem? hr')
        have nin : r.1 ∉ (R.map (·.1)).take i := by
          have := not_mem_take okR.nd (i := i) (by rw [List.length_map]; exact li)
          rw [List.getElem_map, er] at this
          exact this
        have hl2 : H' l = some (.lst (((R.map (·.1)).take i).map V.str)) := by rw [hl, ← List.map_take, List.map_map]; rfl
        have k2 := rok.few
        refine ⟨t, _, rfl, .inl (.inl (s3 _ _ ht)), rfl, _, _, rfl, _, _, rfl, _, _, rfl, rfl, ?_⟩
        refine ⟨_, rfl, _, rfl, l, _, rfl, .inl (SqL.of hl2), rfl, flat_str _, _, rfl, ?_⟩
        rw [inV_str, decide_eq_false nin]
        refine iteF ⟨_, rfl, .inl ⟨rfl, _, SqL.of hl2⟩, _, rfl, l, _, _, rfl, rfl, hl2, by rw [List.length_map, List.length_take, sizeLine_eq]; omega, ?_⟩
        have s4 := Same.upd_p (o := .lst (((R.map (·.1)).take i).map V.str ++ [V.str r.1])) s3 nlH
        have hl4 : upd H' l (.lst (((R.map (·.1)).take i).map V.str ++ [V.str r.1])) l = some (.lst ((R.take (i + 1)).map fun r => V.str r.1)) := by
          rw [upd_same, take_snoc li, List.map_append, ← List.map_take, List.map_map, er]; rfl
        generalize upd H' l (.lst (((R.map (·.1)).take i).map V.str ++ [V.str r.1])) = H4 at s4 hl4
        have hv := sizes_zs okL rok.sub
        refine ⟨_, rfl, _, rfl, ta, d, r.2.1, _, rfl, (la.s.same s4).sq, s4 _ _ hd, fun x hx => ⟨_, hv x hx⟩, rok.nd, by omega, fun H5 s5 => ?_⟩
        have s45 := s4.trans s5
        refine ⟨_, rfl, ?_⟩
        refine or_walkA (fun R' h => ⟨_, rfl, h⟩) la.s.sq (s45 ta) fun J3 G3 w3 g3 D3 nD3 => ?_
        refine lc_it w3 (fun i H' => H' D3 = some (.lst (((r.2.1.take i).map (sizeOf L)).map V.int)) ∧ Same H5 H') ⟨upd_same, Same.new nD3⟩ (fun i H' _ p => g3 H' fun o e => p.2 ta o (s45 ta o e)) ?_ ?_
        · rintro j y H6 H7 hj ⟨p1, p2⟩ ⟨rfl, hy⟩
          obtain ⟨lj, rfl⟩ := str_at' hy
          have hvj := hv _ (List.getElem_mem lj)
          have dg : DGet H7 d (.str r.2.1[j]) (some (.int (sizeOf L r.2.1[j]))) := by rw [← hvj]; exact DGet.k (k := Sum.inr r.2.1[j]) (p2 _ _ (s45 _ _ hd))
          refine ⟨rfl, _, rfl, _, rfl, d, _, rfl, dg, _, p1, by rw [List.length_map, List.length_map, List.length_take, sizeLine_eq]; omega, ?_, Same.upd_p p2 nD3⟩
          rw [upd_same, take_snoc lj, List.map_append, List.map_append]; rfl
        · rintro H6 ⟨p1, p2⟩
          rw [List.length_map, List.take_length] at p1
          have s6 := s45.trans p2
          refine ⟨tb, D3, ys, r.2.2, G, r.2.1.map (sizeOf L), rfl, lb.s.same s6, Paired.mono (fun _ _ z => isTupI.same z s6) pb, p1, by rw [List.length_map]; omega, rok.bfew, rok.bnd, fun ns hns => by rw [List.length_map]; exact rok.bl ns hns, fun ns hns k n z h1 h2 => ?_, fun H7 s7 => ?_⟩
          · rw [List.getElem?_map] at h2
            cases e : r.2.1[k]? with
            | none => rw [e] at h2; cases h2
            | some x => rw [e] at h2; cases h2; exact rok.bv ns hns k x n e h1
          · exact ⟨_, rfl, _, _, _, rfl, s6.trans s7, s7 _ _ (p2 _ _ (s5 _ _ hl4))⟩
      · rintro σ H' ⟨x3, x4, x5, rfl, s3, hl⟩
        exact q H' s3

end K13
namespace K13
open PySem PySem.Spec PyProof.Rows L2 TL
/-! ### making a problem -/
def sp_pinit (K : PySem.W.Frag) (C : Addr) : Sp := fun vs H Q _ => ∃ (H0 : Hp) (p dx a e : Addr) (xs ys : List V) (L : List (Str × Int)) (R : List Row), vs = [.ref p, .ref a, .ref e] ∧ H p = some (.ins C dx []) ∧ H0 p = none ∧ Same H0 H ∧
  Sq K H0 a xs ∧ Paired (isPair H0 (Old H0)) xs L ∧ VarsOk L ∧ Sq K H0 e ys ∧ Paired (isRow H0 (Old H0) (Old H0)) ys R ∧ EvsOk L R ∧ ∀ H', Same H0 H' → IsP C H' (New H0) (Old H0) p L R → Q .non H'
theorem same_p {H0 H : Hp} {p : Addr} {o : HO} (s : Same H0 H) (n : H0 p = none) : Same H0 (upd H p o) := Same.upd_p s n
theorem ent_keys {H : Hp} {F G : Addr → Prop} : ∀ {E : List Ent} {R : List Row}, Paired (isEnt H F G) E R → E.map (·.1) = R.map (·.1)
  | _, _, .nil => rfl
  | _, _, .cons r t => by rw [List.map_cons, List.map_cons, r.1, ent_keys t]
theorem putK_len' (c : List (Key × V)) (k : Key) (x : V) : (putK c k x).length ≤ c.length + 1 := by
  unfold putK
  split
  · rw [List.length_map]; omega
  · rw [List.length_append]; exact Nat.le_refl _
theorem ok_Problem_init {P : Program} {w : World} {K : PySem.W.Frag} {mg : Str → Option Value} {base : Heap} (T : Txt P K mg) : FnOk P w K mg base CX0 6 T.f_Problem_init T.fd_Problem_init ["self", "variables", "events"] (sp_pinit K T.C_Problem) := by
  refine T.F_Problem_init.ok sc_Problem_init (fun vs H Q E h => ?_) (fun cdv A outer s H vs Q E hr h => ?_)
  · obtain ⟨_, _, _, _, _, _, _, _, _, rfl, _⟩ := h; rfl
  · obtain ⟨H0, p, dx, a, e, xs, ys, L, R, rfl, hp, n0, s0, hA, pdL, okL, hE, pdR, okR, q⟩ := h
    have lxs := pdL.length
    have lys := pdR.length
    have l8 := okL.few
    have r8 := okR.few
    refine ⟨_, PSs.nox (pss_cons (ps_expr (pe_call (ok__check_variables T) (hr.mono (by decide)) (by rfl) T.g__check_variables T.F__check_variables.kp (b__check_variables T) .nil pass0 (pa_cons (pv 1) pa_nil)))
      (pss_cons (ps_fld (pv 0) (pe_callTy (show CallR _ _ (rListOf K) from call_list_of) (by rfl) T.n_list (by decide +kernel) (pa_cons (pv 1) pa_nil)) rfl)
      (pss_cons (ps_fld (pv 0) (pe_dc (own := [("name", 3), ("size", 4)]) (g := gTup K 2 (gCons (gName 3) (gCons (gName 4) gNil))) rfl sc_Problem_init.nd (pi_or (pi_list (pv 1)) (pi_tup (pv 1))) (blkOk_by (own := [("name", 3), ("size", 4)]) (N := N_Problem_init) (sc := defScope s_Problem_init) (by decide +kernel)) (fun _ _ _ _ _ => (pg_tup rfl (pgs_cons (pg_name (i := 3) sc_Problem_init.nd rfl (Or.inl rfl)) (pgs_cons (pg_name (i := 4) sc_Problem_init.nd rfl (Or.inl rfl)) pgs_nil)))) (fun _ _ _ _ _ => pts_nil) (fun _ _ _ _ _ => (pv 3)) (fun _ _ _ _ _ => (pv 4))) rfl)
      (pss_cons (ps_fld (pv 0) (pe_lock (pe_dc (own := [("place", 5), ("name", 3)]) (g := gTup K 2 (gCons (gName 5) (gCons (gName 3) gNil))) rfl sc_Problem_init.nd (pi_enumD (by rfl) T.n_enumerate (pa_cons (show PE _ _ (tFld K _ _) from pe_fld (pv 0) rfl) pa_nil)) (blkOk_by (own := [("place", 5), ("name", 3)]) (N := N_Problem_init) (sc := defScope s_Problem_init) (by decide +kernel)) (fun _ _ _ _ _ => (pg_tup rfl (pgs_cons (pg_name (i := 5) sc_Problem_init.nd rfl (Or.inl rfl)) (pgs_cons (pg_name (i := 3) sc_Problem_init.nd rfl (Or.inl rfl)) pgs_nil)))) (fun _ _ _ _ _ => pts_nil) (fun _ _ _ _ _ => (pv 3)) (fun _ _ _ _ _ => (pv 5)))) rfl)
      (pss_cons (ps_expr (pe_call (ok__check_events T) (hr.mono (by decide)) (by rfl) T.g__check_events T.F__check_events.kp (b__check_events T) .nil pass0 (pa_cons (pv 2) (pa_cons (show PE _ _ (tFld K _ _) from pe_fld (pv 0) rfl) pa_nil))))
      (pss_cons (ps_fld (pv 0) (pe_lc (own := [("name", 3), ("scope", 6), ("bad_tuples", 7)]) (g := gTup K 3 (gCons (gName 3) (gCons (gName 6) (gCons (gName 7) gNil)))) rfl sc_Problem_init.nd (pi_or (pi_list (pv 2)) (pi_tup (pv 2))) (blkOk_by (own := [("name", 3), ("scope", 6), ("bad_tuples", 7)]) (N := N_Problem_init) (sc := defScope s_Problem_init) (by decide +kernel)) (fun _ _ _ _ _ => (pg_tup rfl (pgs_cons (pg_name (i := 3) sc_Problem_init.nd rfl (Or.inl rfl)) (pgs_cons (pg_name (i := 6) sc_Problem_init.nd rfl (Or.inl rfl)) (pgs_cons (pg_name (i := 7) sc_Problem_init.nd rfl (Or.inl rfl)) pgs_nil))))) (fun _ _ _ _ _ => pts_nil) (fun _ _ _ _ _ => (pe_tup (pa_cons (pv 3) (pa_cons (pe_callTy (show CallR _ _ (rListOf K) from call_list_of) (by rfl) T.n_list (by decide +kernel) (pa_cons (pv 6) pa_nil)) (pa_cons (pe_callB (show CallR _ _ (rSortTT K) from cr_sortTT) (by rfl) T.n_sorted (by decide +kernel) (pa_cons (pv 7) pa_nil)) pa_nil)))))) rfl)
      (pss_cons (ps_fld (pv 0) (pe_dc (own := [("name", 3), ("scope", 6), ("_", 8)]) (g := gTup K 3 (gCons (gName 3) (gCons (gName 6) (gCons (gName 8) gNil)))) rfl sc_Problem_init.nd (pi_list (show PE _ _ (tFld K _ _) from pe_fld (pv 0) rfl)) (blkOk_by (own := [("name", 3), ("scope", 6), ("_", 8)]) (N := N_Problem_init) (sc := defScope s_Problem_init) (by decide +kernel)) (fun _ _ _ _ _ => (pg_tup rfl (pgs_cons (pg_name (i := 3) sc_Problem_init.nd rfl (Or.inl rfl)) (pgs_cons (pg_name (i := 6) sc_Problem_init.nd rfl (Or.inl rfl)) (pgs_cons (pg_name (i := 8) sc_Problem_init.nd rfl (Or.inl rfl)) pgs_nil))))) (fun _ _ _ _ _ => pts_nil) (fun _ _ _ _ _ => (pv 3)) (fun _ _ _ _ _ => (pv 6))) rfl)
      (pss_cons (ps_fld (pv 0) (pe_dc (own := [("name", 3), ("_", 8), ("bad_tuples", 7)]) (g := gTup K 3 (gCons (gName 3) (gCons (gName 8) (gCons (gName 7) gNil)))) rfl sc_Problem_init.nd (pi_list (show PE _ _ (tFld K _ _) from pe_fld (pv 0) rfl)) (blkOk_by (own := [("name", 3), ("_", 8), ("bad_tuples", 7)]) (N := N_Problem_init) (sc := defScope s_Problem_init) (by decide +kernel)) (fun _ _ _ _ _ => (pg_tup rfl (pgs_cons (pg_name (i := 3) sc_Problem_init.nd rfl (Or.inl rfl)) (pgs_cons (pg_name (i := 8) sc_Problem_init.nd rfl (Or.inl rfl)) (pgs_cons (pg_name (i := 7) sc_Problem_init.nd rfl (Or.inl rfl)) pgs_nil))))) (fun _ _ _ _ _ => pts_nil) (fun _ _ _ _ _ => (pv 3)) (fun _ _ _ _ _ => (pv 7))) rfl)
      (pss_one (ps_fld (pv 0) (pe_lock (pe_dc (own := [("name", 3)]) (g := gName 3) rfl sc_Problem_init.nd (pi_keys (show PE _ _ (tFld K _ _) from pe_fld (pv 0) rfl)) (blkOk_by (own := [("name", 3)]) (N := N_Problem_init) (sc := defScope s_Problem_init) (by decide +kernel)) (fun _ _ _ _ _ => (pg_name (i := 3) sc_Problem_init.nd rfl (Or.inl rfl))) (fun _ _ _ _ _ => pts_nil) (fun _ _ _ _ _ => (pv 3)) (fun _ _ _ _ _ => (pe_call (ok__neighbors_of T) (hr.mono (by decide)) (by rfl) T.g__neighbors_of T.F__neighbors_of.kp (b__neighbors_of T) .nil pass0 (pa_cons (pv 3) (pa_cons (show PE _ _ (tFld K _ _) from pe_fld (pv 0) rfl) pa_nil)))))) rfl)))))))))), ?_⟩
    -- the check of the variables
    refine ⟨_, rfl, a, xs, Old H0, L, rfl, hA.same s0, Paired.mono (fun _ _ z => z.same s0) pdL, okL, fun H1 s1 => ?_⟩
    have hp1 := s1 _ _ hp
    replace s1 := s0.trans s1
    clear hp s0
    -- self._variables
    refine ⟨_, rfl, a, xs, rfl, (hA.same s1).sq, fun av nav => ?_⟩
    have nvp : av ≠ p := (ne_of_none hp1 nav).symm
    refine ⟨_, rfl, p, _, dx, _, rfl, Same.new nav _ _ hp1, T.cl_Problem, T.na_Problem__variables, (by decide), ?_⟩
    have s2 := same_p (o := .ins T.C_Problem dx (putF "_variables" (.ref av) [])) (s1.trans (Same.new (o := .lst xs) nav)) n0
    have hp2 : upd (upd H1 av (.lst xs)) p (.ins T.C_Problem dx (putF "_variables" (.ref av) [])) p = some (.ins T.C_Problem dx (putF "_variables" (.ref av) [])) := upd_same
    have hav2 : upd (upd H1 av (.lst xs)) p (.ins T.C_Problem dx (putF "_variables" (.ref av) [])) av = some (.lst xs) := by rw [upd_ne nvp, upd_same]
    have nav0 := Same.none s1 nav
    generalize upd (upd H1 av (.lst xs)) p (.ins T.C_Problem dx (putF "_variables" (.ref av) [])) = H2 at s2 hp2 hav2
    clear s1 hp1 nav
    -- self._sizes
    refine or_walkA (fun R' h => ⟨_, rfl, h⟩) hA.sq (s2 a) fun J G1 w g ds nds => ?_
    refine dc_it w (fun i H' => H' ds = some (.dK (kvL (L.take i))) ∧ Same H2 H') ⟨upd_same, Same.new nds⟩ (fun i H' _ h => g H' fun o e => h.2 a o (s2 a o e)) ?_ ?_
    · rintro i x H3 H4 hi ⟨h1, h2⟩ ⟨rfl, hx⟩
      obtain ⟨y, hy, t, rfl, _, ht⟩ := pd_get pdL hx
      obtain ⟨li, ey⟩ := List.getElem?_eq_some_iff.mp hy
      have ht4 := h2 _ _ (s2 _ _ ht)
      refine ⟨t, _, rfl, .inl (.inl ht4), rfl, _, _, rfl, _, _, rfl, rfl, rfl, _, rfl, _, rfl, _, Sum.inr y.1, rfl, h1, by have := kvL_take_len L i; rw [sizeLine_eq]; omega, ?_, Same.upd_p h2 nds⟩
      rw [upd_same, ← ey, kvL_put okL.nd li]
    rintro H3 ⟨hds, s3⟩
    rw [lxs, List.take_length] at hds
    have hp3 := s3 _ _ hp2
    have hav3 := s3 _ _ hav2
    have ndp : ds ≠ p := (ne_of_none hp2 nds).symm
    refine ⟨_, rfl, p, _, dx, _, rfl, hp3, T.cl_Problem, T.na_Problem__sizes, (by show 1 < 1000; decide), ?_⟩
    have s4 := same_p (o := .ins T.C_Problem dx (putF "_sizes" (.ref ds) (putF "_variables" (.ref av) []))) (s2.trans s3) n0
    have hp4 : upd H3 p (.ins T.C_Problem dx (putF "_sizes" (.ref ds) (putF "_variables" (.ref av) []))) p = some (.ins T.C_Problem dx (putF "_sizes" (.ref ds) (putF "_variables" (.ref av) []))) := upd_same
    have hav4 : upd H3 p (.ins T.C_Problem dx (putF "_sizes" (.ref ds) (putF "_variables" (.ref av) []))) av = some (.lst xs) := by rw [upd_ne nvp]; exact hav3
    have hds4 : upd H3 p (.ins T.C_Problem dx (putF "_sizes" (.ref ds) (putF "_variables" (.ref av) []))) ds = some (.dK (kvL L)) := by rw [upd_ne ndp]; exact hds
    have nds0 := Same.none s2 nds
    generalize upd H3 p (.ins T.C_Problem dx (putF "_sizes" (.ref ds) (putF "_variables" (.ref av) []))) = H4 at s4 hp4 hav4 hds4
    clear s3 hp3 hav3 hds s2 hp2 hav2 nds
    -- self._places
    refine ⟨ds, _, hds4, trivial, fun od => ?_⟩
    refine ⟨_, rfl, p, _, dx, _, _, rfl, by rw [upd_ne (Ne.symm ndp)]; exact hp4, T.cl_Problem, T.na_Problem__sizes, (lookup_putF ..).trans (if_pos rfl), ds, od, kvL L, rfl, upd_same, fun dp ndp' => ?_⟩
    refine dc_it walk_enumD (fun i H' => H' dp = some (.dK (kvP (L.take i))) ∧ Same (upd H4 ds (.frz od (.dK (kvL L)))) H') ⟨upd_same, Same.new ndp'⟩ (fun i H' _ h => frz_at h.2) ?_ ?_
    · rintro i x H5 H6 hi ⟨h1, h2⟩ ⟨T', y1, y2, rfl, nT, rfl, e1, e2⟩
      have li : i < L.length := by unfold kvL at hi; rwa [List.length_map] at hi
      have eq1 : (kvL L)[i]? = some (Sum.inr L[i].1, V.int L[i].2) := by unfold kvL; rw [List.getElem?_map, List.getElem?_eq_getElem li]; rfl
      simp only [eq1, Option.map_some] at e1 e2
      cases e1
      cases e2
      have hdT : upd H5 T' (.tup [.int (i : Nat), kV (Sum.inr L[i].1)]) dp = some (.dK (kvP (L.take i))) := by rw [upd_ne (ne_of_none h1 nT)]; exact h1
      refine ⟨T', _, rfl, .inl (.inl upd_same), rfl, _, _, rfl, _, _, rfl, rfl, rfl, _, rfl, _, rfl, _, Sum.inr L[i].1, rfl, hdT, by rw [kvP_len, List.length_take, sizeLine_eq]; omega, ?_, Same.upd_p (h2.trans (Same.new nT)) ndp'⟩
      rw [upd_same, kvP_put okL.nd li]
    rintro H5 ⟨hdp, s5⟩
    have lkL : (kvL L).length = L.length := by unfold kvL; rw [List.length_map]
    rw [lkL, List.take_length] at hdp
    have ndpp : dp ≠ p := fun e => by rw [e, upd_ne (Ne.symm ndp), hp4] at ndp'; cases ndp'
    have nddd : dp ≠ ds := fun e => by rw [e, upd_same] at ndp'; cases ndp'
    have ndp0 : H0 dp = none := Same.none s4 (by rw [upd_ne nddd] at ndp'; exact ndp')
    refine ⟨frz_at s5, ?_⟩
    have s6 := Same.unlock hds4 s5
    have hdp6 : upd H5 ds (.dK (kvL L)) dp = some (.dK (kvP L)) := by rw [upd_ne nddd]; exact hdp
    generalize upd H5 ds (.dK (kvL L)) = H6 at s6 hdp6
    have hp6 := s6 _ _ hp4
    refine ⟨_, rfl, p, _, dx, _, rfl, hp6, T.cl_Problem, T.na_Problem__places, (by show 2 < 1000; decide), ?_⟩
    have s7 := same_p (o := .ins T.C_Problem dx (putF "_places" (.ref dp) (putF "_sizes" (.ref ds) (putF "_variables" (.ref av) [])))) (s4.trans s6) n0
    have hp7 : upd H6 p (.ins T.C_Problem dx (putF "_places" (.ref dp) (putF "_sizes" (.ref ds) (putF "_variables" (.ref av) [])))) p = some (.ins T.C_Problem dx (putF "_places" (.ref dp) (putF "_sizes" (.ref ds) (putF "_variables" (.ref av) [])))) := upd_same
    have hav7 : upd H6 p (.ins T.C_Problem dx (putF "_places" (.ref dp) (putF "_sizes" (.ref ds) (putF "_variables" (.ref av) [])))) av = some (.lst xs) := by rw [upd_ne nvp]; exact s6 _ _ hav4
    have hds7 : upd H6 p (.ins T.C_Problem dx (putF "_places" (.ref dp) (putF "_sizes" (.ref ds) (putF "_variables" (.ref av) [])))) ds = some (.dK (kvL L)) := by rw [upd_ne ndp]; exact s6 _ _ hds4
    have hdp7 : upd H6 p (.ins T.C_Problem dx (putF "_places" (.ref dp) (putF "_sizes" (.ref ds) (putF "_variables" (.ref av) [])))) dp = some (.dK (kvP L)) := by rw [upd_ne ndpp]; exact hdp6
    generalize upd H6 p (.ins T.C_Problem dx (putF "_places" (.ref dp) (putF "_sizes" (.ref ds) (putF "_variables" (.ref av) [])))) = H7 at s7 hp7 hav7 hds7 hdp7
    clear s6 hp6 s5 hdp s4 hp4 hav4 hds4 ndp'
    -- the check of the events
    refine ⟨_, rfl, _, rfl, p, _, dx, _, _, rfl, hp7, T.cl_Problem, T.na_Problem__sizes, (lookup_putF ..).trans ((if_neg (by decide +kernel)).trans ((lookup_putF ..).trans (if_pos rfl))), e, ds, ys, Old H0, Old H0, L, R, rfl, hE.same s7, Paired.mono (fun _ _ z => z.same s7) pdR, hds7, okL, okR, fun H8 s8 => ?_⟩
    have hp8 := s8 _ _ hp7
    have hav8 := s8 _ _ hav7
    have hds8 := s8 _ _ hds7
    have hdp8 := s8 _ _ hdp7
    replace s8 := s7.trans s8
    clear s7 hp7 hav7 hds7
    -- self._events
    refine or_walkA (fun R' h => ⟨_, rfl, h⟩) hE.sq (s8 e) fun J2 G2 w2 g2 ae nae => ?_
    have nep : ae ≠ p := (ne_of_none hp8 nae).symm
    have nae0 := Same.none s8 nae
    let F1 : Addr → Prop := fun t => H0 t = none ∧ t ≠ ae ∧ t ≠ p
    refine lc_it w2 (fun i H' => ∃ (es : List V) (E : List Ent), H' ae = some (.lst es) ∧ es.length = i ∧ Paired (isEv H' F1) es E ∧ Paired (isEnt H' F1 (Old H0)) E (R.take i) ∧ Same H8 H') ⟨[], [], upd_same, rfl, .nil, .nil, Same.new nae⟩ (fun i H' _ ⟨_, _, _, _, _, _, h⟩ => g2 H' fun o e' => h e o (s8 e o e')) ?_ ?_
    · rintro i x H9 H10 hi ⟨es, E, h1, h2, h3, h4, h5⟩ ⟨rfl, hx⟩
      obtain ⟨r, hr', t, ta, tb, bs, rfl, _, ht, la, lb, pb⟩ := pd_get pdR hx
      obtain ⟨li, er⟩ := List.getElem?_eq_some_iff.mp hr'
      have rok := okR.ok r (List.mem_of_getElem? hr')
      have s9 := s8.trans h5
      have k1 := rok.pos
      have k3 := rok.bfew
      have k4 := pb.length
      refine ⟨t, _, rfl, .inl (.inl (s9 _ _ ht)), rfl, _, _, rfl, _, _, rfl, _, _, rfl, rfl, rfl, ?_⟩
      refine ⟨_, rfl, _, rfl, ta, _, rfl, (la.s.same s9).sq, fun l nl => ?_⟩
      have sl := Same.new (o := .lst (r.2.1.map V.str)) nl
      have hl : upd H10 l (.lst (r.2.1.map V.str)) l = some (.lst (r.2.1.map V.str)) := upd_same
      have nl0 := Same.none s9 nl
      have nlae : l ≠ ae := (ne_of_none h1 nl).symm
      have nlp : l ≠ p := (ne_of_none (h5 _ _ hp8) nl).symm
      generalize upd H10 l (.lst (r.2.1.map V.str)) = H11 at sl hl
      have s11 := s9.trans sl
      have pb11 := Paired.mono (fun _ _ z => isTupI.same z s11) pb
      refine ⟨_, rfl, tb, bs, rdT H11, r.2.1.length, 6, rfl, (lb.s.same s11).sq, by omega, k1, sort_in pb11 (row_bd okL rok), fun out bq pm pw nq => ?_⟩
      obtain ⟨sr, pout⟩ := sort_out pb11 pm pw
      have sq := Same.new (o := .lst out) nq
      have hq : upd H11 bq (.lst out) bq = some (.lst out) := upd_same
      have nq0 := Same.none s11 nq
      have nqae : bq ≠ ae := (ne_of_none (sl _ _ h1) nq).symm
      have nqp : bq ≠ p := (ne_of_none (sl _ _ (h5 _ _ hp8)) nq).symm
      generalize upd H11 bq (.lst out) = H12 at sq hq
      refine ⟨lenk 3 rfl (by decide), fun u nu => ?_⟩
      have su := Same.new (o := .tup [.str r.1, .ref l, .ref bq]) nu
      have hu : upd H12 u (.tup [.str r.1, .ref l, .ref bq]) u = some (.tup [.str r.1, .ref l, .ref bq]) := upd_same
      have s12 := s11.trans sq
      have nu0 := Same.none s12 nu
      have nuae : u ≠ ae := (ne_of_none (sq _ _ (sl _ _ h1)) nu).symm
      have nup : u ≠ p := (ne_of_none (sq _ _ (sl _ _ (h5 _ _ hp8))) nu).symm
      generalize upd H12 u (.tup [.str r.1, .ref l, .ref bq]) = H13 at su hu
      have t13 := (sl.trans sq).trans su
      have mve : Mv (fun a => a = ae) H13 (upd H13 ae (.lst (es ++ [.ref u]))) := fun a o na e => by rw [upd_ne na]; exact e
      have oae : ∀ a, Old H0 a → ¬ a = ae := fun a ⟨o, ho⟩ ea => by rw [ea, nae0] at ho; cases ho
      refine ⟨es, t13 _ _ h1, by rw [h2, sizeLine_eq]; omega, es ++ [.ref u], E ++ [(r.1, l, bq)], upd_same, by rw [List.length_append, h2]; rfl, ?_, ?_, Same.upd_p (h5.trans t13) nae⟩
      · refine Paired.snoc (Paired.mono (fun _ _ z => ?_) h3) ?_
        · exact isEv.mv (isEv.mv z (Mv.of_same t13 (W := fun _ => False)) (fun _ _ z => z)) mve fun a ha => ha.2.1
        · exact ⟨u, rfl, ⟨nu0, nuae, nup⟩, by rw [upd_ne nuae]; exact hu⟩
      · rw [take_snoc li, er]
        refine Paired.snoc (Paired.mono (fun _ _ z => ?_) h4) ?_
        · exact isEnt.mv (isEnt.mv z (Mv.of_same t13 (W := fun _ => False)) (fun _ _ z => z) (fun _ _ z => z)) mve (fun a ha => ha.2.1) oae
        · refine ⟨rfl, ⟨nl0, nlae, nlp⟩, ⟨nq0, nqae, nqp⟩, by rw [upd_ne nlae]; exact su _ _ (sq _ _ hl), out, _, by rw [upd_ne nqae]; exact su _ _ hq, sr, Paired.mono (fun _ _ z => ?_) pout⟩
          exact isTupI.mv (isTupI.same z (sq.trans su)) mve oae
    rintro H9 ⟨es, E, hae, -, pev, pent, s9⟩
    rw [lys, List.take_length] at pent
    have hp9 := s9 _ _ hp8
    have hav9 := s9 _ _ hav8
    have hds9 := s9 _ _ hds8
    have hdp9 := s9 _ _ hdp8
    refine ⟨_, rfl, p, _, dx, _, rfl, hp9, T.cl_Problem, T.na_Problem__events, (by show 3 < 1000; decide), ?_⟩
    let fE := putF "_events" (.ref ae) (putF "_places" (.ref dp) (putF "_sizes" (.ref ds) (putF "_variables" (.ref av) [])))
    have s10 := same_p (o := .ins T.C_Problem dx fE) (s8.trans s9) n0
    have hp10 : upd H9 p (.ins T.C_Problem dx fE) p = some (.ins T.C_Problem dx fE) := upd_same
    have hav10 : upd H9 p (.ins T.C_Problem dx fE) av = some (.lst xs) := by rw [upd_ne nvp]; exact hav9
    have hds10 : upd H9 p (.ins T.C_Problem dx fE) ds = some (.dK (kvL L)) := by rw [upd_ne ndp]; exact hds9
    have hdp10 : upd H9 p (.ins T.C_Problem dx fE) dp = some (.dK (kvP L)) := by rw [upd_ne ndpp]; exact hdp9
    have hae10 : upd H9 p (.ins T.C_Problem dx fE) ae = some (.lst es) := by rw [upd_ne nep]; exact hae
    have mvp : Mv (fun a => a = p) H9 (upd H9 p (.ins T.C_Problem dx fE)) := fun a o na e => by rw [upd_ne na]; exact e
    have oap : ∀ a, Old H0 a → ¬ a = p := fun a ⟨o, ho⟩ ea => by rw [ea, n0] at ho; cases ho
    have pev10 := Paired.mono (fun _ _ z => isEv.mv z mvp fun a ha => ha.2.2) pev
    have pent10 := Paired.mono (fun _ _ z => isEnt.mv z mvp (fun a ha => ha.2.2) oap) pent
    generalize upd H9 p (.ins T.C_Problem dx fE) = H10 at s10 hp10 hav10 hds10 hdp10 hae10 pev10 pent10
    clear mvp hae pev pent s9 hp9 hav9 hds9 hp8 hav8 hds8 nae
    have ekeys := ent_keys pent10
    have end' : (E.map (·.1)).Nodup := by rw [ekeys]; exact okR.nd
    have lE := pent10.length
    have les := pev10.length
    -- self._scopes
    have evs : ∀ {H' : Hp} {i : Nat} {x : V}, Same H10 H' → es[i]? = some x → ∃ t, ∃ hi : i < E.length, x = .ref t ∧ H' t = some (.tup [.str E[i].1, .ref E[i].2.1, .ref E[i].2.2]) := fun s' hx => by
      obtain ⟨q, hq, t, e, _, ht⟩ := pd_get pev10 hx
      obtain ⟨li, eq⟩ := List.getElem?_eq_some_iff.mp hq
      exact ⟨t, li, e, by rw [eq]; exact s' _ _ ht⟩
    refine ⟨_, rfl, p, _, dx, _, _, rfl, hp10, T.cl_Problem, T.na_Problem__events, (lookup_putF ..).trans (if_pos rfl), ae, rfl, ⟨_, SqL.of hae10⟩, fun dsc ndsc => ?_⟩
    refine dc_it (walk_list (K := K) (a := ae) (xs := es)) (fun i H' => H' dsc = some (.dK (kvS (E.take i))) ∧ Same H10 H') ⟨upd_same, Same.new ndsc⟩ (fun i H' _ h => SqL.of (h.2 _ _ hae10)) ?_ ?_
    · rintro i x H11 H12 hi ⟨h1, h2⟩ ⟨rfl, hx⟩
      obtain ⟨t, li, rfl, ht⟩ := evs h2 hx
      refine ⟨t, _, rfl, .inl (.inl ht), rfl, _, _, rfl, _, _, rfl, _, _, rfl, rfl, rfl, _, rfl, _, rfl, _, Sum.inr E[i].1, rfl, h1, by unfold kvS; rw [List.length_map, List.length_take, sizeLine_eq]; omega, ?_, Same.upd_p h2 ndsc⟩
      rw [upd_same]
      exact congrArg (fun z => some (HO.dK z)) (ent_put (g := fun q => V.ref q.2.1) end' li)
    rintro H11 ⟨hdsc, s11⟩
    rw [les, List.take_length] at hdsc
    have hp11 := s11 _ _ hp10
    have nscp : dsc ≠ p := (ne_of_none hp10 ndsc).symm
    refine ⟨_, rfl, p, _, dx, _, rfl, hp11, T.cl_Problem, T.na_Problem__scopes, (by show 4 < 1000; decide), ?_⟩
    let fS := putF "_scopes" (.ref dsc) fE
    have mvp : Mv (fun a => a = p) H11 (upd H11 p (.ins T.C_Problem dx fS)) := fun a o na e => by rw [upd_ne na]; exact e
    have s12 := same_p (o := .ins T.C_Problem dx fS) (s10.trans s11) n0
    have hp12 : upd H11 p (.ins T.C_Problem dx fS) p = some (.ins T.C_Problem dx fS) := upd_same
    have hav12 := mvp _ _ nvp (s11 _ _ hav10)
    have hds12 := mvp _ _ ndp (s11 _ _ hds10)
    have hdp12 := mvp _ _ ndpp (s11 _ _ hdp10)
    have hae12 := mvp _ _ nep (s11 _ _ hae10)
    have hdsc12 := mvp _ _ nscp hdsc
    have pev12 := Paired.mono (fun _ _ z => isEv.mv (isEv.mv z (Mv.of_same s11 (W := fun _ => False)) (fun _ _ z => z)) mvp fun a ha => ha.2.2) pev10
    have pent12 := Paired.mono (fun _ _ z => isEnt.mv (isEnt.mv z (Mv.of_same s11 (W := fun _ => False)) (fun _ _ z => z) (fun _ _ z => z)) mvp (fun a ha => ha.2.2) oap) pent10
    have nsc0 := Same.none s10 ndsc
    generalize upd H11 p (.ins T.C_Problem dx fS) = H12 at mvp s12 hp12 hav12 hds12 hdp12 hae12 hdsc12 pev12 pent12
    clear mvp hdsc s11 hp11 pev10 pent10 hp10 hav10 hds10 hae10 s10 ndsc evs
    -- self._bad_tuples
    have evs : ∀ {H' : Hp} {i : Nat} {x : V}, Same H12 H' → es[i]? = some x → ∃ t, ∃ hi : i < E.length, x = .ref t ∧ H' t = some (.tup [.str E[i].1, .ref E[i].2.1, .ref E[i].2.2]) := fun s' hx => by
      obtain ⟨q, hq, t, e, _, ht⟩ := pd_get pev12 hx
      obtain ⟨li, eq⟩ := List.getElem?_eq_some_iff.mp hq
      exact ⟨t, li, e, by rw [eq]; exact s' _ _ ht⟩
    refine ⟨_, rfl, p, _, dx, _, _, rfl, hp12, T.cl_Problem, T.na_Problem__events, (lookup_putF ..).trans ((if_neg (by decide +kernel)).trans ((lookup_putF ..).trans (if_pos rfl))), ae, rfl, ⟨_, SqL.of hae12⟩, fun dbt ndbt => ?_⟩
    refine dc_it (walk_list (K := K) (a := ae) (xs := es)) (fun i H' => H' dbt = some (.dK (kvB (E.take i))) ∧ Same H12 H') ⟨upd_same, Same.new ndbt⟩ (fun i H' _ h => SqL.of (h.2 _ _ hae12)) ?_ ?_
    · rintro i x H13 H14 hi ⟨h1, h2⟩ ⟨rfl, hx⟩
      obtain ⟨t, li, rfl, ht⟩ := evs h2 hx
      refine ⟨t, _, rfl, .inl (.inl ht), rfl, _, _, rfl, _, _, rfl, _, _, rfl, rfl, rfl, _, rfl, _, rfl, _, Sum.inr E[i].1, rfl, h1, by unfold kvB; rw [List.length_map, List.length_take, sizeLine_eq]; omega, ?_, Same.upd_p h2 ndbt⟩
      rw [upd_same]
      exact congrArg (fun z => some (HO.dK z)) (ent_put (g := fun q => V.ref q.2.2) end' li)
    rintro H13 ⟨hdbt, s13⟩
    rw [les, List.take_length] at hdbt
    have hp13 := s13 _ _ hp12
    have nbtp : dbt ≠ p := (ne_of_none hp12 ndbt).symm
    refine ⟨_, rfl, p, _, dx, _, rfl, hp13, T.cl_Problem, T.na_Problem__bad_tuples, (by show 5 < 1000; decide), ?_⟩
    let fB := putF "_bad_tuples" (.ref dbt) fS
    have mvp : Mv (fun a => a = p) H13 (upd H13 p (.ins T.C_Problem dx fB)) := fun a o na e => by rw [upd_ne na]; exact e
    have s14 := same_p (o := .ins T.C_Problem dx fB) (s12.trans s13) n0
    have hp14 : upd H13 p (.ins T.C_Problem dx fB) p = some (.ins T.C_Problem dx fB) := upd_same
    have hav14 := mvp _ _ nvp (s13 _ _ hav12)
    have hds14 := mvp _ _ ndp (s13 _ _ hds12)
    have hdp14 := mvp _ _ ndpp (s13 _ _ hdp12)
    have hae14 := mvp _ _ nep (s13 _ _ hae12)
    have hdsc14 := mvp _ _ nscp (s13 _ _ hdsc12)
    have hdbt14 := mvp _ _ nbtp hdbt
    have pev14 := Paired.mono (fun _ _ z => isEv.mv (isEv.mv z (Mv.of_same s13 (W := fun _ => False)) (fun _ _ z => z)) mvp fun a ha => ha.2.2) pev12
    have pent14 := Paired.mono (fun _ _ z => isEnt.mv (isEnt.mv z (Mv.of_same s13 (W := fun _ => False)) (fun _ _ z => z) (fun _ _ z => z)) mvp (fun a ha => ha.2.2) oap) pent12
    have nbt0 := Same.none s12 ndbt
    generalize upd H13 p (.ins T.C_Problem dx fB) = H14 at mvp s14 hp14 hav14 hds14 hdp14 hae14 hdsc14 hdbt14 pev14 pent14
    clear mvp hdbt s13 hp13 pev12 pent12 hp12 hav12 hds12 hae12 hdsc12 s12 ndbt evs
    -- self._neighbors
    refine ⟨dsc, _, hdsc14, trivial, fun od2 => ?_⟩
    have hpu : upd H14 dsc (.frz od2 (.dK (kvS E))) p = some (.ins T.C_Problem dx fB) := by rw [upd_ne (Ne.symm nscp)]; exact hp14
    refine ⟨_, rfl, p, _, dx, _, _, rfl, hpu, T.cl_Problem, T.na_Problem__scopes, (lookup_putF ..).trans ((if_neg (by decide +kernel)).trans ((lookup_putF ..).trans (if_pos rfl))), dsc, od2, rfl, .inl ⟨kvS E, upd_same, fun dn ndn => ?_⟩⟩
    let F2 : Addr → Prop := fun t => H0 t = none ∧ t ≠ dn ∧ t ≠ p ∧ t ≠ dsc
    have scs : ∀ {H' : Hp}, Same (upd H14 dsc (.frz od2 (.dK (kvS E)))) H' → Paired (scAt H') E R := fun s' => Paired.mono (fun q r ⟨e1, _, _, hsc, _⟩ => ⟨e1, s' _ _ (by rw [upd_ne (ne_of hsc hdsc14 (by simp))]; exact hsc)⟩) pent14
    have ndn0 : H0 dn = none := Same.none s14 (by
      by_cases e : dn = dsc
      · rw [e, upd_same] at ndn; cases ndn
      · rw [upd_ne e] at ndn; exact ndn)
    have nndp : dn ≠ p := fun e => by rw [e, hpu] at ndn; cases ndn
    refine dc_it walk_keys (fun i H' => (∃ N : List (Str × Addr), H' dn = some (.dK (kvN N)) ∧ Paired (isNb H' F2 R) N (R.take i)) ∧ Same (upd H14 dsc (.frz od2 (.dK (kvS E)))) H') ⟨⟨[], upd_same, .nil⟩, Same.new ndn⟩ (fun i H' _ h => frz_at h.2) ?_ ?_
    · rintro i x H15 H16 hi ⟨⟨N, h1, hN⟩, h2⟩ ⟨rfl, k, v, hk, rfl⟩
      have li : i < E.length := by unfold kvS at hi; rwa [List.length_map] at hi
      have liR : i < R.length := by omega
      obtain ⟨w, hw, ew, _⟩ := pd_get pent14 (List.getElem?_eq_getElem li)
      obtain ⟨_, ew2⟩ := List.getElem?_eq_some_iff.mp hw
      have mw := List.mem_of_getElem? hw
      have eq1 : (kvS E)[i]? = some (Sum.inr w.1, V.ref E[i].2.1) := by unfold kvS; rw [List.getElem?_map, List.getElem?_eq_getElem li, ← ew]; rfl
      rw [eq1] at hk
      cases hk
      refine ⟨rfl, _, rfl, _, rfl, _, rfl, p, _, dx, _, _, rfl, h2 _ _ hpu, T.cl_Problem, T.na_Problem__scopes, (lookup_putF ..).trans ((if_neg (by decide +kernel)).trans ((lookup_putF ..).trans (if_pos rfl))), ?_⟩
      refine ⟨dsc, od2, E, R, w, rfl, frz_at h2, r8, okR.nd, mw, scs h2, fun r hr => (okR.ok r hr).few, fun p' H17 s17 np' hp' => ?_⟩
      have kN : N.map (·.1) = (R.take i).map (·.1) := by
        clear h1
        revert hN
        generalize R.take i = R'
        intro hN
        induction hN with
        | nil => rfl
        | cons r t ih => rw [List.map_cons, List.map_cons, r.1, ih]
      have hn := val_none (l := N) (f := fun q => q.1) (g := fun q => V.ref q.2) (x := w.1) (by
        rw [kN, List.map_take, ← ew2]
        have h := not_mem_take okR.nd (i := i) (by rw [List.length_map]; exact liR)
        rw [List.getElem_map] at h
        exact h)
      have lN := hN.length
      have np0 : H0 p' = none := Same.none s14 (by
        have := Same.none h2 np'
        by_cases e : p' = dsc
        · rw [e, upd_same] at this; cases this
        · rw [upd_ne e] at this; exact this)
      have nd1 : p' ≠ dn := fun e => by rw [e, h1] at np'; cases np'
      have nd2 : p' ≠ p := fun e => by rw [e, h2 _ _ hpu] at np'; cases np'
      have nd3 : p' ≠ dsc := fun e => by rw [e, frz_at h2] at np'; cases np'
      refine ⟨kvN N, Sum.inr w.1, rfl, s17 _ _ h1, by unfold kvN; rw [List.length_map, lN, List.length_take, sizeLine_eq]; omega, ⟨N ++ [(w.1, p')], ?_, ?_⟩, Same.upd_p (h2.trans s17) ndn⟩
      · rw [upd_same]; unfold kvN; rw [putK_new _ hn, List.map_append]; rfl
      · have mdn : Mv (fun a => a = dn) H17 (upd H17 dn (.dK (putK (kvN N) (Sum.inr w.1) (.ref p')))) := fun a o na e => by rw [upd_ne na]; exact e
        rw [take_snoc liR, ew2]
        refine Paired.snoc (Paired.mono (fun _ _ z => isNb.mv (isNb.mv z (Mv.of_same s17 (W := fun _ => False)) fun _ _ z => z) mdn fun a ha => ha.2.1) hN) ?_
        exact ⟨rfl, ⟨np0, nd1, nd2, nd3⟩, mdn _ _ nd1 hp'⟩
    rintro H15 ⟨⟨N, hdn, hN⟩, s15⟩
    have lkE : (kvS E).length = R.length := by unfold kvS; rw [List.length_map, lE]
    rw [lkE, List.take_length] at hN
    refine ⟨frz_at s15, ?_⟩
    have s16 := Same.unlock hdsc14 s15
    have mdsc : Mv (fun a => a = dsc) H15 (upd H15 dsc (.dK (kvS E))) := fun a o na e => by rw [upd_ne na]; exact e
    have nndsc : dn ≠ dsc := fun e => by rw [e, upd_same] at ndn; cases ndn
    have hdn16 := mdsc _ _ nndsc hdn
    have hN16 := Paired.mono (fun _ _ z => isNb.mv z mdsc fun a ha => ha.2.2.2) hN
    generalize upd H15 dsc (.dK (kvS E)) = H16 at s16 mdsc hdn16 hN16
    have hp16 := s16 _ _ hp14
    refine ⟨_, rfl, p, _, dx, _, rfl, hp16, T.cl_Problem, T.na_Problem__neighbors, (by show 6 < 1000; decide), ?_⟩
    have mvp : Mv (fun a => a = p) H16 (upd H16 p (.ins T.C_Problem dx (pfl av ds dp ae dsc dbt dn))) := fun a o na e => by rw [upd_ne na]; exact e
    have ms := Mv.of_same s16 (W := fun _ => False)
    refine q _ (same_p (s14.trans s16) n0) ⟨dx, av, ds, dp, ae, dsc, dbt, dn, E, xs, es, upd_same, ⟨n0, nav0, nds0, nae0, nsc0, nbt0, ⟨N, ndn0, mvp _ _ nndp hdn16, Paired.mono (fun _ _ z => ?_) hN16⟩, ndp0, mvp _ _ ndpp (ms _ _ id hdp14)⟩, ⟨mvp _ _ nvp (ms _ _ id hav14), ?_⟩, mvp _ _ ndp (ms _ _ id hds14), ⟨mvp _ _ nep (ms _ _ id hae14), ?_, ?_⟩, mvp _ _ nscp (ms _ _ id hdsc14), mvp _ _ nbtp (ms _ _ id hdbt14)⟩
    · obtain ⟨z1, z2, z3⟩ := isNb.mv z mvp fun a ha => ha.2.2.1
      exact ⟨z1, z2.1, z3⟩
    · exact Paired.mono (fun _ _ z => isPair.same z (same_p (s14.trans s16) n0)) pdL
    · exact Paired.mono (fun _ _ z => isEv.wk (isEv.mv (isEv.mv z ms (fun _ _ z => z)) mvp fun a ha => ha.2.2) fun a ha => ha.1) pev14
    · exact Paired.mono (fun _ _ z => isEnt.wk (isEnt.mv (isEnt.mv z ms (fun _ _ z => z) (fun _ _ z => z)) mvp (fun a ha => ha.2.2) oap) fun a ha => ha.1) pent14

end K13
namespace K13
open PySem PySem.Spec PyProof.Rows L2 TL
/-! ### what a problem tells -/
theorem pfl_no {m : Str} (av ds dp ae dsc dbt dn : Addr) (h : ([("_neighbors" : Str), "_bad_tuples", "_scopes", "_events", "_places", "_sizes", "_variables"].all fun k => decide (¬ m = k)) = true) : (pfl av ds dp ae dsc dbt dn).lookup m = none := by
  simp only [List.all_cons, List.all_nil, Bool.and_eq_true, decide_eq_true_eq] at h
  obtain ⟨h1, h2, h3, h4, h5, h6, h7, _⟩ := h
  unfold pfl
  exact (lookup_putF ..).trans ((if_neg h1).trans ((lookup_putF ..).trans ((if_neg h2).trans ((lookup_putF ..).trans ((if_neg h3).trans ((lookup_putF ..).trans ((if_neg h4).trans ((lookup_putF ..).trans ((if_neg h5).trans ((lookup_putF ..).trans ((if_neg h6).trans ((lookup_putF ..).trans ((if_neg h7).trans rfl)))))))))))))
def sp_pvars (C : Addr) : Sp := fun vs H Q _ => ∃ (p : Addr) (F G : Addr → Prop) (L : List (Str × Int)) (R : List Row), vs = [.ref p] ∧ IsP C H F G p L R ∧ ∀ l xs, H l = none → Paired (isPair H G) xs L → Q (.ref l) (upd H l (.lst xs))
theorem ok_Problem_variables {P : Program} {w : World} {K : PySem.W.Frag} {mg : Str → Option Value} {base : Heap} (T : Txt P K mg) : FnOk P w K mg base CX0 1 T.f_Problem_variables T.fd_Problem_variables ["self"] (sp_pvars T.C_Problem) := by
  refine T.F_Problem_variables.ok sc_Problem_variables (fun vs H Q E h => ?_) (fun cdv A outer s H vs Q E hr h => ?_)
  · obtain ⟨_, _, _, _, _, rfl, _⟩ := h; rfl
  · obtain ⟨p, F, G, L, R, rfl, ⟨dx, av, ds, dp, ae, dsc, dbt, dn, E, xs, es, hp, _, ⟨h1, h2⟩, _⟩, q⟩ := h
    refine ⟨_, PSs.nox (pss_one (ps_ret (pe_callTy (show CallR _ _ (rListOf K) from call_list_of) (by rfl) T.n_list (by decide +kernel) (pa_cons (show PE _ _ (tFld K _ _) from pe_fld (pv 0) rfl) pa_nil)))), ?_⟩
    exact ⟨_, rfl, p, _, dx, _, _, rfl, hp, T.cl_Problem, T.na_Problem__variables, pfl_variables .., av, xs, rfl, .inl (SqL.of h1), fun l nl => q l xs nl h2⟩
theorem kvS_keys {H : Hp} {F G : Addr → Prop} {E : List Ent} {R : List Row} (h : Paired (isEnt H F G) E R) : (kvS E).map (fun kv => kV kv.1) = (R.map (·.1)).map V.str := by
  rw [← ent_keys h]; unfold kvS; rw [List.map_map, List.map_map]; rfl
theorem ent_of {H : Hp} {F G : Addr → Prop} {E : List Ent} {R : List Row} (h : Paired (isEnt H F G) E R) (nd : (R.map (·.1)).Nodup) {r : Row} (hr : r ∈ R) : ∃ q : Ent, q ∈ E ∧ isEnt H F G q r ∧ valV (kvS E) (Sum.inr r.1) = some (.ref q.2.1) ∧ valV (kvB E) (Sum.inr r.1) = some (.ref q.2.2) := by
  have nde : (E.map (·.1)).Nodup := by rw [ent_keys h]; exact nd
  obtain ⟨i, hi⟩ := List.getElem?_of_mem hr
  obtain ⟨q, hq, f⟩ := pd_get' h hi
  have mq := List.mem_of_getElem? hq
  have e := f.1
  refine ⟨q, mq, f, ?_, ?_⟩
  · rw [← e]; exact val_map (fun q => q.1) (fun q => V.ref q.2.1) nde mq
  · rw [← e]; exact val_map (fun q => q.1) (fun q => V.ref q.2.2) nde mq
def sp_pev (C : Addr) (v : V) : Sp := fun vs H Q _ => ∃ (p : Addr) (F G : Addr → Prop) (L : List (Str × Int)) (R : List Row) (r : Row), vs = [.ref p, .str r.1] ∧ IsP C H F G p L R ∧ (R.map (·.1)).Nodup ∧ r ∈ R ∧ Q v H
theorem ok_Problem_is_event {P : Program} {w : World} {K : PySem.W.Frag} {mg : Str → Option Value} {base : Heap} (T : Txt P K mg) : FnOk P w K mg base CX0 1 T.f_Problem_is_event T.fd_Problem_is_event ["self", "value"] (sp_pev T.C_Problem (.bl true)) := by
  refine T.F_Problem_is_event.ok sc_Problem_is_event (fun vs H Q E h => ?_) (fun cdv A outer s H vs Q E hr h => ?_)
  · obtain ⟨_, _, _, _, _, _, rfl, _⟩ := h; rfl
  · obtain ⟨p, F, G, L, R, r, rfl, ⟨dx, av, ds, dp, ae, dsc, dbt, dn, E, xs, es, hp, _, _, _, ⟨_, _, h6⟩, h7, _⟩, nd, hr', q⟩ := h
    obtain ⟨qe, _, _, v1, _⟩ := ent_of h6 nd hr'
    refine ⟨_, PSs.nox (pss_one (ps_ret (pe_and (pe_callB (show CallR _ _ (rIsi K) from call_isi) (by rfl) T.n_isinstance (by decide +kernel) (pa_cons (pv 1) (pa_cons (pe_bltn (v := .ty "str") (by rfl) T.n_str (by decide +kernel) rfl) pa_nil))) (pe_one (pe_cmp (pc_din (hu_of hr) (pv 1) (show PE _ _ (tFld K _ _) from pe_fld (pv 0) rfl))))))), ?_⟩
    have dg : DGet H dsc (.str r.1) (some (.ref qe.2.1)) := by rw [← v1]; exact DGet.k (k := Sum.inr r.1) h7
    exact ⟨_, rfl, _, _, _, _, _, rfl, .ty _, .base (.str _), kit_ss, _, rfl, _, rfl, _, rfl, p, _, dx, _, _, rfl, hp, T.cl_Problem, T.na_Problem__scopes, pfl_scopes .., dsc, _, rfl, dg, q⟩
theorem ok_Problem_check_event {P : Program} {w : World} {K : PySem.W.Frag} {mg : Str → Option Value} {base : Heap} (T : Txt P K mg) : FnOk P w K mg base CX0 2 T.f_Problem_check_event T.fd_Problem_check_event ["self", "value"] (sp_pev T.C_Problem .non) := by
  refine T.F_Problem_check_event.ok sc_Problem_check_event (fun vs H Q E h => ?_) (fun cdv A outer s H vs Q E hr h => ?_)
  · obtain ⟨_, _, _, _, _, _, rfl, _⟩ := h; rfl
  · obtain ⟨p, F, G, L, R, r, rfl, hP, nd, hr', q⟩ := h
    have hP' := hP
    obtain ⟨dx, av, ds, dp, ae, dsc, dbt, dn, E, xs, es, hp, _⟩ := hP'
    refine ⟨_, PSs.nox (pss_one (ps_if (pt_not (pt_val (pe_meth (pl := _) (pv 0) T.cl_Problem T.m_Problem_is_event (ok_Problem_is_event T) (hr.mono (by decide)) (b_Problem_is_event T) .nil pass0 (pa_cons (pv 1) pa_nil)))) (pss_one ps_never) pss_nil)), ?_⟩
    exact ⟨_, rfl, p, dx, _, rfl, hp, pfl_no _ _ _ _ _ _ _ (by decide +kernel), _, rfl, p, F, G, L, R, r, rfl, hP, nd, hr', _, rfl, q⟩
def sp_pscope (C : Addr) : Sp := fun vs H Q _ => ∃ (p : Addr) (F G : Addr → Prop) (L : List (Str × Int)) (R : List Row) (r : Row), vs = [.ref p, .str r.1] ∧ IsP C H F G p L R ∧ (R.map (·.1)).Nodup ∧ r ∈ R ∧ ∀ l, H l = none → Q (.ref l) (upd H l (.lst (r.2.1.map V.str)))
theorem ok_Problem_scope {P : Program} {w : World} {K : PySem.W.Frag} {mg : Str → Option Value} {base : Heap} (T : Txt P K mg) : FnOk P w K mg base CX0 3 T.f_Problem_scope T.fd_Problem_scope ["self", "event"] (sp_pscope T.C_Problem) := by
  refine T.F_Problem_scope.ok sc_Problem_scope (fun vs H Q E h => ?_) (fun cdv A outer s H vs Q E hr h => ?_)
  · obtain ⟨_, _, _, _, _, _, rfl, _⟩ := h; rfl
  · obtain ⟨p, F, G, L, R, r, rfl, hP, nd, hr', q⟩ := h
    have hP' := hP
    obtain ⟨dx, av, ds, dp, ae, dsc, dbt, dn, E, xs, es, hp, _, _, _, ⟨_, _, h6⟩, h7, _⟩ := hP'
    obtain ⟨qe, _, ⟨_, _, _, hsc, _⟩, v1, _⟩ := ent_of h6 nd hr'
    refine ⟨_, PSs.nox (pss_cons (ps_expr (pe_meth (pl := _) (pv 0) T.cl_Problem T.m_Problem_check_event (ok_Problem_check_event T) (hr.mono (by decide)) (b_Problem_check_event T) .nil pass0 (pa_cons (pv 1) pa_nil)))
      (pss_one (ps_ret (pe_callTy (show CallR _ _ (rListOf K) from call_list_of) (by rfl) T.n_list (by decide +kernel) (pa_cons (pe_dget (hu_of hr) (show PE _ _ (tFld K _ _) from pe_fld (pv 0) rfl) (pv 1) (fun _ _ => rfl)) pa_nil))))), ?_⟩
    have dg : DGet H dsc (.str r.1) (some (.ref qe.2.1)) := by rw [← v1]; exact DGet.k (k := Sum.inr r.1) h7
    refine ⟨_, rfl, p, dx, _, rfl, hp, pfl_no _ _ _ _ _ _ _ (by decide +kernel), _, rfl, p, F, G, L, R, r, rfl, hP, nd, hr', ?_⟩
    exact ⟨_, rfl, p, _, dx, _, _, rfl, hp, T.cl_Problem, T.na_Problem__scopes, pfl_scopes .., _, rfl, dsc, _, rfl, dg, qe.2.1, _, rfl, .inl (SqL.of hsc), q⟩

def sp_pevs (C : Addr) : Sp := fun vs H Q _ => ∃ (p : Addr) (F G : Addr → Prop) (L : List (Str × Int)) (R : List Row), vs = [.ref p] ∧ IsP C H F G p L R ∧ ∀ l, H l = none → Q (.ref l) (upd H l (.lst ((R.map (·.1)).map V.str)))
theorem ok_Problem_events {P : Program} {w : World} {K : PySem.W.Frag} {mg : Str → Option Value} {base : Heap} (T : Txt P K mg) : FnOk P w K mg base CX0 1 T.f_Problem_events T.fd_Problem_events ["self"] (sp_pevs T.C_Problem) := by
  refine T.F_Problem_events.ok sc_Problem_events (fun vs H Q E h => ?_) (fun cdv A outer s H vs Q E hr h => ?_)
  · obtain ⟨_, _, _, _, _, rfl, _⟩ := h; rfl
  · obtain ⟨p, F, G, L, R, rfl, ⟨dx, av, ds, dp, ae, dsc, dbt, dn, E, xs, es, hp, _, _, _, ⟨_, _, h6⟩, h7, _⟩, q⟩ := h
    refine ⟨_, PSs.nox (pss_one (ps_ret (pe_callTy (show CallR _ _ rListD from call_list_dK (by rfl)) (by rfl) T.n_list (by decide +kernel) (pa_cons (show PE _ _ (tFld K _ _) from pe_fld (pv 0) rfl) pa_nil)))), ?_⟩
    exact ⟨_, rfl, p, _, dx, _, _, rfl, hp, T.cl_Problem, T.na_Problem__scopes, pfl_scopes .., dsc, _, rfl, h7, fun l nl => by rw [kvS_keys h6]; exact q l nl⟩
theorem pfl_nb (av ds dp ae dsc dbt dn : Addr) : (pfl av ds dp ae dsc dbt dn).lookup ("_neighbors" : Str) = some (.ref dn) := (lookup_putF ..).trans (if_pos rfl)
theorem nb_of {H : Hp} {F : Addr → Prop} {N : List (Str × Addr)} {R R' : List Row} (h : Paired (isNb H F R') N R) (nd : (R.map (·.1)).Nodup) {r : Row} (hr : r ∈ R) : ∃ z : Str × Addr, valV (kvN N) (Sum.inr r.1) = some (.ref z.2) ∧ H z.2 = some (.lst ((nbs R' r).map V.str)) := by
  have kN : N.map (·.1) = R.map (·.1) := by
    clear nd hr
    induction h with
    | nil => rfl
    | cons r t ih => rw [List.map_cons, List.map_cons, r.1, ih]
  obtain ⟨i, hi⟩ := List.getElem?_of_mem hr
  obtain ⟨z, hz, e, _, hl⟩ := pd_get' h hi
  refine ⟨z, ?_, hl⟩
  rw [← e]
  exact val_map (fun q => q.1) (fun q => V.ref q.2) (by rw [kN]; exact nd) (List.mem_of_getElem? hz)
def sp_chkp (C : Addr) : Sp := fun vs H Q _ => ∃ (p : Addr) (F G : Addr → Prop) (L : List (Str × Int)) (R : List Row), vs = [.ref p] ∧ IsP C H F G p L R ∧ Q .non H
theorem ok_check_problem {P : Program} {w : World} {K : PySem.W.Frag} {mg : Str → Option Value} {base : Heap} (T : Txt P K mg) : FnOk P w K mg base CX0 1 T.f_check_problem T.fd_check_problem ["value"] (sp_chkp T.C_Problem) := by
  refine T.F_check_problem.ok sc_check_problem (fun vs H Q E h => ?_) (fun cdv A outer s H vs Q E hr h => ?_)
  · obtain ⟨_, _, _, _, _, rfl, _⟩ := h; rfl
  · obtain ⟨p, F, G, L, R, rfl, ⟨dx, av, ds, dp, ae, dsc, dbt, dn, E1, xs, es, hp, _⟩, q⟩ := h
    refine ⟨_, PSs.nox (pss_one (ps_if (pt_not (pt_val (pe_callB (show CallR _ _ (rIsi K) from call_isi) (by rfl) T.n_isinstance (by decide +kernel) (pa_cons (pv 0) (pa_cons (pe_glob (v := .ref T.C_Problem) (by rfl) T.g_Problem rfl) pa_nil))))) (pss_one ps_never) pss_nil)), ?_⟩
    exact ⟨_, rfl, _, _, _, _, _, rfl, .own _, T.ow_Problem.ty hp, T.ow_Problem.me, _, rfl, q⟩
theorem in_nbs {R : List Row} (nd : (R.map (·.1)).Nodup) {r s : Row} (hs : s ∈ R) : decide (s.1 ∈ nbs R r) = ((!decide (s.1 = r.1)) && share r.2.1 s.2.1) := by
  rw [← Bool.decide_coe ((!decide (s.1 = r.1)) && share r.2.1 s.2.1), decide_eq_decide]
  unfold nbs
  constructor
  · intro h
    obtain ⟨w, hw, e⟩ := List.mem_map.mp h
    obtain ⟨hw1, hw2⟩ := List.mem_filter.mp hw
    have : w = s := by
      clear h hw hw2
      induction R with
      | nil => cases hs
      | cons x R ih =>
        rw [List.map_cons, List.nodup_cons] at nd
        rcases List.mem_cons.mp hw1 with h1 | h1 <;> rcases List.mem_cons.mp hs with h2 | h2
        · rw [h1, h2]
        · exact absurd (List.mem_map.mpr ⟨s, h2, by rw [← e, h1]⟩) nd.1
        · exact absurd (List.mem_map.mpr ⟨w, h1, by rw [e, h2]⟩) nd.1
        · exact ih nd.2 h2 h1
    rw [← this]; exact hw2
  · intro h
    exact List.mem_map.mpr ⟨s, List.mem_filter.mpr ⟨hs, h⟩, rfl⟩
def adjB (r s : Row) : Bool := decide (r.1 = s.1) || share r.2.1 s.2.1
def sp_padj (C : Addr) : Sp := fun vs H Q _ => ∃ (p : Addr) (F G : Addr → Prop) (L : List (Str × Int)) (R : List Row) (r s : Row), vs = [.ref p, .str r.1, .str s.1] ∧ IsP C H F G p L R ∧ (R.map (·.1)).Nodup ∧ r ∈ R ∧ s ∈ R ∧ Q (.bl (adjB r s)) H
theorem ok_Problem_are_adjacent {P : Program} {w : World} {K : PySem.W.Frag} {mg : Str → Option Value} {base : Heap} (T : Txt P K mg) : FnOk P w K mg base CX0 3 T.f_Problem_are_adjacent T.fd_Problem_are_adjacent ["self", "one", "other"] (sp_padj T.C_Problem) := by
  refine T.F_Problem_are_adjacent.ok sc_Problem_are_adjacent (fun vs H Q E h => ?_) (fun cdv A outer s H vs Q E hr h => ?_)
  · obtain ⟨_, _, _, _, _, _, _, rfl, _⟩ := h; rfl
  · obtain ⟨p, F, G, L, R, r, w, rfl, hP, nd, hr', hw, q⟩ := h
    have hP' := hP
    obtain ⟨dx, av, ds, dp, ae, dsc, dbt, dn, E1, xs, es, hp, ⟨_, _, _, _, _, _, ⟨N, _, hN, pN⟩, _⟩, _⟩ := hP'
    refine ⟨_, PSs.nox (pss_cons (ps_expr (pe_meth (pl := _) (pv 0) T.cl_Problem T.m_Problem_check_event (ok_Problem_check_event T) (hr.mono (by decide)) (b_Problem_check_event T) .nil pass0 (pa_cons (pv 1) pa_nil)))
      (pss_cons (ps_expr (pe_meth (pl := _) (pv 0) T.cl_Problem T.m_Problem_check_event (ok_Problem_check_event T) (hr.mono (by decide)) (b_Problem_check_event T) .nil pass0 (pa_cons (pv 2) pa_nil)))
      (pss_one (ps_ret (pe_or (pe_cmpR op_eq (pv 1) (pv 2) (nomark _)) (pe_one (pe_cmpR (show OpR _ (compareOp .In) (rInA K false) from op_inA (hu_of hr)) (pv 2) (pe_dget (hu_of hr) (show PE _ _ (tFld K _ _) from pe_fld (pv 0) rfl) (pv 1) (fun _ _ => rfl)) (by first | rfl | with_unfolding_all rfl)))))))), ?_⟩
    obtain ⟨z, v1, hz⟩ := nb_of pN nd hr'
    have dg : DGet H dn (.str r.1) (some (.ref z.2)) := by rw [← v1]; exact DGet.k (k := Sum.inr r.1) hN
    refine ⟨_, rfl, p, dx, _, rfl, hp, pfl_no _ _ _ _ _ _ _ (by decide +kernel), _, rfl, p, F, G, L, R, _, rfl, hP, nd, hr', ?_⟩
    refine ⟨_, rfl, p, dx, _, rfl, hp, pfl_no _ _ _ _ _ _ _ (by decide +kernel), _, rfl, p, F, G, L, R, _, rfl, hP, nd, hw, ?_⟩
    refine ⟨_, rfl, _, rfl, rfl, _, rfl, ite2 (fun c => ?_) (fun c => ?_)⟩
    · rw [dec_vstr] at c
      unfold adjB at q
      rw [c, Bool.true_or] at q
      exact q
    · have c' : decide (r.1 = w.1) = false := by rw [← dec_vstr]; exact Bool.eq_false_iff.mpr c
      refine ⟨_, rfl, _, rfl, p, _, dx, _, _, rfl, hp, T.cl_Problem, T.na_Problem__neighbors, pfl_nb .., _, rfl, dn, _, rfl, dg, z.2, _, rfl, .inl (SqL.of hz), rfl, ?_⟩
      have e1 := in_nbs nd (r := r) hw
      have c2 : decide (w.1 = r.1) = false := decide_eq_false fun e => by rw [decide_eq_true e.symm] at c'; cases c'
      rw [c2] at e1
      show Q (.bl (inV (.str w.1) ((nbs R r).map V.str))) H
      rw [inV_str, e1]
      unfold adjB at q
      rw [c'] at q
      exact q
def sp_pbad (C : Addr) : Sp := fun vs H Q _ => ∃ (p : Addr) (F G : Addr → Prop) (L : List (Str × Int)) (R : List Row) (r : Row), vs = [.ref p, .str r.1] ∧ IsP C H F G p L R ∧ (R.map (·.1)).Nodup ∧ r ∈ R ∧
  ∀ l ys out, H l = none → Srt r.2.2 out → Paired (isTupI H G) ys out → Q (.ref l) (upd H l (.lst ys))
theorem ok_Problem_bad_tuples {P : Program} {w : World} {K : PySem.W.Frag} {mg : Str → Option Value} {base : Heap} (T : Txt P K mg) : FnOk P w K mg base CX0 3 T.f_Problem_bad_tuples T.fd_Problem_bad_tuples ["self", "event"] (sp_pbad T.C_Problem) := by
  refine T.F_Problem_bad_tuples.ok sc_Problem_bad_tuples (fun vs H Q E h => ?_) (fun cdv A outer s H vs Q E hr h => ?_)
  · obtain ⟨_, _, _, _, _, _, rfl, _⟩ := h; rfl
  · obtain ⟨p, F, G, L, R, r, rfl, hP, nd, hr', q⟩ := h
    have hP' := hP
    obtain ⟨dx, av, ds, dp, ae, dsc, dbt, dn, E, xs, es, hp, _, _, _, ⟨_, _, h6⟩, _, h8⟩ := hP'
    obtain ⟨qe, _, ⟨_, _, _, _, ys, out, hys, hs, hpd⟩, _, v2⟩ := ent_of h6 nd hr'
    refine ⟨_, PSs.nox (pss_cons (ps_expr (pe_meth (pl := _) (pv 0) T.cl_Problem T.m_Problem_check_event (ok_Problem_check_event T) (hr.mono (by decide)) (b_Problem_check_event T) .nil pass0 (pa_cons (pv 1) pa_nil)))
      (pss_one (ps_ret (pe_callTy (show CallR _ _ (rListOf K) from call_list_of) (by rfl) T.n_list (by decide +kernel) (pa_cons (pe_dget (hu_of hr) (show PE _ _ (tFld K _ _) from pe_fld (pv 0) rfl) (pv 1) (fun _ _ => rfl)) pa_nil))))), ?_⟩
    have dg : DGet H dbt (.str r.1) (some (.ref qe.2.2)) := by rw [← v2]; exact DGet.k (k := Sum.inr r.1) h8
    refine ⟨_, rfl, p, dx, _, rfl, hp, pfl_no _ _ _ _ _ _ _ (by decide +kernel), _, rfl, p, F, G, L, R, r, rfl, hP, nd, hr', ?_⟩
    exact ⟨_, rfl, p, _, dx, _, _, rfl, hp, T.cl_Problem, T.na_Problem__bad_tuples, pfl_bad .., _, rfl, dbt, _, rfl, dg, qe.2.2, _, rfl, .inl (SqL.of hys), fun l nl => q l ys out nl hs hpd⟩

end K13
namespace K13
open PySem PySem.Spec PyProof.Rows L2 TL
/-! ### equal problems, and a problem's text -/
theorem dp_strs {K : PySem.W.Frag} {H : Hp} : ∀ ns : List Str, DpAll K H (ns.map V.str) (ns.map PyData.str)
  | [] => .nil
  | n :: r => .cons (.str n) (dp_strs r)
def pairD (q : Str × Int) : PyData := .tuple [.str q.1, .int q.2]
def rowD (r : Row) : PyData := .tuple [.str r.1, .list (r.2.1.map PyData.str), .list (r.2.2.map tupD)]
theorem dp_pair {K : PySem.W.Frag} {H : Hp} {G : Addr → Prop} {x : V} {q : Str × Int} (h : isPair H G x q) : Dp K H x (pairD q) := by
  obtain ⟨t, rfl, _, h⟩ := h
  exact .tup (.inl (.inl h)) (.cons (.str _) (.cons (.int _) .nil))
theorem eqvAll_refl : ∀ {ds : List PyData}, (∀ d ∈ ds, PyData.eqv d d = true) → PyData.eqvAll ds ds = true
  | [], _ => by simp [PyData.eqvAll]
  | d :: r, h => by
    simp only [PyData.eqvAll]
    rw [h d List.mem_cons_self, eqvAll_refl fun x hx => h x (List.mem_cons_of_mem _ hx)]; rfl
theorem eqv_str (s : Str) : PyData.eqv (.str s) (.str s) = true := by simp [PyData.eqv]
theorem eqv_int (s : Int) : PyData.eqv (.int s) (.int s) = true := by simp [PyData.eqv]
theorem eqv_lst {ds : List PyData} (h : ∀ d ∈ ds, PyData.eqv d d = true) : PyData.eqv (.list ds) (.list ds) = true := by
  simp only [PyData.eqv]; exact eqvAll_refl h
theorem eqv_tp {ds : List PyData} (h : ∀ d ∈ ds, PyData.eqv d d = true) : PyData.eqv (.tuple ds) (.tuple ds) = true := by
  simp only [PyData.eqv]; exact eqvAll_refl h
theorem eqv_pair (q : Str × Int) : PyData.eqv (pairD q) (pairD q) = true := eqv_tp (allC (eqv_str _) (all1 (eqv_int _)))
theorem eqv_tupD (ns : List Int) : PyData.eqv (tupD ns) (tupD ns) = true := by rw [eqv_tup]; exact decide_eq_true rfl
theorem eqv_row (r : Row) : PyData.eqv (rowD r) (rowD r) = true := eqv_tp (allC (eqv_str _) (allC (eqv_lst fun d hd => by
  obtain ⟨s, _, rfl⟩ := List.mem_map.mp hd; exact eqv_str s) (all1 (eqv_lst fun d hd => by
  obtain ⟨s, _, rfl⟩ := List.mem_map.mp hd; exact eqv_tupD s))))
theorem eqv_map {α : Type} (f : α → PyData) (h : ∀ x, PyData.eqv (f x) (f x) = true) (l : List α) : PyData.eqv (.list (l.map f)) (.list (l.map f)) = true := eqv_lst fun d hd => by
  obtain ⟨s, _, rfl⟩ := List.mem_map.mp hd; exact h s
theorem shd_le {k j : Nat} {d : PyData} (h : Shd k d) (l : k ≤ j) : Shd j d := ⟨h.1, Nat.le_trans h.2 l⟩
theorem shd_pair {q : Str × Int} (h : NameOk q.1) : Shd 1 (pairD q) := Shd.tuple (allC (Shd.str h) (all1 (Shd.int _)))
theorem shd_vars {L : List (Str × Int)} (h : VarsOk L) : Shd 2 (.list (L.map pairD)) := Shd.list fun d hd => by
  obtain ⟨q, hq, rfl⟩ := List.mem_map.mp hd
  exact shd_pair (h.nm q hq)
theorem sub_nm {L : List (Str × Int)} (h : VarsOk L) {x : Str} (hx : x ∈ L.map (·.1)) : NameOk x := by
  obtain ⟨q, hq, rfl⟩ := List.mem_map.mp hx
  exact h.nm q hq
theorem shd_row {L : List (Str × Int)} (h : VarsOk L) {r : Row} (hr : RowOk L r) : Shd 3 (rowD r) := Shd.tuple (allC (shd_le (Shd.str hr.nm) (by decide)) (allC (shd_le (Shd.list (k := 0) fun d hd => by
  obtain ⟨s, hs, rfl⟩ := List.mem_map.mp hd; exact Shd.str (sub_nm h (hr.sub s hs))) (by decide)) (all1 (shd_tups _))))
theorem shd_rows {L : List (Str × Int)} (h : VarsOk L) {R : List Row} (hr : ∀ r ∈ R, RowOk L r) : Shd 4 (.list (R.map rowD)) := Shd.list fun d hd => by
  obtain ⟨r, hm, rfl⟩ := List.mem_map.mp hd
  exact shd_row h (hr r hm)
/-- the rows with their bad tuples in order -/
def SrtR (r s : Row) : Prop := s.1 = r.1 ∧ s.2.1 = r.2.1 ∧ Srt r.2.2 s.2.2
theorem RowOk.srt {L : List (Str × Int)} {r s : Row} (h : RowOk L r) (q : SrtR r s) : RowOk L s := by
  obtain ⟨x, sc, out⟩ := s
  obtain ⟨e1, e2, pm, _⟩ := q
  simp only at e1 e2 pm
  subst e1 e2
  exact ⟨h.nm, h.pos, h.few, h.sub, h.nd, by rw [pm.length_eq]; exact h.bfew, pm.nodup_iff.mpr h.bnd, fun ns hns => h.bl ns (pm.mem_iff.mp hns), fun ns hns => h.bv ns (pm.mem_iff.mp hns)⟩
theorem srtR_uniq {L : List (Str × Int)} (ok : VarsOk L) : ∀ {R S S' : List Row}, (∀ r ∈ R, RowOk L r) → Paired SrtR R S → Paired SrtR R S' → S = S'
  | _, _, _, _, .nil, .nil => rfl
  | r :: _, s :: _, s' :: _, h, .cons a t, .cons a' t' => by
    obtain ⟨x, sc, out⟩ := s
    obtain ⟨x', sc', out'⟩ := s'
    obtain ⟨e1, e2, e3⟩ := a
    obtain ⟨f1, f2, f3⟩ := a'
    simp only at e1 e2 e3 f1 f2 f3
    rw [e1, e2, f1, f2, Srt.uniq (row_bd ok (h r List.mem_cons_self)) e3 f3, srtR_uniq ok (fun q hq => h q (List.mem_cons_of_mem _ hq)) t t']
theorem ev_rows {H : Hp} {F G : Addr → Prop} : ∀ {es : List V} {E : List Ent} {R : List Row}, Paired (isEv H F) es E → Paired (isEnt H F G) E R → ∃ S : List Row, Paired SrtR R S ∧ Paired (isRow H F G) es S
  | _, _, _, .nil, .nil => ⟨[], .nil, .nil⟩
  | _, q :: _, r :: _, .cons ⟨t, e, f, ht⟩ u, .cons ⟨e1, f1, f2, hsc, ys, out, hys, hs, hpd⟩ u' => by
    obtain ⟨S, p1, p2⟩ := ev_rows u u'
    exact ⟨(r.1, r.2.1, out) :: S, .cons ⟨rfl, rfl, hs⟩ p1, .cons ⟨t, q.2.1, q.2.2, ys, e, f, by rw [← e1]; exact ht, ⟨f1, .inl hsc⟩, ⟨f2, .inl hys⟩, hpd⟩ p2⟩
/-- a row of lists -/
def isRowL (H : Hp) (F G : Addr → Prop) (x : V) (r : Row) : Prop := ∃ p a b ys, x = .ref p ∧ H p = some (.tup [.str r.1, .ref a, .ref b]) ∧ H a = some (.lst (r.2.1.map V.str)) ∧ H b = some (.lst ys) ∧ Paired (isTupI H G) ys r.2.2
theorem ev_rowsL {H : Hp} {F G : Addr → Prop} : ∀ {es : List V} {E : List Ent} {R : List Row}, Paired (isEv H F) es E → Paired (isEnt H F G) E R → ∃ S : List Row, Paired SrtR R S ∧ Paired (isRowL H F G) es S
  | _, _, _, .nil, .nil => ⟨[], .nil, .nil⟩
  | _, q :: _, r :: _, .cons ⟨t, e, f, ht⟩ u, .cons ⟨e1, f1, f2, hsc, ys, out, hys, hs, hpd⟩ u' => by
    obtain ⟨S, p1, p2⟩ := ev_rowsL u u'
    exact ⟨(r.1, r.2.1, out) :: S, .cons ⟨rfl, rfl, hs⟩ p1, .cons ⟨t, q.2.1, q.2.2, ys, e, by rw [← e1]; exact ht, hsc, hys, hpd⟩ p2⟩
theorem dp_row {K : PySem.W.Frag} {H : Hp} {F G : Addr → Prop} {x : V} {r : Row} (h : isRowL H F G x r) : Dp K H x (rowD r) := by
  obtain ⟨p, a, b, ys, rfl, hp, ha, hb, hpd⟩ := h
  exact .tup (.inl (.inl hp)) (.cons (.str _) (.cons (.lst (SqL.of ha) (dp_strs _)) (.cons (.lst (SqL.of hb) (dp_all (fun _ _ z => dp_tup z) hpd)) .nil)))
/-! ### equality of problems -/
theorem eqvAll_mapI {α : Type} [DecidableEq α] (f : α → PyData) (hf : ∀ x y, PyData.eqv (f x) (f y) = decide (x = y)) : ∀ l l' : List α, PyData.eqvAll (l.map f) (l'.map f) = decide (l = l')
  | [], [] => by simp [PyData.eqvAll]
  | [], _ :: _ => by simp [PyData.eqvAll]
  | _ :: _, [] => by simp [PyData.eqvAll]
  | x :: l, y :: l' => by
    simp only [List.map_cons, PyData.eqvAll]
    rw [hf x y, eqvAll_mapI f hf l l']
    by_cases h : x = y
    · subst h; simp
    · rw [decide_eq_false h, Bool.false_and]
      symm
      exact decide_eq_false fun e => h (List.cons.inj e).1
theorem eqv_mapI {α : Type} [DecidableEq α] (f : α → PyData) (hf : ∀ x y, PyData.eqv (f x) (f y) = decide (x = y)) (l l' : List α) : PyData.eqv (.list (l.map f)) (.list (l'.map f)) = decide (l = l') := by
  simp only [PyData.eqv]
  exact eqvAll_mapI f hf l l'
theorem eqv_s2 (a b : Str) : PyData.eqv (.str a) (.str b) = decide (a = b) := by
  simp only [PyData.eqv]
  by_cases h : a = b
  · subst h; simp
  · rw [decide_eq_false h]; simpa using h
theorem eqv_i2 (a b : Int) : PyData.eqv (.int a) (.int b) = decide (a = b) := by
  simp only [PyData.eqv]
  by_cases h : a = b
  · subst h; simp
  · rw [decide_eq_false h]; simpa using h
theorem eqv_pair2 (q q' : Str × Int) : PyData.eqv (pairD q) (pairD q') = decide (q = q') := by
  obtain ⟨a, i⟩ := q
  obtain ⟨b, j⟩ := q'
  unfold pairD
  rw [show PyData.eqv (.tuple [.str a, .int i]) (.tuple [.str b, .int j]) = (PyData.eqv (.str a) (.str b) && (PyData.eqv (.int i) (.int j) && true)) from rfl, eqv_s2, eqv_i2, Bool.and_true]
  by_cases h1 : a = b
  · by_cases h2 : i = j
    · subst h1 h2; simp
    · rw [decide_eq_false h2, Bool.and_false]; symm; exact decide_eq_false fun e => h2 (Prod.mk.inj e).2
  · rw [decide_eq_false h1, Bool.false_and]; symm; exact decide_eq_false fun e => h1 (Prod.mk.inj e).1
theorem eqv_row2 (r r' : Row) : PyData.eqv (rowD r) (rowD r') = decide (r = r') := by
  obtain ⟨a, s, b⟩ := r
  obtain ⟨a', s', b'⟩ := r'
  unfold rowD
  rw [show ∀ x y z x' y' z' : PyData, PyData.eqv (.tuple [x, y, z]) (.tuple [x', y', z']) = (PyData.eqv x x' && (PyData.eqv y y' && (PyData.eqv z z' && true))) from fun _ _ _ _ _ _ => rfl, eqv_s2, eqv_mapI PyData.str eqv_s2, eqv_mapI tupD eqv_tup, Bool.and_true]
  by_cases h1 : a = a'
  · by_cases h2 : s = s'
    · by_cases h3 : b = b'
      · subst h1 h2 h3; simp
      · rw [decide_eq_false h3, Bool.and_false, Bool.and_false]; symm; exact decide_eq_false fun e => h3 (Prod.mk.inj (Prod.mk.inj e).2).2
    · rw [decide_eq_false h2, Bool.false_and, Bool.and_false]; symm; exact decide_eq_false fun e => h2 (Prod.mk.inj (Prod.mk.inj e).2).1
  · rw [decide_eq_false h1, Bool.false_and]; symm; exact decide_eq_false fun e => h1 (Prod.mk.inj e).1
theorem okS {L : List (Str × Int)} {R S : List Row} (o : EvsOk L R) (k : Paired SrtR R S) : ∀ s ∈ S, RowOk L s := fun s hs => by
  obtain ⟨i, hi⟩ := List.getElem?_of_mem hs
  obtain ⟨r, hr', z⟩ := pd_get' k hi
  exact (o.ok r (List.mem_of_getElem? hr')).srt z
def sp_peq (K : PySem.W.Frag) (C : Addr) : Sp := fun vs H Q _ => ∃ (p : Addr) (y : V) (F G : Addr → Prop) (L : List (Str × Int)) (R S : List Row), vs = [.ref p, y] ∧ IsP C H F G p L R ∧ VarsOk L ∧ EvsOk L R ∧ Paired SrtR R S ∧
  ((∃ (p' : Addr) (F' G' : Addr → Prop) (L' : List (Str × Int)) (R' S' : List Row), y = .ref p' ∧ IsP C H F' G' p' L' R' ∧ VarsOk L' ∧ EvsOk L' R' ∧ Paired SrtR R' S' ∧ Q (.bl (decide (L = L') && decide (S = S'))) H) ∨
   (∃ t, TyX K H y t ∧ PySem.W.kitOne K t (.ref C) = some false ∧ Q (.bl false) H))
theorem ok_Problem_eq {P : Program} {w : World} {K : PySem.W.Frag} {mg : Str → Option Value} {base : Heap} (T : Txt P K mg) : FnOk P w K mg base CX0 1 T.f_Problem_eq T.fd_Problem_eq ["self", "other"] (sp_peq K T.C_Problem) := by
  refine T.F_Problem_eq.ok sc_Problem_eq (fun vs H Q E h => ?_) (fun cdv A outer s H vs Q E hr h => ?_)
  · obtain ⟨_, _, _, _, _, _, _, rfl, _⟩ := h; rfl
  · obtain ⟨p, y, F, G, L, R, S, rfl, ⟨dx, av, ds, dp, ae, dsc, dbt, dn, E1, xs, es, hp, _, ⟨h1, h2⟩, _, ⟨h4, h5, h6⟩, _⟩, okL, okR, hS, q⟩ := h
    refine ⟨_, PSs.nox (pss_one (ps_ret (pe_and (pe_callB (show CallR _ _ (rIsi K) from call_isi) (by rfl) T.n_isinstance (by decide +kernel) (pa_cons (pv 1) (pa_cons (pe_glob (v := .ref T.C_Problem) (by rfl) T.g_Problem rfl) pa_nil))) (pe_and (pe_cmpR (show OpR _ (compareOp .Eq) (rEqD K) from op_eqD hr.units) (show PE _ _ (tFld K _ _) from pe_fld (pv 0) rfl) (show PE _ _ (tFld K _ _) from pe_fld (pv 1) rfl) (nomark _)) (pe_one (pe_cmpR (show OpR _ (compareOp .Eq) (rEqD K) from op_eqD hr.units) (show PE _ _ (tFld K _ _) from pe_fld (pv 0) rfl) (show PE _ _ (tFld K _ _) from pe_fld (pv 1) rfl) (nomark _))))))), ?_⟩
    rcases q with ⟨p', F', G', L', R', S', rfl, ⟨dx', av', ds', dp', ae', dsc', dbt', dn', E1', xs', es', hp', _, ⟨h1', h2'⟩, _, ⟨h4', h5', h6'⟩, _⟩, okL', okR', hS', q⟩ | ⟨t, ty, k, q⟩
    · refine ⟨_, rfl, _, _, _, _, _, rfl, .own _, T.ow_Problem.ty hp', T.ow_Problem.me, _, rfl, ?_⟩
      refine ⟨_, rfl, p, _, dx, _, _, rfl, hp, T.cl_Problem, T.na_Problem__variables, pfl_variables .., _, rfl, p', _, dx', _, _, rfl, hp', T.cl_Problem, T.na_Problem__variables, pfl_variables .., .list (L.map pairD), .list (L'.map pairD), .lst (SqL.of h1) (dp_all (fun _ _ z => dp_pair z) h2), .lst (SqL.of h1') (dp_all (fun _ _ z => dp_pair z) h2'), (shd_vars okL).shaped (by decide), (shd_vars okL').shaped (by decide), _, rfl, ?_⟩
      rw [eqv_mapI pairD eqv_pair2]
      obtain ⟨T1, k1, k2⟩ := ev_rowsL h5 h6
      obtain ⟨T2, k1', k2'⟩ := ev_rowsL h5' h6'
      have e1 := srtR_uniq okL okR.ok k1 hS
      have e2 := srtR_uniq okL' okR'.ok k1' hS'
      subst e1 e2
      by_cases hL : L = L'
      · rw [decide_eq_true hL] at q ⊢
        refine iteT ⟨_, rfl, p, _, dx, _, _, rfl, hp, T.cl_Problem, T.na_Problem__events, pfl_events .., _, rfl, p', _, dx', _, _, rfl, hp', T.cl_Problem, T.na_Problem__events, pfl_events .., .list (T1.map rowD), .list (T2.map rowD), .lst (SqL.of h4) (dp_all (fun _ _ z => dp_row z) k2), .lst (SqL.of h4') (dp_all (fun _ _ z => dp_row z) k2'), (shd_rows okL (okS okR k1)).shaped (by decide), (shd_rows okL' (okS okR' k1')).shaped (by decide), ?_⟩
        rw [eqv_mapI rowD eqv_row2]
        rw [Bool.true_and] at q
        exact q
      · rw [decide_eq_false hL] at q ⊢
        refine iteF ?_
        rw [Bool.false_and] at q
        exact q
    · exact ⟨_, rfl, _, _, t, _, _, rfl, .own _, ty, k, _, rfl, q⟩
/-! ### texts of data -/
theorem cp_name {x : Str} (h : NameOk x) : CpOk x := fun c hc => by
  have := (h.2.2 c hc).2
  exact Nat.lt_of_le_of_lt this (by decide)
theorem okd_name {x : Str} (h : NameOk x) : OkD 82 0 (.str x) := okd_str (n := 8) (cp_name h) (by rw [len_tl]; exact h.2.1)
theorem dx_map {K : PySem.W.Frag} {H : Hp} {α : Type} {F : V → α → Prop} {B k : Nat} : ∀ {xs : List V} {ys : List α}, Paired F xs ys → (∀ x y, F x y → y ∈ ys → ∃ d, Dx K H x d ∧ OkD B k d) → ∃ ds, DxAll K H xs ds ∧ ∀ d ∈ ds, OkD B k d
  | _, _, .nil, _ => ⟨[], .nil, fun _ h => by cases h⟩
  | _, _, .cons r t, h => by
    obtain ⟨d, h1, h2⟩ := h _ _ r List.mem_cons_self
    obtain ⟨ds, h3, h4⟩ := dx_map t fun x y f hy => h x y f (List.mem_cons_of_mem _ hy)
    exact ⟨d :: ds, .cons h1 h3, allC h2 h4⟩
theorem dxAll_len {K : PySem.W.Frag} {H : Hp} : ∀ {xs : List V} {ds : List PyData}, DxAll K H xs ds → ds.length = xs.length
  | _, _, .nil => rfl
  | _, _, .cons _ t => congrArg (· + 1) (dxAll_len t)
theorem dx_lt {K : PySem.W.Frag} {H : Hp} {a : Addr} {xs : List V} {ds : List PyData} {B k m : Nat} (h : H a = some (.lst xs) ∨ H a = some (.tup xs)) (hd : DxAll K H xs ds) (ho : ∀ d ∈ ds, OkD B k d) (l : xs.length ≤ m) :
    ∃ d, Dx K H (.ref a) d ∧ OkD (m * (B + 2) + 3) (k + 1) d := by
  have le : ds.length ≤ m := by rw [dxAll_len hd]; exact l
  rcases h with h | h
  · exact ⟨_, .lst (SqL.of h) hd, okd_list ho le⟩
  · exact ⟨_, .tup (.inl (.inl h)) hd, okd_tuple ho le⟩
theorem dx_pair {K : PySem.W.Frag} {H : Hp} {G : Addr → Prop} {x : V} {q : Str × Int} (h : isPair H G x q) (n : NameOk q.1) (i : 1 ≤ q.2 ∧ q.2 ≤ 6) : ∃ d, Dx K H x d ∧ OkD 1009 1 d := by
  obtain ⟨t, rfl, _, h⟩ := h
  exact ⟨_, .tup (.inl (.inl h)) (.cons (.str _) (.cons (.int _) .nil)), okd_tuple (B := 501) (k := 0) (m := 2) (allC ((okd_name n).mono (by decide) (by decide)) (all1 (okd_int (by omega)))) (Nat.le_refl _)⟩
theorem dx_tup {K : PySem.W.Frag} {H : Hp} {G : Addr → Prop} {x : V} {ns : List Int} (h : isTupI H G x ns) (l : ns.length ≤ 4) (b : TS.Bd 6 ns) : ∃ d, Dx K H x d ∧ OkD 2015 1 d := by
  obtain ⟨t, rfl, _, h⟩ := h
  obtain ⟨ds, h1, h2⟩ := dx_map (K := K) (H := H) (F := fun v (i : Int) => v = .int i) (B := 501) (k := 0) (pd_map V.int (l := ns) fun _ _ => rfl) fun x i e hi => by
    subst e
    have := b i hi
    exact ⟨_, .int i, okd_int (by omega)⟩
  exact dx_lt (.inr h) h1 h2 (by rw [List.length_map]; exact l)
theorem dx_row {K : PySem.W.Frag} {L : List (Str × Int)} {H : Hp} {F G : Addr → Prop} {x : V} {r : Row} (ok : VarsOk L) (h : isRow H F G x r) (hr : RowOk L r) : ∃ d, Dx K H x d ∧ OkD 72630 3 d := by
  obtain ⟨p, a, b, ys, rfl, _, hp, ⟨_, la⟩, ⟨_, lb⟩, pd⟩ := h
  have x4 := hr.few
  have x12 := hr.bfew
  obtain ⟨ds, h1, h2⟩ := dx_map (K := K) (H := H) (F := fun v (i : Str) => v = .str i) (B := 82) (k := 0) (pd_map V.str (l := r.2.1) fun _ _ => rfl) fun x i e hi => by
    subst e
    exact ⟨_, .str i, okd_name (sub_nm ok (hr.sub i hi))⟩
  obtain ⟨d1, u1, v1⟩ := dx_lt la h1 h2 (m := 4) (by rw [List.length_map]; exact x4)
  obtain ⟨ds2, h3, h4⟩ := dx_map (K := K) (H := H) (B := 2015) (k := 1) pd fun x ns z hz => by
    obtain ⟨l, bd⟩ := row_bd ok hr ns hz
    exact dx_tup z (by omega) bd
  obtain ⟨d2, u2, v2⟩ := dx_lt lb h3 h4 (m := 12) (by rw [pd.length]; exact x12)
  exact ⟨_, .tup (.inl (.inl hp)) (.cons (.str _) (.cons u1 (.cons u2 .nil))), okd_tuple (B := 24207) (k := 2) (m := 3) (allC ((okd_name hr.nm).mono (by decide) (by decide)) (allC (v1.mono (by decide) (by decide)) (all1 (v2.mono (by decide) (by decide))))) (Nat.le_refl _)⟩
theorem dx_vars {K : PySem.W.Frag} {L : List (Str × Int)} {H : Hp} {G : Addr → Prop} {a : Addr} {xs : List V} (ok : VarsOk L) (h : H a = some (.lst xs) ∨ H a = some (.tup xs)) (pd : Paired (isPair H G) xs L) : ∃ d, Dx K H (.ref a) d ∧ OkD 8091 2 d := by
  obtain ⟨ds, h1, h2⟩ := dx_map (K := K) pd fun x q z hz => dx_pair z (ok.nm q hz) (ok.sz q hz)
  exact dx_lt h h1 h2 (m := 8) (by rw [pd.length]; exact ok.few)
theorem dx_evs {K : PySem.W.Frag} {L : List (Str × Int)} {H : Hp} {F G : Addr → Prop} {a : Addr} {xs : List V} {R : List Row} (ok : VarsOk L) (h : H a = some (.lst xs) ∨ H a = some (.tup xs)) (pd : Paired (isRow H F G) xs R) (n : R.length ≤ 8) (okR : ∀ r ∈ R, RowOk L r) : ∃ d, Dx K H (.ref a) d ∧ OkD 581059 4 d := by
  obtain ⟨ds, h1, h2⟩ := dx_map (K := K) pd fun x q z hz => dx_row ok z (okR q hz)
  exact dx_lt h h1 h2 (m := 8) (by rw [pd.length]; exact n)

end K13
namespace K13
open PySem PySem.Spec PyProof.Rows L2 TL
/-! ### as shapes -/
abbrev sVar : Sh (Str × Int) := sP sStr sInt
abbrev sBad : Sh (List (List Int)) := sL (sT sInt)
abbrev sRow : Sh Row := s3 sStr (sL sStr) sBad
theorem mem1 {a b : Addr} : a ∉ [b] ↔ a ≠ b := by simp
theorem Fr.stp {b : Addr} {H H' : Hp} (f : Fr b H H') (h : ∃ o, H' b = some o) : Stp [b] H H' := fun a o e => by
  by_cases eb : a = b
  · subst eb; exact ⟨h, fun n => absurd List.mem_cons_self n⟩
  · exact ⟨⟨o, f a o eb e⟩, fun _ => f a o eb e⟩
theorem frS {b : Addr} {H H' : Hp} (f : Stp [b] H H') : Fr b H H' := fun a o n e => f.at e (mem1.mpr n)
theorem Bag.off {b : Addr} {n : Nat} {H H' : Hp} (h : Bag H b n) (k : ∀ o, H b = Option.some o → H' b = Option.some o) : Bag H' b n := by
  obtain ⟨x, y, z, e, r⟩ := h
  exact ⟨x, y, z, k _ e, r⟩
theorem Bag.stp {b : Addr} {m : List Addr} {n : Nat} {H H' : Hp} (h : Bag H b n) (s : Stp m H H') (nb : b ∉ m) : Bag H' b n := Bag.off h fun o e => s.at e nb
theorem map_snoc {α β : Type} (f : α → β) {l : List α} {i : Nat} (h : i < l.length) : (l.take (i + 1)).map f = (l.take i).map f ++ [f l[i]] := by
  rw [take_snoc h, List.map_append]; rfl
theorem wipe_at {σ : L2.St} {i : Nat} {x : Option L2.V} : ∀ L : List Nat, (L2.wipe (σ.set i x) L).set i none = (L2.wipe σ L).set i none
  | [] => by rw [L2.wipe, L2.wipe, List.set_set]
  | a :: L => by
    rw [L2.wipe, L2.wipe]
    by_cases e : a = i
    · rw [e, List.set_set, List.set_set]; exact wipe_at L
    · rw [List.set_comm _ _ e, List.set_comm _ _ e, wipe_at L]
theorem wipe_in {σ : L2.St} {i : Nat} {x : Option L2.V} : ∀ {L : List Nat}, i ∈ L → L2.wipe (σ.set i x) L = L2.wipe σ L
  | [], h => by cases h
  | a :: L, h => by
    rw [L2.wipe, L2.wipe]
    by_cases e : i = a
    · rw [← e]; exact wipe_at L
    · rw [wipe_in (List.mem_of_ne_of_mem e h)]
theorem ixn {m i : Nat} (h : i < m) : ixN m (i : Int) = some i := by
  unfold ixN
  rw [if_pos (by omega), if_pos (by omega)]
  show some (i : Int).toNat = some i
  rw [Int.toNat_natCast]
theorem isD_row : ShD sRow rowD := ⟨fun h => (isD_3 isD_str (isD_L isD_str) (isD_L (isD_T isD_int))).dp h, fun h => (isD_3 isD_str (isD_L isD_str) (isD_L (isD_T isD_int))).dx h⟩
theorem take_map_snoc {α β : Type} (f : α → β) {l : List α} {i : Nat} {x : α} (h : l[i]? = some x) : (l.take (i + 1)).map f = (l.take i).map f ++ [f x] := by
  obtain ⟨li, e⟩ := List.getElem?_eq_some_iff.mp h
  rw [map_snoc f li, e]
/-! ### a problem as a shape -/
theorem isPair.gen {H H' : Hp} {G G' : Addr → Prop} {x : V} {q : Str × Int} (h : isPair H G x q) (k : ∀ a o, G a → H a = some o → H' a = some o ∧ G' a) : isPair H' G' x q := by
  obtain ⟨t, e, g, h⟩ := h
  exact ⟨t, e, (k _ _ g h).2, (k _ _ g h).1⟩
theorem isTupI.gen {H H' : Hp} {G G' : Addr → Prop} {x : V} {q : List Int} (h : isTupI H G x q) (k : ∀ a o, G a → H a = some o → H' a = some o ∧ G' a) : isTupI H' G' x q := by
  obtain ⟨t, e, g, h⟩ := h
  exact ⟨t, e, (k _ _ g h).2, (k _ _ g h).1⟩
theorem IsP.gen {C : Addr} {H H' : Hp} {F F' G G' : Addr → Prop} {p : Addr} {L : List (Str × Int)} {R : List Row} (h : IsP C H F G p L R) (k : ∀ a o, F a → H a = some o → H' a = some o ∧ F' a) (k' : ∀ a xs, G a → H a = some (.tup xs) → H' a = some (.tup xs) ∧ G' a) : IsP C H' F' G' p L R := by
  obtain ⟨dx, av, ds, dp, ae, dsc, dbt, dn, E, xs, es, hp, ⟨f1, f2, f3, f4, f5, f6, ⟨N2, h9⟩, h10, h11⟩, ⟨h1, h2⟩, h3, ⟨h4, h5, h6⟩, h7, h8⟩ := h
  refine ⟨dx, av, ds, dp, ae, dsc, dbt, dn, E, xs, es, (k _ _ f1 hp).1, ⟨(k _ _ f1 hp).2, (k _ _ f2 h1).2, (k _ _ f3 h3).2, (k _ _ f4 h4).2, (k _ _ f5 h7).2, (k _ _ f6 h8).2, ⟨N2, (k _ _ h9.1 h9.2.1).2, (k _ _ h9.1 h9.2.1).1, Paired.mono (fun _ _ z => ⟨z.1, (k _ _ z.2.1 z.2.2).2, (k _ _ z.2.1 z.2.2).1⟩) h9.2.2⟩, (k _ _ h10 h11).2, (k _ _ h10 h11).1⟩,
    ⟨(k _ _ f2 h1).1, Paired.mono (fun x q z => ?_) h2⟩, (k _ _ f3 h3).1, ⟨(k _ _ f4 h4).1, Paired.mono (fun x q z => ?_) h5, Paired.mono (fun x q z => ?_) h6⟩, (k _ _ f5 h7).1, (k _ _ f6 h8).1⟩
  · obtain ⟨t, e, g, h⟩ := z
    exact ⟨t, e, (k' _ _ g h).2, (k' _ _ g h).1⟩
  · obtain ⟨t, e, g, h⟩ := z
    exact ⟨t, e, (k _ _ g h).2, (k _ _ g h).1⟩
  · obtain ⟨e, g1, g2, e1, ys, out, e2, s, pd⟩ := z
    refine ⟨e, (k _ _ g1 e1).2, (k _ _ g2 e2).2, (k _ _ g1 e1).1, ys, out, (k _ _ g2 e2).1, s, Paired.mono (fun x q z => ?_) pd⟩
    obtain ⟨t, e, g, h⟩ := z
    exact ⟨t, e, (k' _ _ g h).2, (k' _ _ g h).1⟩
abbrev Parts := List (Str × Int) × List Row
def sProb (C : Addr) : Sh Parts := ⟨fun W H v x => ∃ p, v = .ref p ∧ IsP C H W W p x.1 x.2, fun ⟨p, e, h⟩ k => ⟨p, e, h.gen (fun a o w e => k a o w e) fun a xs w e => k a _ w e⟩⟩
abbrev sRowQ : Sh Row := s3 sStr (sQ sStr) (sQ (sT sInt))
abbrev sParts : Sh Parts := sLP (sL sVar) (sL sRow)
theorem Sh.rowQ {M : List Addr} {H : Hp} {v : V} {r : Row} (h : sRow.at M H v r) : sRowQ.at M H v r := by
  obtain ⟨t, i, j, l, e, n, h, h1, h2, h3⟩ := h
  exact ⟨t, i, j, l, e, n, h, h1, Sh.sq h2, Sh.sq h3⟩
theorem pd_isRow {M : List Addr} {H : Hp} : ∀ {v : V} {r : Row}, sRowQ.at M H v r → isRow H (fun a => a ∉ M) (fun a => a ∉ M) v r := by
  rintro v r ⟨t, i, j, l, e, n, h, h1, ⟨a, vs, ea, na, ha, pa⟩, ⟨c, ws, ec, nc, hc, pc⟩⟩
  cases h1; subst ea ec
  rw [pd_isStrs pa] at ha
  exact ⟨t, a, c, ws, e, n, h, ⟨na, ha⟩, ⟨nc, hc⟩, Paired.mono (fun x q z => by
    obtain ⟨t, e, n, h⟩ := Sh.tints z
    exact ⟨t, e, n, h⟩) pc⟩
theorem pd_isVar {M : List Addr} {H : Hp} {v : V} {q : Str × Int} (h : sVar.at M H v q) : isPair H (fun a => a ∉ M) v q := by
  obtain ⟨t, i, j, e, n, h, h1, h2⟩ := h
  cases h1; cases h2
  exact ⟨t, e, n, h⟩
/-- what M holds are lists -/
def AlvL (M : List Addr) (H : Hp) : Prop := ∀ a ∈ M, ∃ zs, H a = some (.lst zs)
theorem AlvL.alv {M : List Addr} {H : Hp} (h : AlvL M H) : Alv M H := fun a ha => (h a ha).elim fun zs e => ⟨_, e⟩
theorem AlvL.cons {M : List Addr} {H : Hp} {a : Addr} {zs : List V} (e : H a = some (.lst zs)) (h : AlvL M H) : AlvL (a :: M) H := fun x hx => (List.mem_cons.mp hx).elim (fun h => ⟨zs, by rw [h]; exact e⟩) (h x)
theorem AlvL.nil {H : Hp} : AlvL [] H := fun _ h => by cases h
theorem mkPs {K : PySem.W.Frag} {C : Addr} {H : Hp} {M : List Addr} {Post : Addr → Hp → Prop} {E : XK} {va ve : V} {L : List (Str × Int)} {R : List Row} {vs dvs : List V} (alM : AlvL M H) (hA : (sQ sVar).at M H va L) (okL : VarsOk L) (hE : (sQ sRowQ).at M H ve R) (okR : EvsOk L R)
    (q : ∀ p H', Same H H' → H p = none → (sProb C).at M H' (.ref p) (L, R) → Post p H') (hv : vs ++ dvs = [va, ve] := by rfl) :
    ∀ x dx, H x = none → H dx = none → dx ≠ x → sp_pinit K C (.ref x :: (vs ++ dvs)) (upd (upd H dx (.own x)) x (.ins C dx [])) (fun v H2 => v = .non ∧ Post x H2) E := by
  intro x dx nx ndx ne
  rw [hv]
  obtain ⟨a, xs, ea, na, ha, pa⟩ := hA
  obtain ⟨e, ys, ee, nE, he, pe⟩ := hE
  subst ea ee
  have SqA : Sq K H a xs := ha.imp id .inl
  have SqE : Sq K H e ys := he.imp id .inl
  refine ⟨H, x, dx, a, e, xs, ys, L, R, rfl, upd_same, nx, Same.upd_p (Same.new ndx) nx, SqA, Paired.mono (fun _ _ z => (pd_isVar z).old) pa, okL, SqE, Paired.mono (fun _ _ z => (pd_isRow z).old) pe, okR, fun H' s hP => ⟨rfl, q x H' s nx ⟨x, rfl, hP.gen (fun a o n e => ⟨e, fun hm => ?_⟩) fun a zs n e => ⟨e, fun hm => ?_⟩⟩⟩⟩
  · obtain ⟨zs, hz⟩ := alM a hm
    rw [show H a = none from n] at hz; cases hz
  · obtain ⟨zs', hz⟩ := alM a hm
    rw [s _ _ hz] at e; cases e
/-- an own list F, new since H, one item more -/
theorem app_L {α : Type} {s : Sh α} {m M : List Addr} {H H2 : Hp} {F : Addr} {v : V} {x : α} {vs : List V} {xs : List α} (nF : H F = none) (st : Stp m H H2) (pd : Paired (s.at (F :: M) H2) vs xs) (hz : s.at (F :: M) H2 v x) :
    Stp m H (upd H2 F (.lst (vs ++ [v]))) ∧ Paired (s.at (F :: M) (upd H2 F (.lst (vs ++ [v])))) (vs ++ [v]) (xs ++ [x]) := by
  have sp : Stp [F] H2 (upd H2 F (.lst (vs ++ [v]))) := Stp.put (by simp)
  have sb : Sb [F] (F :: M) H2 := Sb.mem List.mem_cons_self Sb.nil
  exact ⟨st.putN nF, psnoc (Sh.gos pd sp sb Sb.refl) (Sh.go hz sp sb Sb.refl)⟩
theorem pd_isRowS {M : List Addr} {H : Hp} {v : V} {r : Row} (h : sRow.at M H v r) : isRowS H (fun a => a ∉ M) (fun a => a ∉ M) v r := by
  obtain ⟨t, i, j, l, e, n, h, h1, h2, ⟨c, ws, ec, nc, hc, pc⟩⟩ := h
  cases h1
  obtain ⟨a, ea, na, ha⟩ := Sh.strs h2
  subst ea ec
  exact ⟨t, a, c, ws, e, n, h, ⟨na, ha⟩, ⟨nc, hc⟩, Paired.mono (fun x q z => by
    obtain ⟨t, e, n, h⟩ := Sh.tints z
    exact ⟨t, e, n, h⟩) pc⟩
theorem Sh.all {α : Type} {s : Sh α} {M : List Addr} {H : Hp} {v : V} {x : α} (h : s.at M H v x) : s.at [] H v x := s.mv h fun a o _ e => ⟨e, by simp⟩
theorem Sh.rowsQ {M : List Addr} {H : Hp} {v : V} {R : List Row} (h : (sL sRow).at M H v R) : (sQ sRowQ).at M H v R := by
  obtain ⟨a, vs, e, n, h, p⟩ := h
  exact ⟨a, vs, e, n, .inl h, Paired.mapP p fun _ _ z => Sh.rowQ z⟩
theorem isRowL.same {H H' : Hp} {F G : Addr → Prop} {x : V} {r : Row} (h : isRowL H F G x r) (s : Same H H') : isRowL H' F G x r := by
  obtain ⟨p, a, b, ys, e, h1, h2, h3, h4⟩ := h
  exact ⟨p, a, b, ys, e, s _ _ h1, s _ _ h2, s _ _ h3, Paired.mono (fun _ _ z => isTupI.same z s) h4⟩
theorem eqv_two (a b c d : PyData) : PyData.eqv (.list [a, b]) (.list [c, d]) = (PyData.eqv a c && PyData.eqv b d) := by
  rw [show PyData.eqv (.list [a, b]) (.list [c, d]) = (PyData.eqv a c && (PyData.eqv b d && true)) from rfl, Bool.and_true]
theorem IsP.ins {C : Addr} {H : Hp} {F G : Addr → Prop} {p : Addr} {L : List (Str × Int)} {R : List Row} (h : IsP C H F G p L R) : ∃ dx fs, H p = some (.ins C dx fs) := by
  obtain ⟨dx, av, ds, dp, ae, dsc, dbt, dn, E, xs, es, hp, _⟩ := h
  exact ⟨dx, _, hp⟩
theorem IsP.srt {C : Addr} {H : Hp} {F G : Addr → Prop} {p : Addr} {L : List (Str × Int)} {R : List Row} (h : IsP C H F G p L R) : ∃ S : List Row, Paired SrtR R S := by
  obtain ⟨dx, av, ds, dp, ae, dsc, dbt, dn, E, xs, es, hp, f, ⟨h1, h2⟩, h3, ⟨h4, h5, h6⟩, h7, h8⟩ := h
  obtain ⟨S, k1, _⟩ := ev_rowsL h5 h6
  exact ⟨S, k1⟩
theorem IsP.at' {C : Addr} {H : Hp} {F G : Addr → Prop} {p : Addr} {L : List (Str × Int)} {R : List Row} (h : IsP C H F G p L R) : ∃ dx fs, H p = some (.ins C dx fs) ∧ ∀ m : Str, ([("_neighbors" : Str), "_bad_tuples", "_scopes", "_events", "_places", "_sizes", "_variables"].all fun k => decide (¬ m = k)) = true → fs.lookup m = none := by
  obtain ⟨dx, av, ds, dp, ae, dsc, dbt, dn, E, xs, es, hp, _⟩ := h
  exact ⟨dx, _, hp, fun m hm => pfl_no _ _ _ _ _ _ _ hm⟩

end K13
namespace K13
open PySem PySem.Spec PyProof.Rows L2 TL
theorem idx_val : ∀ (l : List Str) (k : Nat) (x : Str), x ∈ l → valV ((l.zipIdx k).map fun z => ((Sum.inr z.1 : Key), V.int ((z.2 : Nat) : Int))) (Sum.inr x) = some (.int ((k + l.idxOf x : Nat) : Int))
  | y :: r, k, x, h => by
    rw [List.zipIdx_cons, List.map_cons]
    by_cases e : y = x
    · subst e
      rw [valV_pos rfl, List.idxOf_cons_self]; rfl
    · rw [valV_neg (fun z => e (Sum.inr.inj z))]
      have hr : x ∈ r := (List.mem_cons.mp h).elim (fun z => absurd z.symm e) id
      rw [idx_val r (k + 1) x hr]
      have : (y :: r).idxOf x = r.idxOf x + 1 := by rw [List.idxOf_cons, beq_eq_false_iff_ne.mpr e]; rfl
      rw [this]
      congr 2
      omega
def placeOf (L : List (Str × Int)) (x : Str) : Nat := (L.map (·.1)).idxOf x
theorem kvP_val {L : List (Str × Int)} {x : Str} (h : x ∈ L.map (·.1)) : valV (kvP L) (Sum.inr x) = some (.int ((placeOf L x : Nat) : Int)) := by
  have := idx_val (L.map (·.1)) 0 x h
  rw [Nat.zero_add] at this
  exact this
theorem placeOf_lt {L : List (Str × Int)} {x : Str} (h : x ∈ L.map (·.1)) : placeOf L x < L.length := by
  have := List.idxOf_lt_length_of_mem h
  rw [List.length_map] at this
  exact this
/-- the values of a scope in an assignment -/
def restr (L : List (Str × Int)) (ns : List Int) (sc : List Str) : List Int := sc.map fun x => (ns[placeOf L x]?).getD 0
/-- whether a value is an assignment -/
def AsgRes (K : PySem.W.Frag) (H : Hp) (L : List (Str × Int)) (v : V) (b : Bool) : Prop := (∃ ty, TyX K H v ty ∧ PySem.W.kitOne K ty (.type "tuple") = some false ∧ b = false) ∨
  ∃ t ws, v = .ref t ∧ H t = some (.tup ws) ∧ (∀ x ∈ ws, (∃ i, x = .int i) ∨ NotI K H x) ∧ b = valsB ws (L.map (·.2))
theorem AsgRes.same {K : PySem.W.Frag} {H H' : Hp} {L : List (Str × Int)} {v : V} {b : Bool} (h : AsgRes K H L v b) (s : Same H H') : AsgRes K H' L v b := by
  rcases h with ⟨ty, h1, h2, h3⟩ | ⟨t, ws, e, h1, h2, h3⟩
  · exact .inl ⟨ty, TyX.same h1 s, h2, h3⟩
  · exact .inr ⟨t, ws, e, s _ _ h1, fun x hx => (h2 x hx).imp id fun z => z.same s, h3⟩
theorem zip_ints : ∀ {ws : List V} {zs : List Int}, ws.length = zs.length → ((ws.zip zs).all fun z => inI 0 (z.2 - 1) z.1) = true → ∃ ns : List Int, ws = ns.map V.int ∧ ns.length = zs.length
  | [], [], _, _ => ⟨[], rfl, rfl⟩
  | [], _ :: _, h, _ => by simp at h
  | _ :: _, [], h, _ => by simp at h
  | w :: ws, z :: zs, h, k => by
    rw [List.zip_cons_cons, List.all_cons] at k
    obtain ⟨a, b⟩ := Bool.and_eq_true_iff.mp k
    obtain ⟨ns, e1, e2⟩ := zip_ints (ws := ws) (zs := zs) (by simpa using h) b
    cases w with
    | int i => exact ⟨i :: ns, by rw [e1]; rfl, by rw [List.length_cons, List.length_cons, e2]⟩
    | _ => cases a
theorem valsB_ints {ws : List V} {zs : List Int} (h : valsB ws zs = true) : ∃ ns : List Int, ws = ns.map V.int ∧ ns.length = zs.length := by
  unfold valsB at h
  obtain ⟨h1, h2⟩ := Bool.and_eq_true_iff.mp h
  exact zip_ints (of_decide_eq_true h1) h2
def sp_pisasg (K : PySem.W.Frag) (C : Addr) : Sp := fun vs H Q _ => ∃ (p : Addr) (F G : Addr → Prop) (L : List (Str × Int)) (R : List Row) (v : V) (b : Bool), vs = [.ref p, v] ∧ IsP C H F G p L R ∧ L.length ≤ 8 ∧ AsgRes K H L v b ∧ ∀ H', Same H H' → Q (.bl b) H'
theorem ok_Problem_is_assignment {P : Program} {w : World} {K : PySem.W.Frag} {mg : Str → Option Value} {base : Heap} (T : Txt P K mg) : FnOk P w K mg base CX0 4 T.f_Problem_is_assignment T.fd_Problem_is_assignment ["self", "value"] (sp_pisasg K T.C_Problem) := by
  refine T.F_Problem_is_assignment.ok sc_Problem_is_assignment (fun vs H Q E h => ?_) (fun cdv A outer s H vs Q E hr h => ?_)
  · obtain ⟨_, _, _, _, _, _, _, rfl, _⟩ := h; rfl
  · obtain ⟨p, F, G, L, R, v, b, rfl, ⟨dx, av, ds, dp, ae, dsc, dbt, dn, E, xs, es, hp, _, _, hds, _⟩, l8, hb, q⟩ := h
    refine ⟨_, PSs.nox (pss_one (ps_ret (pe_call (ok__are_values T) (hr.mono (by decide)) (by rfl) T.g__are_values T.F__are_values.kp (b__are_values T) .nil pass0 (pa_cons (pv 1) (pa_cons (show PE _ _ (tListVals _) from pe_listVals (by rfl) (show PE _ _ (tFld K _ _) from pe_fld (pv 0) rfl) (by rfl) T.n_list (by decide +kernel)) pa_nil))))), ?_⟩
    refine ⟨_, rfl, _, rfl, p, _, dx, _, _, rfl, hp, T.cl_Problem, T.na_Problem__sizes, pfl_sizes .., ds, kvL L, rfl, hds, fun z nz => ?_⟩
    have sz := Same.new (o := .lst ((kvL L).map (·.2))) nz
    have ez : (kvL L).map (·.2) = (L.map (·.2)).map V.int := by unfold kvL; rw [List.map_map, List.map_map]; rfl
    have hz : upd H z (.lst ((kvL L).map (·.2))) z = some (.lst ((L.map (·.2)).map V.int)) := by rw [upd_same, ez]
    generalize upd H z (.lst ((kvL L).map (·.2))) = H1 at sz hz
    have hb1 := hb.same sz
    refine ⟨v, z, L.map (·.2), rfl, hz, by rw [List.length_map]; exact l8, ?_⟩
    rcases hb1 with ⟨ty, h1, h2, rfl⟩ | ⟨t, ws, rfl, h1, h2, rfl⟩
    · exact .inl ⟨ty, h1, h2, q _ sz⟩
    · exact .inr ⟨t, ws, rfl, h1, h2, fun H2 s2 => q _ (sz.trans s2)⟩
def sp_pchka (K : PySem.W.Frag) (C : Addr) : Sp := fun vs H Q _ => ∃ (p : Addr) (F G : Addr → Prop) (L : List (Str × Int)) (R : List Row) (v : V), vs = [.ref p, v] ∧ IsP C H F G p L R ∧ L.length ≤ 8 ∧ AsgRes K H L v true ∧ (∀ H', Same H H' → Q .non H')
theorem ok_Problem_check_assignment {P : Program} {w : World} {K : PySem.W.Frag} {mg : Str → Option Value} {base : Heap} (T : Txt P K mg) : FnOk P w K mg base CX0 5 T.f_Problem_check_assignment T.fd_Problem_check_assignment ["self", "value"] (sp_pchka K T.C_Problem) := by
  refine T.F_Problem_check_assignment.ok sc_Problem_check_assignment (fun vs H Q E h => ?_) (fun cdv A outer s H vs Q E hr h => ?_)
  · obtain ⟨_, _, _, _, _, _, rfl, _⟩ := h; rfl
  · obtain ⟨p, F, G, L, R, v, rfl, hP, l8, hb, q1⟩ := h
    have hP' := hP
    obtain ⟨dx, av, ds, dp, ae, dsc, dbt, dn, E1, xs, es, hp, _⟩ := hP'
    refine ⟨_, PSs.nox (pss_one (ps_if (pt_not (pt_val (pe_meth (pl := _) (pv 0) T.cl_Problem T.m_Problem_is_assignment (ok_Problem_is_assignment T) (hr.mono (by decide)) (b_Problem_is_assignment T) .nil pass0 (pa_cons (pv 1) pa_nil)))) (pss_one ps_never) pss_nil)), ?_⟩
    refine ⟨_, rfl, p, dx, _, rfl, hp, pfl_no _ _ _ _ _ _ _ (by decide +kernel), _, rfl, p, F, G, L, R, v, true, rfl, hP, l8, hb, fun H1 s1 => ?_⟩
    exact ⟨_, rfl, q1 H1 s1⟩
/-- a problem whose dicts stand, read or locked -/
def IsQ (C : Addr) (H : Hp) (p : Addr) (L : List (Str × Int)) (R : List Row) : Prop := ∃ (dx av ds dp ae dsc dbt dn : Addr) (E : List Ent) (F G : Addr → Prop), H p = some (.ins C dx (pfl av ds dp ae dsc dbt dn)) ∧ Rd H dsc (.dK (kvS E)) ∧ Rd H dbt (.dK (kvB E)) ∧ Rd H dp (.dK (kvP L)) ∧ Paired (isEnt H F G) E R
theorem pfl_places (av ds dp ae dsc dbt dn : Addr) : (pfl av ds dp ae dsc dbt dn).lookup ("_places" : Str) = some (.ref dp) := by
  unfold pfl
  iterate 4 refine (lookup_putF ..).trans ((if_neg (by decide +kernel)).trans ?_)
  exact (lookup_putF ..).trans (if_pos rfl)
theorem IsP.q {C : Addr} {H : Hp} {F G : Addr → Prop} {p : Addr} {L : List (Str × Int)} {R : List Row} (h : IsP C H F G p L R) : IsQ C H p L R := by
  obtain ⟨dx, av, ds, dp, ae, dsc, dbt, dn, E, xs, es, hp, ⟨_, _, _, _, _, _, _, _, hpl⟩, _, _, ⟨_, _, h6⟩, h7, h8⟩ := h
  exact ⟨dx, av, ds, dp, ae, dsc, dbt, dn, E, F, G, hp, .inl h7, .inl h8, .inl hpl, h6⟩
theorem Rd.same {H H' : Hp} {a : Addr} {u : HO} (h : Rd H a u) (s : Same H H') : Rd H' a u := h.imp (fun e => s _ _ e) fun ⟨o, e⟩ => ⟨o, s _ _ e⟩
theorem dget_rd {H : Hp} {d : Addr} {kvs : List (Key × V)} {x : Str} {v : V} (h : Rd H d (.dK kvs)) (e : valV kvs (Sum.inr x) = some v) : DGet H d (.str x) (some v) := .inl ⟨kvs, Sum.inr x, h, rfl, e.symm⟩
def sp_pisbad (C : Addr) : Sp := fun vs H Q _ => ∃ (p t : Addr) (L : List (Str × Int)) (R : List Row) (r : Row) (ns : List Int), vs = [.ref p, .str r.1, .ref t] ∧ IsQ C H p L R ∧ VarsOk L ∧ EvsOk L R ∧ r ∈ R ∧ H t = some (.tup (ns.map V.int)) ∧ ns.length = L.length ∧
  ∀ H', Same H H' → Q (.bl (decide (restr L ns r.2.1 ∈ r.2.2))) H'
theorem ok_Problem_is_bad {P : Program} {w : World} {K : PySem.W.Frag} {mg : Str → Option Value} {base : Heap} (T : Txt P K mg) : FnOk P w K mg base CX0 1 T.f_Problem_is_bad T.fd_Problem_is_bad ["self", "event", "assignment"] (sp_pisbad T.C_Problem) := by
  refine T.F_Problem_is_bad.ok sc_Problem_is_bad (fun vs H Q E h => ?_) (fun cdv A outer s H vs Q E hr h => ?_)
  · obtain ⟨_, _, _, _, _, _, rfl, _⟩ := h; rfl
  · obtain ⟨p, t, L, R, r, ns, rfl, ⟨dx, av, ds, dp, ae, dsc, dbt, dn, E, F, G, hp, h7, h8, hpl, h6⟩, okL, okR, hr', ht, ln, q⟩ := h
    obtain ⟨qe, _, ⟨_, _, _, hsc, bs, out, hbs, srt, pout⟩, v1, v2⟩ := ent_of h6 okR.nd hr'
    have rok := okR.ok r hr'
    have r4 := rok.few
    have l8 := okL.few
    refine ⟨_, PSs.nox (pss_cons (ps_set (i := 3) sc_Problem_is_bad.nd rfl (Or.inl rfl) (pe_callTy (show CallR _ _ (rTupOf K) from call_tuple_of) (by rfl) T.n_tuple (by decide +kernel) (pa_cons (pe_lc (own := [("variable", 4)]) (g := gName 4) rfl sc_Problem_is_bad.nd (pi_list (pe_dget (hu_of hr) (show PE _ _ (tFld K _ _) from pe_fld (pv 0) rfl) (pv 1) (fun _ _ => rfl))) (blkOk_by (own := [("variable", 4)]) (N := N_Problem_is_bad) (sc := defScope s_Problem_is_bad) (by decide +kernel)) (fun _ _ _ _ _ => (pg_name (i := 4) sc_Problem_is_bad.nd rfl (Or.inl rfl))) (fun _ _ _ _ _ => pts_nil) (fun _ _ _ _ _ => (pe_ix (show IxR _ (rIxT K) from ix_tup) (pv 2) (pe_dget (hu_of hr) (show PE _ _ (tFld K _ _) from pe_fld (pv 0) rfl) (pv 4) (fun _ _ => rfl)) (fun _ _ => rfl)))) pa_nil)))
      (pss_one (ps_ret (pe_cmpR (show OpR _ (compareOp .In) (rInD K) from op_inD (hu65 hr)) (pv 3) (pe_dget (hu_of hr) (show PE _ _ (tFld K _ _) from pe_fld (pv 0) rfl) (pv 1) (fun _ _ => rfl)) (by first | rfl | with_unfolding_all rfl))))), ?_⟩
    refine ⟨_, rfl, p, _, dx, _, _, rfl, hp, T.cl_Problem, T.na_Problem__scopes, pfl_scopes .., _, rfl, dsc, _, rfl, dget_rd h7 v1, qe.2.1, rfl, ⟨_, SqL.of hsc⟩, fun D nD => ?_⟩
    refine lc_it (walk_list (K := K) (a := qe.2.1) (xs := r.2.1.map V.str)) (fun j H' => H' D = some (.lst ((restr L ns (r.2.1.take j)).map V.int)) ∧ Same H H') ⟨upd_same, Same.new nD⟩ (fun j H' _ h => SqL.of (h.2 _ _ hsc)) ?_ ?_
    · rintro j x H1 H2 hj ⟨k1, k2⟩ ⟨rfl, hx⟩
      obtain ⟨lj, rfl⟩ := str_at' hx
      have mx := rok.sub _ (List.getElem_mem lj)
      have lp := placeOf_lt mx
      rw [← ln] at lp
      have hat : atI (ns.map V.int) ((placeOf L r.2.1[j] : Nat) : Int) = some (.int ns[placeOf L r.2.1[j]]) := atI_nat (by rw [List.getElem?_map, List.getElem?_eq_getElem lp]; rfl)
      refine ⟨rfl, _, rfl, _, rfl, p, _, dx, _, _, rfl, k2 _ _ hp, T.cl_Problem, T.na_Problem__places, pfl_places .., _, rfl, dp, _, rfl, dget_rd (Rd.same hpl k2) (kvP_val mx), t, _, _, _, rfl, rfl, .inl (.inl (k2 _ _ ht)), hat, ?_⟩
      refine ⟨_, k1, by unfold restr; rw [List.length_map, List.length_map, List.length_take, sizeLine_eq]; omega, ?_, Same.upd_p k2 nD⟩
      rw [upd_same, take_snoc lj]
      unfold restr
      rw [List.map_append, List.map_append, List.map_cons, List.getElem?_eq_getElem lp]
      rfl
    rintro H1 ⟨hD, s1⟩
    rw [List.length_map, List.take_length] at hD
    refine ⟨D, _, rfl, .inl ⟨SqL.of hD, fun u nu => ?_⟩⟩
    have s2 := s1.trans (Same.new (o := .tup ((restr L ns r.2.1).map V.int)) nu)
    have hu : upd H1 u (.tup ((restr L ns r.2.1).map V.int)) u = some (.tup ((restr L ns r.2.1).map V.int)) := upd_same
    generalize upd H1 u (.tup ((restr L ns r.2.1).map V.int)) = H2 at s2 hu
    refine ⟨_, rfl, _, rfl, p, _, dx, _, _, rfl, s2 _ _ hp, T.cl_Problem, T.na_Problem__bad_tuples, pfl_bad .., _, rfl, dbt, _, rfl, dget_rd (Rd.same h8 s2) v2, tupD (restr L ns r.2.1), out.map tupD, dp_tup (G := fun _ => True) ⟨u, rfl, trivial, hu⟩, .lst (SqL.of (s2 _ _ hbs)) (dp_all (fun _ _ z => dp_tup (isTupI.same z s2)) pout), (shd_tup _).shaped (by decide), (shd_tups _).shaped (by decide), ?_⟩
    rw [any_tups]
    have e : decide (restr L ns r.2.1 ∈ out) = decide (restr L ns r.2.1 ∈ r.2.2) := by rw [decide_eq_decide]; exact srt.1.mem_iff
    rw [e]
    exact q H2 s2

end K13
namespace K13
open PySem PySem.Spec PyProof.Rows L2 TL
/-! ### what is an event, what occurs -/
/-- a value that is no event -/
def NoEv (K : PySem.W.Frag) (H : Hp) (R : List Row) (v : V) : Prop := (∃ x : Str, v = .str x ∧ x ∉ R.map (·.1)) ∨ ∃ t, TyX K H v t ∧ PySem.W.kitOne K t (.type "str") = some false
def sp_pisev (K : PySem.W.Frag) (C : Addr) : Sp := fun vs H Q _ => ∃ (p : Addr) (F G : Addr → Prop) (L : List (Str × Int)) (R : List Row) (v : V), vs = [.ref p, v] ∧ IsP C H F G p L R ∧ (R.map (·.1)).Nodup ∧
  ((∃ r, r ∈ R ∧ v = .str r.1 ∧ Q (.bl true) H) ∨ (NoEv K H R v ∧ Q (.bl false) H))
theorem ok_Problem_is_event2 {P : Program} {w : World} {K : PySem.W.Frag} {mg : Str → Option Value} {base : Heap} (T : Txt P K mg) : FnOk P w K mg base CX0 1 T.f_Problem_is_event T.fd_Problem_is_event ["self", "value"] (sp_pisev K T.C_Problem) := by
  refine T.F_Problem_is_event.ok sc_Problem_is_event (fun vs H Q E h => ?_) (fun cdv A outer s H vs Q E hr h => ?_)
  · obtain ⟨_, _, _, _, _, _, rfl, _⟩ := h; rfl
  · obtain ⟨p, F, G, L, R, v, rfl, ⟨dx, av, ds, dp, ae, dsc, dbt, dn, E, xs, es, hp, _, _, _, ⟨_, _, h6⟩, h7, _⟩, nd, q⟩ := h
    refine ⟨_, PSs.nox (pss_one (ps_ret (pe_and (pe_callB (show CallR _ _ (rIsi K) from call_isi) (by rfl) T.n_isinstance (by decide +kernel) (pa_cons (pv 1) (pa_cons (pe_bltn (v := .ty "str") (by rfl) T.n_str (by decide +kernel) rfl) pa_nil))) (pe_one (pe_cmp (pc_din (hu_of hr) (pv 1) (show PE _ _ (tFld K _ _) from pe_fld (pv 0) rfl))))))), ?_⟩
    rcases q with ⟨r, hr', rfl, q⟩ | ⟨⟨x, rfl, hx⟩ | ⟨t, ty, kk⟩, q⟩
    · obtain ⟨qe, _, _, v1, _⟩ := ent_of h6 nd hr'
      have dg : DGet H dsc (.str r.1) (some (.ref qe.2.1)) := by rw [← v1]; exact DGet.k (k := Sum.inr r.1) h7
      exact ⟨_, rfl, _, _, _, _, _, rfl, .ty _, .base (.str _), kit_ss, _, rfl, _, rfl, _, rfl, p, _, dx, _, _, rfl, hp, T.cl_Problem, T.na_Problem__scopes, pfl_scopes .., dsc, _, rfl, dg, q⟩
    · have hn := val_none (l := E) (f := fun q => q.1) (g := fun q => V.ref q.2.1) (x := x) (by rw [ent_keys h6]; exact hx)
      have dg : DGet H dsc (.str x) none := by rw [← hn]; exact DGet.k (k := Sum.inr x) h7
      exact ⟨_, rfl, _, _, _, _, _, rfl, .ty _, .base (.str _), kit_ss, _, rfl, _, rfl, _, rfl, p, _, dx, _, _, rfl, hp, T.cl_Problem, T.na_Problem__scopes, pfl_scopes .., dsc, _, rfl, dg, q⟩
    · exact ⟨_, rfl, _, _, t, _, _, rfl, .ty _, ty, kk, _, rfl, q⟩
theorem NoEv.same {K : PySem.W.Frag} {H H' : Hp} {R : List Row} {v : V} (h : NoEv K H R v) (s : Same H H') : NoEv K H' R v := h.imp id fun ⟨t, a, b⟩ => ⟨t, TyX.same a s, b⟩
/-- what occurs in an assignment -/
def bad1 (L : List (Str × Int)) (ns : List Int) (r : Row) : Bool := decide (restr L ns r.2.1 ∈ r.2.2)
def sp_poccurs (K : PySem.W.Frag) (C : Addr) : Sp := fun vs H Q _ => ∃ (p t : Addr) (F G : Addr → Prop) (L : List (Str × Int)) (R : List Row) (r : Row) (ns : List Int), vs = [.ref p, .str r.1, .ref t] ∧ IsP C H F G p L R ∧ VarsOk L ∧ EvsOk L R ∧ r ∈ R ∧
  H t = some (.tup (ns.map V.int)) ∧ valsB (ns.map V.int) (L.map (·.2)) = true ∧ ∀ H', Same H H' → Q (.bl (bad1 L ns r)) H'
theorem ok_Problem_occurs {P : Program} {w : World} {K : PySem.W.Frag} {mg : Str → Option Value} {base : Heap} (T : Txt P K mg) : FnOk P w K mg base CX0 6 T.f_Problem_occurs T.fd_Problem_occurs ["self", "event", "assignment"] (sp_poccurs K T.C_Problem) := by
  refine T.F_Problem_occurs.ok sc_Problem_occurs (fun vs H Q E h => ?_) (fun cdv A outer s H vs Q E hr h => ?_)
  · obtain ⟨_, _, _, _, _, _, _, _, rfl, _⟩ := h; rfl
  · obtain ⟨p, t, F, G, L, R, r, ns, rfl, hP, okL, okR, hr', ht, hv, q⟩ := h
    have hP' := hP
    obtain ⟨dx, av, ds, dp, ae, dsc, dbt, dn, E1, xs, es, hp, _⟩ := hP'
    have l8 := okL.few
    refine ⟨_, PSs.nox (pss_cons (ps_expr (pe_meth (pl := _) (pv 0) T.cl_Problem T.m_Problem_check_event (ok_Problem_check_event T) (hr.mono (by decide)) (b_Problem_check_event T) .nil pass0 (pa_cons (pv 1) pa_nil)))
      (pss_cons (ps_expr (pe_meth (pl := _) (pv 0) T.cl_Problem T.m_Problem_check_assignment (ok_Problem_check_assignment T) (hr.mono (by decide)) (b_Problem_check_assignment T) .nil pass0 (pa_cons (pv 2) pa_nil)))
      (pss_one (ps_ret (pe_meth (pl := _) (pv 0) T.cl_Problem T.m_Problem_is_bad (ok_Problem_is_bad T) (hr.mono (by decide)) (b_Problem_is_bad T) .nil pass0 (pa_cons (pv 1) (pa_cons (pv 2) pa_nil))))))), ?_⟩
    refine ⟨_, rfl, p, dx, _, rfl, hp, pfl_no _ _ _ _ _ _ _ (by decide +kernel), _, rfl, p, F, G, L, R, r, rfl, hP, okR.nd, hr', ?_⟩
    refine ⟨_, rfl, p, dx, _, rfl, hp, pfl_no _ _ _ _ _ _ _ (by decide +kernel), _, rfl, ?_⟩
    refine ⟨p, F, G, L, R, .ref t, rfl, hP, l8, .inr ⟨t, _, rfl, ht, (fun x hx => by obtain ⟨i, _, rfl⟩ := List.mem_map.mp hx; exact .inl ⟨i, rfl⟩), hv.symm⟩, (fun H1 s1 => ?_)⟩
    obtain ⟨ns', e1, e2⟩ := valsB_ints hv
    have ln : ns.length = L.length := by
      have := congrArg List.length e1
      rw [List.length_map, List.length_map] at this
      rw [this, e2, List.length_map]
    refine ⟨_, rfl, p, dx, _, rfl, s1 _ _ hp, pfl_no _ _ _ _ _ _ _ (by decide +kernel), _, rfl, _, rfl, p, t, L, R, r, ns, rfl, (hP.same s1).q, okL, okR, hr', s1 _ _ ht, ln, fun H2 s2 => q H2 (s1.trans s2)⟩

end K13
namespace K13
open PySem PySem.Spec PyProof.Rows L2 TL
/-! ### a joint assignment of two events -/
/-- the value that a list of pairs gives a name, or another -/
def getP (l : List (Str × Int)) (x : Str) (d : Int) : Int := ((l.find? fun q => decide (q.1 = x)).map (·.2)).getD d
def agr (r s : Row) (v m : List Int) : Bool := (s.2.1.zip m).all fun q => decide (getP (r.2.1.zip v) q.1 q.2 = q.2)
def jn (L : List (Str × Int)) (r s : Row) (v m : List Int) : List Int := L.map fun q => getP (s.2.1.zip m) q.1 (getP (r.2.1.zip v) q.1 0)
def joint (L : List (Str × Int)) (r s : Row) (vs ms : List (List Int)) : Option (List Int) := if adjB r s then vs.findSome? fun v => (ms.find? (agr r s v)).map (jn L r s v) else none
theorem nd_at {l : List Str} (nd : l.Nodup) {i j : Nat} {x : Str} (hi : l[i]? = some x) (hj : l[j]? = some x) : i = j := by
  obtain ⟨la, ea⟩ := List.getElem?_eq_some_iff.mp hi
  obtain ⟨lb, eb⟩ := List.getElem?_eq_some_iff.mp hj
  have p := List.pairwise_iff_getElem.mp (List.nodup_iff_pairwise_ne.mp nd)
  rcases Nat.lt_trichotomy i j with h | h | h
  · exact absurd (ea.trans eb.symm) (p i j la lb h)
  · exact h
  · exact absurd (eb.trans ea.symm) (p j i lb la h)
theorem put_zip {sc : List Str} {ns : List Int} (nd : sc.Nodup) {i : Nat} {x : Str} {k : Int} (hx : sc[i]? = some x) (hk : ns[i]? = some k) : putK (kvL ((sc.zip ns).take i)) (Sum.inr x) (.int k) = kvL ((sc.zip ns).take (i + 1)) := by
  have hz : (sc.zip ns)[i]? = some (x, k) := List.getElem?_zip_eq_some.mpr ⟨hx, hk⟩
  have e := merge_new [((Sum.inr x : Key), V.int k)] (kvL ((sc.zip ns).take i)) (by simp) (fun y hy hm => by
    have ey : y = Sum.inr x := by simpa using hy
    subst ey
    rw [kvL_keys] at hm
    obtain ⟨x', hm, ex⟩ := List.mem_map.mp hm
    cases ex
    obtain ⟨q, hq, eq⟩ := List.mem_map.mp hm
    obtain ⟨j, hj⟩ := List.getElem?_of_mem hq
    have lj : j < i := by
      have := (List.getElem?_eq_some_iff.mp hj).1
      rw [List.length_take] at this; omega
    rw [List.getElem?_take_of_lt lj] at hj
    have hj1 := (List.getElem?_zip_eq_some.mp (show (sc.zip ns)[j]? = some (q.1, q.2) from hj)).1
    rw [eq] at hj1
    have := nd_at nd hj1 hx
    omega)
  rw [show putK (kvL ((sc.zip ns).take i)) (Sum.inr x) (.int k) = mergeK (kvL ((sc.zip ns).take i)) [((Sum.inr x : Key), V.int k)] from rfl, e]
  unfold kvL
  rw [take_map_snoc (fun q : Str × Int => ((Sum.inr q.1 : Key), V.int q.2)) hz]
theorem pd_of_map {α β γ : Type} {R : α → γ → Prop} {f : β → γ} : ∀ {l : List α} {m : List β}, Paired R l (m.map f) → Paired (fun a b => R a (f b)) l m
  | [], [], _ => .nil
  | _ :: _, [], h => by cases h
  | [], _ :: _, h => by cases h
  | _ :: _, _ :: _, h => by
    cases h with
    | cons a b => exact .cons a (pd_of_map b)
theorem getP_val (l : List (Str × Int)) (x : Str) (d : Int) : ((l.find? fun q => decide (q.1 = x)).map fun q => V.int q.2).getD (V.int d) = V.int (getP l x d) := by
  unfold getP
  cases l.find? fun q => decide (q.1 = x) <;> rfl
theorem rEq_int {a : V} {i j : Int} {H : Hp} {Q : VK} (e : a = V.int i) (q : Q (.bl (decide (i = j))) H) : rEq a (.int j) H Q := by
  subst e
  refine ⟨rfl, ?_⟩
  rw [dec_int, show (i == j) = decide (i = j) by rw [Bool.eq_iff_iff]; simp]
  exact q
theorem zip_off {sc : List Str} {ns : List Int} (nd : sc.Nodup) {i : Nat} {x : Str} (hx : sc[i]? = some x) : x ∉ ((sc.zip ns).take i).map (·.1) := fun hm => by
  obtain ⟨q, hq, eq⟩ := List.mem_map.mp hm
  obtain ⟨j, hj⟩ := List.getElem?_of_mem hq
  have lj : j < i := by
    have := (List.getElem?_eq_some_iff.mp hj).1
    rw [List.length_take] at this; omega
  rw [List.getElem?_take_of_lt lj] at hj
  have hj1 := (List.getElem?_zip_eq_some.mp (show (sc.zip ns)[j]? = some (q.1, q.2) from hj)).1
  rw [eq] at hj1
  have := nd_at nd hj1 hx
  omega
theorem getP_snoc {l : List (Str × Int)} {z : Str × Int} (n : z.1 ∉ l.map (·.1)) (x : Str) (d : Int) : getP (l ++ [z]) x d = if x = z.1 then z.2 else getP l x d := by
  unfold getP
  rw [List.find?_append]
  by_cases e : x = z.1
  · subst e
    rw [if_pos rfl, List.find?_eq_none.mpr fun q hq h => n (List.mem_map.mpr ⟨q, hq, of_decide_eq_true h⟩)]
    simp
  · rw [if_neg e, show ([z].find? fun q => decide (q.1 = x)) = none by simp [show ¬ z.1 = x from fun h => e h.symm], Option.or_none]
theorem findSome_at {α β : Type} {f : α → Option β} {y : β} : ∀ {l : List α} {i : Nat} {x : α}, l[i]? = some x → (∀ z ∈ l.take i, f z = none) → f x = some y → l.findSome? f = some y
  | [], _, _, h, _, _ => by simp at h
  | a :: l, 0, x, h, _, hf => by
    cases h
    rw [List.findSome?_cons, hf]
  | a :: l, i + 1, x, h, hn, hf => by
    rw [List.findSome?_cons, hn a (by simp)]
    exact findSome_at (l := l) (i := i) (by simpa using h) (fun z hz => hn z (by rw [List.take_succ_cons]; exact List.mem_cons_of_mem _ hz)) hf
theorem find_at {α : Type} {f : α → Bool} : ∀ {l : List α} {i : Nat} {x : α}, l[i]? = some x → (∀ z ∈ l.take i, f z = false) → f x = true → l.find? f = some x
  | [], _, _, h, _, _ => by simp at h
  | a :: l, 0, x, h, _, hf => by
    cases h
    rw [List.find?_cons, hf]
  | a :: l, i + 1, x, h, hn, hf => by
    rw [List.find?_cons, hn a (by simp)]
    exact find_at (l := l) (i := i) (by simpa using h) (fun z hz => hn z (by rw [List.take_succ_cons]; exact List.mem_cons_of_mem _ hz)) hf
def sp_joint (K : PySem.W.Frag) (C : Addr) : Sp := fun vs H Q _ => ∃ (p : Addr) (F G : Addr → Prop) (L : List (Str × Int)) (R : List Row) (r s : Row), vs = [.ref p, .str r.1, .str s.1] ∧ IsP C H F G p L R ∧ VarsOk L ∧ EvsOk L R ∧ r ∈ R ∧ s ∈ R ∧
  ∀ o1 o2 H', Srt r.2.2 o1 → Srt s.2.2 o2 → Same H H' → (joint L r s o1 o2 = none → Q .non H') ∧ ∀ ns t, joint L r s o1 o2 = some ns → H t = none → H' t = some (.tup (ns.map V.int)) → Q (.ref t) H'
theorem ok__joint_assignment {P : Program} {w : World} {K : PySem.W.Frag} {mg : Str → Option Value} {base : Heap} (T : Txt P K mg) : FnOk P w K mg base CX0 4 T.f__joint_assignment T.fd__joint_assignment ["problem", "one", "other"] (sp_joint K T.C_Problem) := by
  refine T.F__joint_assignment.ok sc__joint_assignment (fun vs H Q E h => ?_) (fun cdv A outer s H vs Q E hr h => ?_)
  · obtain ⟨_, _, _, _, _, _, _, rfl, _⟩ := h; rfl
  · obtain ⟨p, F, G, L, R, r, w, rfl, hP, okL, okR, hr', hw, q⟩ := h
    have l8 := okL.few
    obtain ⟨o1, sr1⟩ : ∃ o1, Srt r.2.2 o1 := by
      obtain ⟨dx, av, ds, dp, ae, dsc, dbt, dn, E1, xs, es, hp, _, _, _, ⟨_, _, h6⟩, _⟩ := id hP
      obtain ⟨qe, _, ⟨_, _, _, _, ys, out, hys, hs, hpd⟩, _, _⟩ := ent_of h6 okR.nd hr'
      exact ⟨out, hs⟩
    obtain ⟨o2, sr2⟩ : ∃ o2, Srt w.2.2 o2 := by
      obtain ⟨dx, av, ds, dp, ae, dsc, dbt, dn, E1, xs, es, hp, _, _, _, ⟨_, _, h6⟩, _⟩ := id hP
      obtain ⟨qe, _, ⟨_, _, _, _, ys, out, hys, hs, hpd⟩, _, _⟩ := ent_of h6 okR.nd hw
      exact ⟨out, hs⟩
    have rok := okR.ok r hr'
    have wok := okR.ok w hw
    have bd1 : ∀ ns ∈ r.2.2, ns.length = r.2.1.length ∧ TS.Bd 6 ns := row_bd okL rok
    have bd2 : ∀ ns ∈ w.2.2, ns.length = w.2.1.length ∧ TS.Bd 6 ns := row_bd okL wok
    refine ⟨_, PSs.nox (pss_cons (ps_if (pt_not (pt_val (pe_meth (pl := _) (pv 0) T.cl_Problem T.m_Problem_are_adjacent (ok_Problem_are_adjacent T) (hr.mono (by decide)) (b_Problem_are_adjacent T) .nil pass0 (pa_cons (pv 1) (pa_cons (pv 2) pa_nil))))) (pss_one (ps_ret pe_non)) pss_nil)
      (pss_cons (ps_for PassesOwn.never rfl (pi_list (pe_meth (pl := _) (pv 0) T.cl_Problem T.m_Problem_bad_tuples (ok_Problem_bad_tuples T) (hr.mono (by decide)) (b_Problem_bad_tuples T) .nil pass0 (pa_cons (pv 1) pa_nil))) (pg_name (i := 3) sc__joint_assignment.nd rfl (Or.inl rfl)) (pss_cons (ps_set (i := 6) sc__joint_assignment.nd rfl (Or.inr rfl) (pe_dc (own := [("variable", 4), ("value", 5)]) (g := gTup K 2 (gCons (gName 4) (gCons (gName 5) gNil))) rfl sc__joint_assignment.nd (pi_zipN (by rfl) T.n_zip (pa_cons (pe_meth (pl := _) (pv 0) T.cl_Problem T.m_Problem_scope (ok_Problem_scope T) (hr.mono (by decide)) (b_Problem_scope T) .nil pass0 (pa_cons (pv 1) pa_nil)) (pa_cons (pv 3) pa_nil))) (blkOk_by (own := [("variable", 4), ("value", 5)]) (N := N__joint_assignment) (sc := defScope s__joint_assignment) (by decide +kernel)) (fun _ _ _ _ _ => (pg_tup rfl (pgs_cons (pg_name (i := 4) sc__joint_assignment.nd rfl (Or.inl rfl)) (pgs_cons (pg_name (i := 5) sc__joint_assignment.nd rfl (Or.inl rfl)) pgs_nil)))) (fun _ _ _ _ _ => pts_nil) (fun _ _ _ _ _ => (pv 4)) (fun _ _ _ _ _ => (pv 5))))
      (pss_one (ps_for PassesOwn.never rfl (pi_list (pe_meth (pl := _) (pv 0) T.cl_Problem T.m_Problem_bad_tuples (ok_Problem_bad_tuples T) (hr.mono (by decide)) (b_Problem_bad_tuples T) .nil pass0 (pa_cons (pv 2) pa_nil))) (pg_name (i := 7) sc__joint_assignment.nd rfl (Or.inl rfl)) (pss_cons (ps_set (i := 8) sc__joint_assignment.nd rfl (Or.inl rfl) (show PE _ _ (tListZip K _) from pe_listZip (by rfl) (by rfl) T.n_list (by decide +kernel) (by rfl) T.n_zip (pa_cons (pe_meth (pl := _) (pv 0) T.cl_Problem T.m_Problem_scope (ok_Problem_scope T) (hr.mono (by decide)) (b_Problem_scope T) .nil pass0 (pa_cons (pv 2) pa_nil)) (pa_cons (pv 7) pa_nil))))
      (pss_one (ps_if (pt_val (pe_callB (show CallR _ _ (rAll K) from cr_all rfl) (by rfl) T.n_all (by decide +kernel) (pa_cons (pe_lc (own := [("variable", 4), ("value", 5)]) (g := gTup K 2 (gCons (gName 4) (gCons (gName 5) gNil))) rfl sc__joint_assignment.nd (pi_list (pv 8)) (blkOk_by (own := [("variable", 4), ("value", 5)]) (N := N__joint_assignment) (sc := defScope s__joint_assignment) (by decide +kernel)) (fun _ _ _ _ _ => (pg_tup rfl (pgs_cons (pg_name (i := 4) sc__joint_assignment.nd rfl (Or.inl rfl)) (pgs_cons (pg_name (i := 5) sc__joint_assignment.nd rfl (Or.inl rfl)) pgs_nil)))) (fun _ _ _ _ _ => pts_nil) (fun _ _ _ _ _ => (pe_cmpR op_eq (pe_dget2 (hu_of hr) (pv 6) (pv 4) (pv 5) ⟨rfl, rfl, rfl, rfl⟩) (pv 5) (nomark _)))) pa_nil))) (pss_cons (ps_for PassesOwn.never rfl (pi_list (pv 8)) (pg_tup rfl (pgs_cons (pg_name (i := 4) sc__joint_assignment.nd rfl (Or.inl rfl)) (pgs_cons (pg_name (i := 5) sc__joint_assignment.nd rfl (Or.inl rfl)) pgs_nil))) (pss_one (ps_asg (pv 5) (pg_sub (pv 6) (pv 4) (set_dict (hu_of hr))))))
      (pss_one (ps_ret (pe_callTy (show CallR _ _ (rTupOf K) from call_tuple_of) (by rfl) T.n_tuple (by decide +kernel) (pa_cons (pe_lc (own := [("name", 9), ("_", 10)]) (g := gTup K 2 (gCons (gName 9) (gCons (gName 10) gNil))) rfl sc__joint_assignment.nd (pi_list (pe_meth0 (pl := _) (pv 0) T.cl_Problem T.m_Problem_variables (ok_Problem_variables T) (hr.mono (by decide)) (b_Problem_variables T) .nil pass0)) (blkOk_by (own := [("name", 9), ("_", 10)]) (N := N__joint_assignment) (sc := defScope s__joint_assignment) (by decide +kernel)) (fun _ _ _ _ _ => (pg_tup rfl (pgs_cons (pg_name (i := 9) sc__joint_assignment.nd rfl (Or.inl rfl)) (pgs_cons (pg_name (i := 10) sc__joint_assignment.nd rfl (Or.inl rfl)) pgs_nil)))) (fun _ _ _ _ _ => pts_nil) (fun _ _ _ _ _ => (pe_dget2 (hu_of hr) (pv 6) (pv 9) pe_int ⟨rfl, rfl, rfl, rfl⟩))) pa_nil))))) pss_nil)))))))
      (pss_one (ps_ret pe_non)))), ?_⟩
    obtain ⟨dx, av, ds, dp, ae, dsc, dbt, dn, E1, xs, es, hp, _⟩ := id hP
    repeat (first | refine ⟨_, rfl, ?_⟩ | refine ⟨_, _, rfl, rfl, ?_⟩ | refine ⟨_, _, rfl, ?_⟩ | refine ⟨rfl, ?_⟩)
    refine ⟨p, dx, _, rfl, hp, pfl_no _ _ _ _ _ _ _ (by decide +kernel), ?_⟩
    repeat (first | refine ⟨_, rfl, ?_⟩ | refine ⟨_, _, rfl, rfl, ?_⟩ | refine ⟨_, _, rfl, ?_⟩ | refine ⟨rfl, ?_⟩)
    refine ⟨p, F, G, L, R, r, w, rfl, hP, okR.nd, hr', hw, ?_⟩
    repeat (first | refine ⟨_, rfl, ?_⟩ | refine ⟨_, _, rfl, rfl, ?_⟩ | refine ⟨_, _, rfl, ?_⟩ | refine ⟨rfl, ?_⟩)
    refine ite2 (fun c => ?_) (fun c => ?_)
    · have ca : adjB r w = false := by simpa using c
      repeat (first | refine ⟨_, rfl, ?_⟩ | refine ⟨_, _, rfl, rfl, ?_⟩ | refine ⟨_, _, rfl, ?_⟩ | refine ⟨rfl, ?_⟩)
      exact (q o1 o2 H sr1 sr2 (Same.refl _)).1 (if_neg (by rw [ca]; decide))
    have ca : adjB r w = true := by simpa using c
    repeat (first | refine ⟨_, rfl, ?_⟩ | refine ⟨_, _, rfl, rfl, ?_⟩ | refine ⟨_, _, rfl, ?_⟩ | refine ⟨rfl, ?_⟩)
    refine ⟨p, dx, _, rfl, hp, pfl_no _ _ _ _ _ _ _ (by decide +kernel), ?_⟩
    repeat (first | refine ⟨_, rfl, ?_⟩ | refine ⟨_, _, rfl, rfl, ?_⟩ | refine ⟨_, _, rfl, ?_⟩ | refine ⟨rfl, ?_⟩)
    refine ⟨p, F, G, L, R, r, rfl, hP, okR.nd, hr', fun l1 ys1 o1' nl1 sr1' pd1 => ?_⟩
    obtain rfl := Srt.uniq bd1 sr1 sr1'
    have s1 : Same H (upd H l1 (.lst ys1)) := Same.new nl1
    have hl1 : upd H l1 (.lst ys1) l1 = some (.lst ys1) := upd_same
    generalize upd H l1 (.lst ys1) = H1 at s1 hl1
    repeat (first | refine ⟨_, rfl, ?_⟩ | refine ⟨_, _, rfl, rfl, ?_⟩ | refine ⟨_, _, rfl, ?_⟩ | refine ⟨rfl, ?_⟩)
    have hP1 := hP.same s1
    refine ⟨⟨_, SqL.of hl1⟩, for_it (walk_list (K := K) (a := l1) (xs := ys1)) (fun i σ G2 => ∃ z3 z4 z5 z6 z7 z8 z9 z10, σ = [some (.ref p), some (.str r.1), some (.str w.1), z3, z4, z5, z6, z7, z8, z9, z10] ∧ Same H1 G2 ∧ ∀ v ∈ o1.take i, o2.find? (agr r w v) = none) ⟨_, _, _, _, _, _, _, _, rfl, Same.refl _, by simp⟩ (fun i σ G2 _ ⟨_, _, _, _, _, _, _, _, _, k, _⟩ => SqL.of (k _ _ hl1)) ?_ ?_⟩
    · rintro i x σ H2 G2 hi ⟨z3, z4, z5, z6, z7, z8, z9, z10, rfl, s2, hno⟩ ⟨rfl, hx⟩
      have s02 := s1.trans s2
      have hP2 := hP.same s02
      obtain ⟨v, hv, ⟨tv, rfl, _, htv⟩⟩ := pd_get pd1 hx
      have mv : v ∈ r.2.2 := sr1.1.mem_iff.mp (List.mem_of_getElem? hv)
      repeat (first | refine ⟨_, rfl, ?_⟩ | refine ⟨_, _, rfl, rfl, ?_⟩ | refine ⟨_, _, rfl, ?_⟩ | refine ⟨rfl, ?_⟩)
      refine ⟨p, dx, _, rfl, s02 _ _ hp, pfl_no _ _ _ _ _ _ _ (by decide +kernel), ?_⟩
      repeat (first | refine ⟨_, rfl, ?_⟩ | refine ⟨_, _, rfl, rfl, ?_⟩ | refine ⟨_, _, rfl, ?_⟩ | refine ⟨rfl, ?_⟩)
      refine ⟨p, F, G, L, R, r, rfl, hP2, okR.nd, hr', fun l3 nl3 => ?_⟩
      have s3 : Same G2 (upd G2 l3 (.lst (r.2.1.map V.str))) := Same.new nl3
      have hl3 : upd G2 l3 (.lst (r.2.1.map V.str)) l3 = some (.lst (r.2.1.map V.str)) := upd_same
      generalize upd G2 l3 (.lst (r.2.1.map V.str)) = H3 at s3 hl3
      repeat (first | refine ⟨_, rfl, ?_⟩ | refine ⟨_, _, rfl, rfl, ?_⟩ | refine ⟨_, _, rfl, ?_⟩ | refine ⟨rfl, ?_⟩)
      have htv3 : H3 tv = some (.tup (v.map V.int)) := s3 _ _ (s02 _ _ htv)
      refine ⟨l3, tv, _, _, rfl, SqL.of hl3, .inl (.inl htv3), fun D nD => ?_⟩
      refine dc_it (walk_zipN (K := K) (a := l3) (b := tv) (xs := r.2.1.map V.str) (ys := v.map V.int)) (fun i H' => H' D = some (.dK (kvL ((r.2.1.zip v).take i))) ∧ Same H3 H') ⟨upd_same, Same.new nD⟩ (fun i H' _ h => ⟨SqL.of (h.2 _ _ hl3), .inl (.inl (h.2 _ _ htv3))⟩) ?_ ?_
      · rintro i x H4 H5 hi ⟨hD, s4⟩ ⟨u, a1, a2, rfl, nu, rfl, h1, h2⟩
        obtain ⟨n, hn, rfl⟩ : ∃ n, r.2.1[i]? = some n ∧ V.str n = a1 := by dsimp only at h1; rw [List.getElem?_map] at h1; exact Option.map_eq_some_iff.mp h1
        obtain ⟨k, hk, rfl⟩ : ∃ k, v[i]? = some k ∧ V.int k = a2 := by dsimp only at h2; rw [List.getElem?_map] at h2; exact Option.map_eq_some_iff.mp h2
        refine ⟨u, _, rfl, .inl (.inl upd_same), rfl, _, _, rfl, ?_⟩
        repeat (first | refine ⟨_, rfl, ?_⟩ | refine ⟨_, _, rfl, rfl, ?_⟩ | refine ⟨_, _, rfl, ?_⟩ | refine ⟨rfl, ?_⟩)
        refine ⟨_, Sum.inr n, rfl, Same.new nu _ _ hD, ?_, ?_, Same.upd_p (s4.trans (Same.new nu)) nD⟩
        · have := rok.few
          unfold kvL
          rw [List.length_map, List.length_take, List.length_zip, sizeLine_eq]; omega
        · rw [upd_same, put_zip rok.nd hn hk]
      rintro H4 ⟨hD, s4⟩
      rw [List.length_map, List.length_map, ← List.length_zip, List.take_length] at hD
      repeat (first | refine ⟨_, rfl, ?_⟩ | refine ⟨_, _, rfl, rfl, ?_⟩ | refine ⟨_, _, rfl, ?_⟩ | refine ⟨rfl, ?_⟩)
      have s24 : Same H H4 := s02.trans (s3.trans s4)
      refine ⟨p, dx, _, rfl, s24 _ _ hp, pfl_no _ _ _ _ _ _ _ (by decide +kernel), ?_⟩
      repeat (first | refine ⟨_, rfl, ?_⟩ | refine ⟨_, _, rfl, rfl, ?_⟩ | refine ⟨_, _, rfl, ?_⟩ | refine ⟨rfl, ?_⟩)
      refine ⟨p, F, G, L, R, w, rfl, hP.same s24, okR.nd, hw, fun l5 ys2 o2' nl5 sr2' pd2 => ?_⟩
      obtain rfl := Srt.uniq bd2 sr2 sr2'
      have s5 : Same H4 (upd H4 l5 (.lst ys2)) := Same.new nl5
      have hl5 : upd H4 l5 (.lst ys2) l5 = some (.lst ys2) := upd_same
      generalize upd H4 l5 (.lst ys2) = H5 at s5 hl5
      have hD5 := s5 _ _ hD
      have s15 : Same H1 H5 := s2.trans (s3.trans (s4.trans s5))
      repeat (first | refine ⟨_, rfl, ?_⟩ | refine ⟨_, _, rfl, rfl, ?_⟩ | refine ⟨_, _, rfl, ?_⟩ | refine ⟨rfl, ?_⟩)
      refine ⟨⟨_, SqL.of hl5⟩, for_it (walk_list (K := K) (a := l5) (xs := ys2)) (fun j σ G2 => ∃ z4 z5 z7 z8 z9 z10, σ = [some (.ref p), some (.str r.1), some (.str w.1), some (.ref tv), z4, z5, some (.ref D), z7, z8, z9, z10] ∧ Same H5 G2 ∧ ∀ m ∈ o2.take j, agr r w v m = false) ⟨_, _, _, _, _, _, rfl, Same.refl _, by simp⟩ (fun i σ G2 _ ⟨_, _, _, _, _, _, _, k, _⟩ => SqL.of (k _ _ hl5)) ?_ ?_⟩
      · rintro j x σ H6 G6 hj ⟨y4, y5, y7, y8, y9, y10, rfl, s6, hnm⟩ ⟨rfl, hx⟩
        obtain ⟨m, hm, ⟨tm, rfl, _, htm⟩⟩ := pd_get pd2 hx
        repeat (first | refine ⟨_, rfl, ?_⟩ | refine ⟨_, _, rfl, rfl, ?_⟩ | refine ⟨_, _, rfl, ?_⟩ | refine ⟨rfl, ?_⟩)
        have s26 : Same H G6 := s1.trans (s15.trans s6)
        refine ⟨p, dx, _, rfl, s26 _ _ hp, pfl_no _ _ _ _ _ _ _ (by decide +kernel), ?_⟩
        repeat (first | refine ⟨_, rfl, ?_⟩ | refine ⟨_, _, rfl, rfl, ?_⟩ | refine ⟨_, _, rfl, ?_⟩ | refine ⟨rfl, ?_⟩)
        refine ⟨p, F, G, L, R, w, rfl, hP.same s26, okR.nd, hw, fun l7 nl7 => ?_⟩
        have s7 : Same G6 (upd G6 l7 (.lst (w.2.1.map V.str))) := Same.new nl7
        have hl7 : upd G6 l7 (.lst (w.2.1.map V.str)) l7 = some (.lst (w.2.1.map V.str)) := upd_same
        generalize upd G6 l7 (.lst (w.2.1.map V.str)) = H7 at s7 hl7
        have htm7 : H7 tm = some (.tup (m.map V.int)) := s7 _ _ (s6 _ _ (s5 _ _ htm))
        repeat (first | refine ⟨_, rfl, ?_⟩ | refine ⟨_, _, rfl, rfl, ?_⟩ | refine ⟨_, _, rfl, ?_⟩ | refine ⟨rfl, ?_⟩)
        refine ⟨l7, tm, _, _, rfl, SqL.of hl7, .inl (.inl htm7), fun l8 ts H8 s8 nl8 hts hl8 pts => ?_⟩
        have s58 : Same H5 H8 := s6.trans (s7.trans s8)
        have pt : Paired (fun t (q : Str × Int) => H8 t = some (.tup [.str q.1, .int q.2])) ts (w.2.1.zip m) := by
          have e : (w.2.1.map V.str).zip (m.map V.int) = (w.2.1.zip m).map fun q => (V.str q.1, V.int q.2) := by
            rw [List.zip_map]; rfl
          rw [e] at pts
          exact pd_of_map (R := fun t (p : V × V) => H8 t = some (.tup [p.1, p.2])) (f := fun q : Str × Int => (V.str q.1, V.int q.2)) pts
        clear pts
        repeat (first | refine ⟨_, rfl, ?_⟩ | refine ⟨_, _, rfl, rfl, ?_⟩ | refine ⟨_, _, rfl, ?_⟩ | refine ⟨rfl, ?_⟩)
        refine ⟨⟨_, SqL.of hl8⟩, fun D9 nD9 => ?_⟩
        refine lc_it (walk_list (K := K) (a := l8) (xs := ts.map V.ref)) (fun i H' => H' D9 = some (.lst (((w.2.1.zip m).take i).map fun q => V.bl (decide (getP (r.2.1.zip v) q.1 q.2 = q.2)))) ∧ Same H8 H') ⟨upd_same, Same.new nD9⟩ (fun i H' _ h => SqL.of (h.2 _ _ hl8)) ?_ ?_
        · rintro i x H9 G9 hi9 ⟨k1, k2⟩ ⟨rfl, hx9⟩
          obtain ⟨t, ht, rfl⟩ : ∃ t, ts[i]? = some t ∧ V.ref t = x := by rw [List.getElem?_map] at hx9; exact Option.map_eq_some_iff.mp hx9
          obtain ⟨z, hz, et⟩ := pd_get pt ht
          refine ⟨t, _, rfl, .inl (.inl (k2 _ _ et)), rfl, _, _, rfl, ?_⟩
          repeat (first | refine ⟨_, rfl, ?_⟩ | refine ⟨_, _, rfl, rfl, ?_⟩ | refine ⟨_, _, rfl, ?_⟩ | refine ⟨rfl, ?_⟩)
          refine ⟨.inl ⟨_, .inl (k2 _ _ (s58 _ _ hD5))⟩, ?_⟩
          repeat (first | refine ⟨_, rfl, ?_⟩ | refine ⟨_, _, rfl, rfl, ?_⟩ | refine ⟨_, _, rfl, ?_⟩ | refine ⟨rfl, ?_⟩)
          refine ⟨_, DGet.k (k := Sum.inr z.1) (k2 _ _ (s58 _ _ hD5)), ?_⟩
          rw [kvL_val]
          repeat (first | refine ⟨_, rfl, ?_⟩ | refine ⟨_, _, rfl, rfl, ?_⟩ | refine ⟨_, _, rfl, ?_⟩ | refine ⟨rfl, ?_⟩)
          refine rEq_int (getP_val ..) ?_
          refine ⟨_, k1, by rw [List.length_map, List.length_take, List.length_zip, sizeLine_eq]; have := wok.few; omega, ?_, Same.upd_p k2 nD9⟩
          rw [upd_same, take_map_snoc _ hz]
        rintro H9 ⟨h9, s9⟩
        rw [List.length_map, plen pt, List.take_length] at h9
        repeat (first | refine ⟨_, rfl, ?_⟩ | refine ⟨_, _, rfl, rfl, ?_⟩ | refine ⟨_, _, rfl, ?_⟩ | refine ⟨rfl, ?_⟩)
        refine ⟨D9, (w.2.1.zip m).map fun q => decide (getP (r.2.1.zip v) q.1 q.2 = q.2), rfl, by rw [List.map_map]; exact SqL.of h9, ?_⟩
        have ea : ((w.2.1.zip m).map fun q => decide (getP (r.2.1.zip v) q.1 q.2 = q.2)).all id = agr r w v m := by rw [List.all_map]; rfl
        refine ⟨_, rfl, ite2 (fun c => ?_) (fun c => ?_)⟩
        · have ca2 : agr r w v m = true := by rw [← ea]; exact c
          repeat (first | refine ⟨_, rfl, ?_⟩ | refine ⟨_, _, rfl, rfl, ?_⟩ | refine ⟨_, _, rfl, ?_⟩ | refine ⟨rfl, ?_⟩)
          refine ⟨⟨_, SqL.of (s9 _ _ hl8)⟩, for_it (walk_list (K := K) (a := l8) (xs := ts.map V.ref)) (fun i σ G => ∃ y4 y5 kvs, σ = [some (.ref p), some (.str r.1), some (.str w.1), some (.ref tv), y4, y5, some (.ref D), some (.ref tm), some (.ref l8), y9, y10] ∧ G D = some (.dK kvs) ∧ kvs.length ≤ 8 + i ∧ (∀ a o, a ≠ D → H9 a = some o → G a = some o) ∧ (∀ a, H9 a = none → G a = none) ∧
            ∀ x, (valV kvs (Sum.inr x)).getD (V.int 0) = V.int (getP ((w.2.1.zip m).take i) x (getP (r.2.1.zip v) x 0))) ⟨_, _, _, rfl, s9 _ _ (s58 _ _ hD5), ?_, fun _ _ _ e => e, fun _ e => e, ?_⟩ (fun i σ G _ ⟨_, _, _, _, _, _, k, _⟩ => SqL.of (k _ _ ?_ (s9 _ _ hl8))) ?_ ?_⟩
          · unfold kvL
            rw [List.length_map, List.length_zip]; have := rok.few; omega
          · intro x
            rw [kvL_val, getP_val]; rfl
          · exact (ne_of_none (s7 _ _ (s6 _ _ hD5)) nl8).symm
          · rintro i x σ Hx Gc hi8 ⟨x4, x5, kvs, rfl, hDc, lk, ko, kn, hv'⟩ ⟨rfl, hx8⟩
            obtain ⟨t, ht, rfl⟩ : ∃ t, ts[i]? = some t ∧ V.ref t = x := by rw [List.getElem?_map] at hx8; exact Option.map_eq_some_iff.mp hx8
            obtain ⟨z, hz, et⟩ := pd_get pt ht
            have nt : t ≠ D := (ne_of_none (s7 _ _ (s6 _ _ hD5)) (hts t (List.mem_of_getElem? ht)).1).symm
            have li4 : i < 4 := by
              have := (List.getElem?_eq_some_iff.mp hz).1
              rw [List.length_zip] at this
              have := wok.few; omega
            refine ⟨t, _, rfl, .inl (.inl (ko _ _ nt (s9 _ _ et))), rfl, _, _, rfl, ?_⟩
            repeat (first | refine ⟨_, rfl, ?_⟩ | refine ⟨_, _, rfl, rfl, ?_⟩ | refine ⟨_, _, rfl, ?_⟩ | refine ⟨rfl, ?_⟩)
            refine ⟨D, _, rfl, DPut.k (k := Sum.inr z.1) hDc (by rw [sizeLine_eq]; omega), ?_⟩
            repeat (first | refine ⟨_, rfl, ?_⟩ | refine ⟨_, _, rfl, rfl, ?_⟩ | refine ⟨_, _, rfl, ?_⟩ | refine ⟨rfl, ?_⟩)
            have lm := length_mergeK [((Sum.inr z.1 : Key), V.int z.2)] kvs
            have hz1 := (List.getElem?_zip_eq_some.mp (show (w.2.1.zip m)[i]? = some (z.1, z.2) from hz)).1
            refine ⟨_, _, _, rfl, upd_same, Nat.le_trans lm (by show kvs.length + 1 ≤ _; omega), fun a o na e => by rw [upd_ne na]; exact ko a o na e, fun a e => ?_, fun x => ?_⟩
            · rw [upd_ne (ne_of_none (s9 _ _ (s58 _ _ hD5)) e).symm]; exact kn a e
            · rw [valV_put, List.take_add_one, hz]
              show _ = V.int (getP (_ ++ [z]) x _)
              rw [getP_snoc (zip_off wok.nd hz1)]
              by_cases e : x = z.1
              · rw [if_pos (by rw [e]), if_pos e]; rfl
              · rw [if_neg (fun h => e (Sum.inr.inj h)), if_neg e]; exact hv' x
          · rintro σ Gc ⟨x4, x5, kvs, rfl, hDc, lk, ko, kn, hv'⟩
            rw [List.length_map, plen pt, List.take_length] at hv'
            have hDn : H D = none := Same.none (s02.trans s3) nD
            have sc : Same H Gc := fun a o e => ko a o (ne_of_none e hDn) (s9 _ _ (s58 _ _ (s1.trans s15 _ _ e)))
            repeat (first | refine ⟨_, rfl, ?_⟩ | refine ⟨_, _, rfl, rfl, ?_⟩ | refine ⟨_, _, rfl, ?_⟩ | refine ⟨rfl, ?_⟩)
            refine ⟨p, dx, _, rfl, sc _ _ hp, pfl_no _ _ _ _ _ _ _ (by decide +kernel), ?_⟩
            repeat (first | refine ⟨_, rfl, ?_⟩ | refine ⟨_, _, rfl, rfl, ?_⟩ | refine ⟨_, _, rfl, ?_⟩ | refine ⟨rfl, ?_⟩)
            refine ⟨p, F, G, L, R, rfl, hP.same sc, fun lv vs nlv pv => ?_⟩
            have sv : Same Gc (upd Gc lv (.lst vs)) := Same.new nlv
            have hlv : upd Gc lv (.lst vs) lv = some (.lst vs) := upd_same
            generalize upd Gc lv (.lst vs) = Hv at sv hlv
            repeat (first | refine ⟨_, rfl, ?_⟩ | refine ⟨_, _, rfl, rfl, ?_⟩ | refine ⟨_, _, rfl, ?_⟩ | refine ⟨rfl, ?_⟩)
            refine ⟨⟨_, SqL.of hlv⟩, fun D2 nD2 => ?_⟩
            refine lc_it (walk_list (K := K) (a := lv) (xs := vs)) (fun i H' => H' D2 = some (.lst ((L.take i).map fun q => V.int (getP (w.2.1.zip m) q.1 (getP (r.2.1.zip v) q.1 0)))) ∧ Same Hv H') ⟨upd_same, Same.new nD2⟩ (fun i H' _ h => SqL.of (h.2 _ _ hlv)) ?_ ?_
            · rintro i x Hx Gd hi9 ⟨k1, k2⟩ ⟨rfl, hx9⟩
              obtain ⟨z, hz, ⟨t, rfl, _, et⟩⟩ := pd_get pv hx9
              have svd := sv.trans k2
              refine ⟨t, _, rfl, .inl (.inl (svd _ _ et)), rfl, _, _, rfl, ?_⟩
              repeat (first | refine ⟨_, rfl, ?_⟩ | refine ⟨_, _, rfl, rfl, ?_⟩ | refine ⟨_, _, rfl, ?_⟩ | refine ⟨rfl, ?_⟩)
              refine ⟨.inl ⟨_, .inl (svd _ _ hDc)⟩, ?_⟩
              repeat (first | refine ⟨_, rfl, ?_⟩ | refine ⟨_, _, rfl, rfl, ?_⟩ | refine ⟨_, _, rfl, ?_⟩ | refine ⟨rfl, ?_⟩)
              refine ⟨_, DGet.k (k := Sum.inr z.1) (svd _ _ hDc), ?_⟩
              rw [hv']
              repeat (first | refine ⟨_, rfl, ?_⟩ | refine ⟨_, _, rfl, rfl, ?_⟩ | refine ⟨_, _, rfl, ?_⟩ | refine ⟨rfl, ?_⟩)
              refine ⟨_, k1, by rw [List.length_map, List.length_take, sizeLine_eq]; omega, ?_, Same.upd_p k2 nD2⟩
              rw [upd_same, take_map_snoc _ hz]
            rintro Hd ⟨h2, sd⟩
            rw [plen pv, List.take_length] at h2
            repeat (first | refine ⟨_, rfl, ?_⟩ | refine ⟨_, _, rfl, rfl, ?_⟩ | refine ⟨_, _, rfl, ?_⟩ | refine ⟨rfl, ?_⟩)
            refine ⟨D2, _, rfl, .inl ⟨SqL.of h2, fun u nu => ?_⟩⟩
            have sf := sc.trans (sv.trans sd)
            exact (q o1 o2 _ sr1 sr2 (sf.trans (Same.new nu))).2 (jn L r w v m) u (by
              unfold joint
              rw [if_pos ca]
              exact findSome_at hv (fun z hz => by rw [hno z hz]; rfl) (by rw [find_at hm hnm ca2]; rfl)) (Same.none sf nu) (by rw [upd_same]; unfold jn; rw [List.map_map]; rfl)
        · have ca2 : agr r w v m = false := by rw [← ea]; exact Bool.eq_false_iff.mpr c
          repeat (first | refine ⟨_, rfl, ?_⟩ | refine ⟨_, _, rfl, rfl, ?_⟩ | refine ⟨_, _, rfl, ?_⟩ | refine ⟨rfl, ?_⟩)
          refine ⟨_, _, _, _, _, _, rfl, s58.trans s9, fun m' hm' => ?_⟩
          rw [List.take_add_one, hm] at hm'
          rcases List.mem_append.mp hm' with h | h
          · exact hnm m' h
          · have : m' = m := by simpa using h
            rw [this]; exact ca2
      · rintro σ G6 ⟨y4, y5, y7, y8, y9, y10, rfl, s6, hnm⟩
        rw [plen pd2, List.take_length] at hnm
        repeat (first | refine ⟨_, rfl, ?_⟩ | refine ⟨_, _, rfl, rfl, ?_⟩ | refine ⟨_, _, rfl, ?_⟩ | refine ⟨rfl, ?_⟩)
        refine ⟨_, _, _, _, _, _, _, _, rfl, s15.trans s6, fun v' hv' => ?_⟩
        rw [List.take_add_one, hv] at hv'
        rcases List.mem_append.mp hv' with h | h
        · exact hno v' h
        · have : v' = v := by simpa using h
          subst this
          rw [List.find?_eq_none]
          intro m hm z
          rw [hnm m hm] at z; cases z
    · rintro σ G2 ⟨z3, z4, z5, z6, z7, z8, z9, z10, rfl, s2, hno⟩
      repeat (first | refine ⟨_, rfl, ?_⟩ | refine ⟨_, _, rfl, rfl, ?_⟩ | refine ⟨_, _, rfl, ?_⟩ | refine ⟨rfl, ?_⟩)
      refine (q o1 o2 G2 sr1 sr2 (s1.trans s2)).1 ?_
      unfold joint
      rw [if_pos ca, List.findSome?_eq_none_iff]
      intro v hv
      rw [plen pd1, List.take_length] at hno
      rw [hno v hv]; rfl

end K13
namespace K13
open PySem PySem.Spec PyProof.Rows L2 TL
/-! ### the first overlap -/
/-- the first two events (rows with their bad tuples sorted) that an assignment joins, and it -/
def ovl (L : List (Str × Int)) : List Row → Option (Str × Str × List Int)
  | [] => none
  | r :: rest => (rest.findSome? fun s => (joint L r s r.2.2 s.2.2).map fun ns => (r.1, s.1, ns)).or (ovl L rest)
theorem ovl_cut (L : List (Str × Int)) : ∀ (S : List Row) (i : Nat), (∀ (j : Nat) (r : Row), j < i → S[j]? = some r → ((S.drop (j + 1)).findSome? fun s => (joint L r s r.2.2 s.2.2).map fun ns => (r.1, s.1, ns)) = none) → ovl L S = ovl L (S.drop i)
  | S, 0, _ => by rw [List.drop_zero]
  | [], i + 1, _ => by rw [List.drop_nil]
  | r :: S, i + 1, h => by
    rw [List.drop_succ_cons, ← ovl_cut L S i fun j r' hj hr => by simpa using h (j + 1) r' (by omega) (by simpa using hr)]
    have h0 := h 0 r (by omega) rfl
    rw [show ((r :: S).drop (0 + 1)) = S from rfl] at h0
    show ((S.findSome? fun s => (joint L r s r.2.2 s.2.2).map fun ns => (r.1, s.1, ns)).or (ovl L S)) = _
    rw [h0, Option.none_or]
theorem joint_srt {L : List (Str × Int)} {r r' s s' : Row} (e1 : r'.1 = r.1) (e2 : r'.2.1 = r.2.1) (f1 : s'.1 = s.1) (f2 : s'.2.1 = s.2.1) (o1 o2 : List (List Int)) : joint L r' s' o1 o2 = joint L r s o1 o2 := by
  obtain ⟨a, b, c⟩ := r
  obtain ⟨a', b', c'⟩ := r'
  obtain ⟨x, y, z⟩ := s
  obtain ⟨x', y', z'⟩ := s'
  cases e1; cases e2; cases f1; cases f2
  rfl
def sp_fovl (K : PySem.W.Frag) (C : Addr) : Sp := fun vs H Q _ => ∃ (p : Addr) (F G : Addr → Prop) (L : List (Str × Int)) (R S : List Row), vs = [.ref p] ∧ IsP C H F G p L R ∧ VarsOk L ∧ EvsOk L R ∧ Paired SrtR R S ∧
  ∀ H', Same H H' → (ovl L S = none → Q .non H') ∧ ∀ x y ns t u, ovl L S = some (x, y, ns) → H t = none → H u = none → H' u = some (.tup (ns.map V.int)) → H' t = some (.tup [.str x, .str y, .ref u]) → Q (.ref t) H'
theorem ok_find_overlap {P : Program} {w : World} {K : PySem.W.Frag} {mg : Str → Option Value} {base : Heap} (T : Txt P K mg) : FnOk P w K mg base CX0 5 T.f_find_overlap T.fd_find_overlap ["problem"] (sp_fovl K T.C_Problem) := by
  refine T.F_find_overlap.ok sc_find_overlap (fun vs H Q E h => ?_) (fun cdv A outer s H vs Q E hr h => ?_)
  · obtain ⟨_, _, _, _, _, _, rfl, _⟩ := h; rfl
  · obtain ⟨p, F, G, L, R, S, rfl, hP, okL, okR, pS, q⟩ := h
    have r8 := okR.few
    refine ⟨_, PSs.nox (pss_cons (ps_expr (pe_call (ok_check_problem T) (hr.mono (by decide)) (by rfl) T.g_check_problem T.F_check_problem.kp (b_check_problem T) .nil pass0 (pa_cons (pv 0) pa_nil)))
      (pss_cons (ps_set (i := 1) sc_find_overlap.nd rfl (Or.inl rfl) (pe_meth0 (pl := _) (pv 0) T.cl_Problem T.m_Problem_events (ok_Problem_events T) (hr.mono (by decide)) (b_Problem_events T) .nil pass0))
      (pss_cons (ps_for PassesOwn.never rfl (pi_enum (by rfl) T.n_enumerate (pa_cons (pv 1) pa_nil)) (pg_tup rfl (pgs_cons (pg_name (i := 2) sc_find_overlap.nd rfl (Or.inl rfl)) (pgs_cons (pg_name (i := 3) sc_find_overlap.nd rfl (Or.inl rfl)) pgs_nil))) (pss_one (ps_for PassesOwn.never rfl (pi_list (pe_slice (show SlR _ (rSlL K) from sl_list) (pv 1) (po_some (pe_op op_add (pv 2) pe_int)) po_none)) (pg_name (i := 4) sc_find_overlap.nd rfl (Or.inl rfl)) (pss_cons (ps_set (i := 5) sc_find_overlap.nd rfl (Or.inl rfl) (pe_call (ok__joint_assignment T) (hr.mono (by decide)) (by rfl) T.g__joint_assignment T.F__joint_assignment.kp (b__joint_assignment T) .nil pass0 (pa_cons (pv 0) (pa_cons (pv 3) (pa_cons (pv 4) pa_nil)))))
      (pss_one (ps_if (pt_cmpR op_notN (pv 5) pe_non (nomark _)) (pss_one (ps_ret (pe_tup (pa_cons (pv 3) (pa_cons (pv 4) (pa_cons (pv 5) pa_nil)))))) pss_nil))))))
      (pss_one (ps_ret pe_non))))), ?_⟩
    repeat (first | refine ⟨_, rfl, ?_⟩ | refine ⟨_, _, rfl, rfl, ?_⟩ | refine ⟨_, _, rfl, ?_⟩ | refine ⟨rfl, ?_⟩)
    refine ⟨p, F, G, L, R, rfl, hP, ?_⟩
    repeat (first | refine ⟨_, rfl, ?_⟩ | refine ⟨_, _, rfl, rfl, ?_⟩ | refine ⟨_, _, rfl, ?_⟩ | refine ⟨rfl, ?_⟩)
    obtain ⟨dx, av, ds, dp, ae, dsc, dbt, dn, E1, xs, es, hp, _⟩ := id hP
    refine ⟨p, dx, _, rfl, hp, pfl_no _ _ _ _ _ _ _ (by decide +kernel), ?_⟩
    repeat (first | refine ⟨_, rfl, ?_⟩ | refine ⟨_, _, rfl, rfl, ?_⟩ | refine ⟨_, _, rfl, ?_⟩ | refine ⟨rfl, ?_⟩)
    refine ⟨p, F, G, L, R, rfl, hP, fun l nl => ?_⟩
    have s1 : Same H (upd H l (.lst ((R.map (·.1)).map V.str))) := Same.new nl
    have hl : upd H l (.lst ((R.map (·.1)).map V.str)) l = some (.lst ((R.map (·.1)).map V.str)) := upd_same
    generalize upd H l (.lst ((R.map (·.1)).map V.str)) = H1 at s1 hl
    repeat (first | refine ⟨_, rfl, ?_⟩ | refine ⟨_, _, rfl, rfl, ?_⟩ | refine ⟨_, _, rfl, ?_⟩ | refine ⟨rfl, ?_⟩)
    refine ⟨l, _, rfl, SqL.of hl, for_it (walk_enum (K := K) (a := l) (xs := (R.map (·.1)).map V.str)) (fun i σ G2 => ∃ z2 z3 z4 z5, σ = [some (.ref p), some (.ref l), z2, z3, z4, z5] ∧ Same H1 G2 ∧
      ∀ (j : Nat) (r : Row), j < i → S[j]? = some r → ((S.drop (j + 1)).findSome? fun s => (joint L r s r.2.2 s.2.2).map fun ns => (r.1, s.1, ns)) = none) ⟨_, _, _, _, rfl, Same.refl _, fun j r h => by omega⟩ (fun i σ G2 _ ⟨_, _, _, _, _, k, _⟩ => SqL.of (k _ _ hl)) ?_ ?_⟩
    · rintro i x σ H2 G2 hi ⟨z2, z3, z4, z5, rfl, s2, hno⟩ ⟨t, y1, y2, rfl, nt, rfl, e1, e2⟩
      have li : i < R.length := by simpa using hi
      obtain rfl : y1 = .int ((i : Nat) : Int) := (Option.some.inj e1).symm
      obtain rfl : y2 = .str R[i].1 := by
        replace e2 : ((R.map (·.1)).map V.str)[i]? = some y2 := e2
        rw [List.getElem?_map, List.getElem?_map, List.getElem?_eq_getElem li] at e2
        exact (Option.some.inj e2).symm
      have mr : R[i] ∈ R := List.getElem_mem li
      have s3 : Same H2 (upd H2 t (.tup [.int ((i : Nat) : Int), .str R[i].1])) := Same.new nt
      refine ⟨t, _, rfl, .inl (.inl upd_same), rfl, _, _, rfl, ?_⟩
      generalize upd H2 t (.tup [.int ((i : Nat) : Int), .str R[i].1]) = H3 at s3
      repeat (first | refine ⟨_, rfl, ?_⟩ | refine ⟨_, _, rfl, rfl, ?_⟩ | refine ⟨_, _, rfl, ?_⟩ | refine ⟨rfl, ?_⟩)
      refine ⟨l, _, rfl, SqL.of (s3 _ _ (s2 _ _ hl)), fun l4 nl4 => ?_⟩
      rw [show ((i : Nat) : Int) + 1 = ((i + 1 : Nat) : Int) from rfl, cut_from]
      have s4 : Same H3 (upd H3 l4 (.lst (((R.map (·.1)).map V.str).drop (i + 1)))) := Same.new nl4
      have hl4 : upd H3 l4 (.lst (((R.map (·.1)).map V.str).drop (i + 1))) l4 = some (.lst (((R.map (·.1)).map V.str).drop (i + 1))) := upd_same
      generalize upd H3 l4 (.lst (((R.map (·.1)).map V.str).drop (i + 1))) = H4 at s4 hl4
      have s14 : Same H1 H4 := s2.trans (s3.trans s4)
      obtain ⟨r', hr', er'⟩ := pd_get pS (List.getElem?_eq_getElem li)
      repeat (first | refine ⟨_, rfl, ?_⟩ | refine ⟨_, _, rfl, rfl, ?_⟩ | refine ⟨_, _, rfl, ?_⟩ | refine ⟨rfl, ?_⟩)
      refine ⟨⟨_, SqL.of hl4⟩, for_it (walk_list (K := K) (a := l4) (xs := ((R.map (·.1)).map V.str).drop (i + 1))) (fun j σ G2 => ∃ z4 z5, σ = [some (.ref p), some (.ref l), some (.int ((i : Nat) : Int)), some (.str R[i].1), z4, z5] ∧ Same H4 G2 ∧
        ∀ s ∈ (S.drop (i + 1)).take j, joint L r' s r'.2.2 s.2.2 = none) ⟨_, _, rfl, Same.refl _, by simp⟩ (fun j σ G2 _ ⟨_, _, _, k, _⟩ => SqL.of (k _ _ hl4)) ?_ ?_⟩
      · rintro j x σ Hx G5 hj ⟨z4, z5, rfl, s5, hnj⟩ ⟨rfl, hx⟩
        obtain ⟨w, hw, rfl⟩ : ∃ w, R[i + 1 + j]? = some w ∧ V.str w.1 = x := by
          rw [List.getElem?_drop, List.getElem?_map, List.getElem?_map] at hx
          obtain ⟨a, ha, e⟩ := Option.map_eq_some_iff.mp hx
          obtain ⟨w, hw, e2⟩ := Option.map_eq_some_iff.mp ha
          exact ⟨w, hw, by rw [e2]; exact e⟩
        have mw : w ∈ R := List.mem_of_getElem? hw
        obtain ⟨s', hs', es'⟩ := pd_get pS hw
        have hs2 : (S.drop (i + 1))[j]? = some s' := by rw [List.getElem?_drop]; exact hs'
        have s15 : Same H G5 := s1.trans (s14.trans s5)
        repeat (first | refine ⟨_, rfl, ?_⟩ | refine ⟨_, _, rfl, rfl, ?_⟩ | refine ⟨_, _, rfl, ?_⟩ | refine ⟨rfl, ?_⟩)
        refine ⟨p, F, G, L, R, R[i], w, rfl, hP.same s15, okL, okR, mr, mw, fun o1 o2 H6 sr1 sr2 s6 => ?_⟩
        obtain rfl := Srt.uniq (row_bd okL (okR.ok _ mr)) sr1 er'.2.2
        obtain rfl := Srt.uniq (row_bd okL (okR.ok _ mw)) sr2 es'.2.2
        have ej := joint_srt (L := L) er'.1 er'.2.1 es'.1 es'.2.1 r'.2.2 s'.2.2
        refine ⟨fun hn => ?_, fun ns u hsm nu hu => ?_⟩
        · repeat (first | refine ⟨_, rfl, ?_⟩ | refine ⟨_, _, rfl, rfl, ?_⟩ | refine ⟨_, _, rfl, ?_⟩ | refine ⟨rfl, ?_⟩)
          refine ⟨s5.trans s6, fun s hs => ?_⟩
          rw [List.take_add_one, hs2] at hs
          rcases List.mem_append.mp hs with h | h
          · exact hnj s h
          · have : s = s' := by simpa using h
            rw [this, ej]; exact hn
        · repeat (first | refine ⟨_, rfl, ?_⟩ | refine ⟨_, _, rfl, rfl, ?_⟩ | refine ⟨_, _, rfl, ?_⟩ | refine ⟨rfl, ?_⟩)
          refine ⟨lenk 3 rfl (by decide), fun t nt => ?_⟩
          have s16 := s15.trans s6
          have e : ovl L S = some (R[i].1, w.1, ns) := by
            have lS : i < S.length := by rw [← plen pS]; exact li
            rw [ovl_cut L S i hno, List.drop_eq_getElem_cons lS]
            rw [List.getElem?_eq_getElem lS] at hr'
            rw [Option.some.inj hr']
            show ((S.drop (i + 1)).findSome? fun s => (joint L r' s r'.2.2 s.2.2).map fun ns => (r'.1, s.1, ns)).or _ = _
            rw [findSome_at hs2 (fun z hz => by rw [hnj z hz]; rfl) (show ((joint L r' s' r'.2.2 s'.2.2).map fun ns => (r'.1, s'.1, ns)) = some (R[i].1, w.1, ns) by rw [ej, hsm, ← er'.1, ← es'.1]; rfl)]
            rfl
          exact (q _ (s16.trans (Same.new nt))).2 _ _ ns t u e (Same.none s16 nt) (Same.none s15 nu) (Same.new nt _ _ ‹_›) upd_same
      · rintro σ G5 ⟨z4, z5, rfl, s5, hnj⟩
        repeat (first | refine ⟨_, rfl, ?_⟩ | refine ⟨_, _, rfl, rfl, ?_⟩ | refine ⟨_, _, rfl, ?_⟩ | refine ⟨rfl, ?_⟩)
        refine ⟨_, _, _, _, rfl, s14.trans s5, fun j r hj hr => ?_⟩
        rcases Nat.lt_or_ge j i with h | h
        · exact hno j r h hr
        · have ej : j = i := by omega
          subst ej
          rw [hr'] at hr
          cases hr
          rw [List.findSome?_eq_none_iff]
          intro s hs
          have lS : S.length = R.length := (plen pS).symm
          rw [hnj s (by rw [List.length_drop, List.length_map, List.length_map, ← lS, ← List.length_drop, List.take_length]; exact hs)]
          rfl
    · rintro σ G2 ⟨z2, z3, z4, z5, rfl, s2, hno⟩
      repeat (first | refine ⟨_, rfl, ?_⟩ | refine ⟨_, _, rfl, rfl, ?_⟩ | refine ⟨_, _, rfl, ?_⟩ | refine ⟨rfl, ?_⟩)
      refine (q _ (s1.trans s2)).1 ?_
      have lS : S.length = R.length := (plen pS).symm
      rw [List.length_map, List.length_map, ← lS] at hno
      rw [ovl_cut L S S.length hno, List.drop_length]
      rfl

end K13
namespace K13
open PySem PySem.Spec PyProof.Rows L2 TL
def sp_isx (K : PySem.W.Frag) (C : Addr) : Sp := fun vs H Q _ => ∃ (p : Addr) (F G : Addr → Prop) (L : List (Str × Int)) (R S : List Row), vs = [.ref p] ∧ IsP C H F G p L R ∧ VarsOk L ∧ EvsOk L R ∧ Paired SrtR R S ∧ ∀ H', Same H H' → Q (.bl (ovl L S).isNone) H'
theorem ok_is_exclusive {P : Program} {w : World} {K : PySem.W.Frag} {mg : Str → Option Value} {base : Heap} (T : Txt P K mg) : FnOk P w K mg base CX0 6 T.f_is_exclusive T.fd_is_exclusive ["problem"] (sp_isx K T.C_Problem) := by
  refine T.F_is_exclusive.ok sc_is_exclusive (fun vs H Q E h => ?_) (fun cdv A outer s H vs Q E hr h => ?_)
  · obtain ⟨_, _, _, _, _, _, rfl, _⟩ := h; rfl
  · obtain ⟨p, F, G, L, R, S, rfl, hP, okL, okR, pS, q⟩ := h
    refine ⟨_, PSs.nox (pss_one (ps_ret (pe_cmpR op_isN (pe_call (ok_find_overlap T) (hr.mono (by decide)) (by rfl) T.g_find_overlap T.F_find_overlap.kp (b_find_overlap T) .nil pass0 (pa_cons (pv 0) pa_nil)) pe_non (nomark _)))), ?_⟩
    repeat (first | refine ⟨_, rfl, ?_⟩ | refine ⟨_, _, rfl, rfl, ?_⟩ | refine ⟨_, _, rfl, ?_⟩ | refine ⟨rfl, ?_⟩)
    refine ⟨p, F, G, L, R, S, rfl, hP, okL, okR, pS, fun H' s1 => ⟨fun hn => ?_, fun x y ns t u hs _ _ _ _ => ?_⟩⟩
    · repeat (first | refine ⟨_, rfl, ?_⟩ | refine ⟨_, _, rfl, rfl, ?_⟩ | refine ⟨_, _, rfl, ?_⟩ | refine ⟨rfl, ?_⟩)
      have := q H' s1
      rw [hn] at this
      exact this
    · repeat (first | refine ⟨_, rfl, ?_⟩ | refine ⟨_, _, rfl, rfl, ?_⟩ | refine ⟨_, _, rfl, ?_⟩ | refine ⟨rfl, ?_⟩)
      have := q H' s1
      rw [hs] at this
      exact this

end K13
namespace K13
open PySem PySem.Spec PyProof.Rows L2 TL
/-! ### what shows an overlap -/
def rowOf (R : List Row) (x : Str) : Option Row := R.find? fun r => decide (r.1 = x)
/-- whether a triple shows an overlap -/
def showsB (L : List (Str × Int)) (r w : Row) (ns : List Int) : Bool := (!decide (r.1 = w.1)) && adjB r w && bad1 L ns r && bad1 L ns w
def sp_shows (K : PySem.W.Frag) (C : Addr) : Sp := fun vs H Q _ => ∃ (p : Addr) (F G : Addr → Prop) (L : List (Str × Int)) (R : List Row) (v : V), vs = [.ref p, v] ∧ IsP C H F G p L R ∧ VarsOk L ∧ EvsOk L R ∧
  (((∃ t, TyX K H v t ∧ PySem.W.kitOne K t (.type "tuple") = some false) ∧ Q (.bl false) H) ∨ ∃ a xs, v = .ref a ∧ H a = some (.tup xs) ∧
    ((xs.length ≠ 3 ∧ xs.length < 1000 ∧ Q (.bl false) H) ∨ ∃ x y z, xs = [x, y, z] ∧
      ((NoEv K H R x ∧ Q (.bl false) H) ∨ ∃ r, r ∈ R ∧ x = .str r.1 ∧
        ((NoEv K H R y ∧ Q (.bl false) H) ∨ ∃ w, w ∈ R ∧ y = .str w.1 ∧
          ((AsgRes K H L z false ∧ ∀ H', Same H H' → Q (.bl false) H') ∨ ∃ t ns, z = .ref t ∧ H t = some (.tup (ns.map V.int)) ∧ valsB (ns.map V.int) (L.map (·.2)) = true ∧ ∀ H', Same H H' → Q (.bl (showsB L r w ns)) H')))))
theorem ok_shows_overlap {P : Program} {w : World} {K : PySem.W.Frag} {mg : Str → Option Value} {base : Heap} (T : Txt P K mg) : FnOk P w K mg base CX0 7 T.f_shows_overlap T.fd_shows_overlap ["problem", "value"] (sp_shows K T.C_Problem) := by
  refine T.F_shows_overlap.ok sc_shows_overlap (fun vs H Q E h => ?_) (fun cdv A outer s H vs Q E hr h => ?_)
  · obtain ⟨_, _, _, _, _, _, rfl, _⟩ := h; rfl
  · obtain ⟨p, F, G, L, R, v, rfl, hP, okL, okR, q⟩ := h
    refine ⟨_, PSs.nox (pss_cons (ps_expr (pe_call (ok_check_problem T) (hr.mono (by decide)) (by rfl) T.g_check_problem T.F_check_problem.kp (b_check_problem T) .nil pass0 (pa_cons (pv 0) pa_nil)))
      (pss_cons (ps_if (PW.pt (pw_or (pt_not (pt_val (pe_callB (show CallR _ _ (rIsi K) from call_isi) (by rfl) T.n_isinstance (by decide +kernel) (pa_cons (pv 1) (pa_cons (pe_bltn (v := .ty "tuple") (by rfl) T.n_tuple (by decide +kernel) rfl) pa_nil))))) (pw_or1 (pt_cmpR op_ne (pe_callB (show CallR _ _ (rLenSeq K) from call_len_seq) (by rfl) T.n_len (by decide +kernel) (pa_cons (pv 1) pa_nil)) pe_int (nomark _))))) (pss_one (ps_ret pe_bl)) pss_nil)
      (pss_cons (ps_asg (pv 1) (pg_tup rfl (pgs_cons (pg_name (i := 2) sc_shows_overlap.nd rfl (Or.inl rfl)) (pgs_cons (pg_name (i := 3) sc_shows_overlap.nd rfl (Or.inl rfl)) (pgs_cons (pg_name (i := 4) sc_shows_overlap.nd rfl (Or.inl rfl)) pgs_nil)))))
      (pss_cons (ps_if (PW.pt (pw_or (pt_not (pt_val (pe_meth (pl := _) (pv 0) T.cl_Problem T.m_Problem_is_event (ok_Problem_is_event2 T) (hr.mono (by decide)) (b_Problem_is_event T) .nil pass0 (pa_cons (pv 2) pa_nil)))) (pw_or (pt_not (pt_val (pe_meth (pl := _) (pv 0) T.cl_Problem T.m_Problem_is_event (ok_Problem_is_event2 T) (hr.mono (by decide)) (b_Problem_is_event T) .nil pass0 (pa_cons (pv 3) pa_nil)))) (pw_or1 (pt_not (pt_val (pe_meth (pl := _) (pv 0) T.cl_Problem T.m_Problem_is_assignment (ok_Problem_is_assignment T) (hr.mono (by decide)) (b_Problem_is_assignment T) .nil pass0 (pa_cons (pv 4) pa_nil)))))))) (pss_one (ps_ret pe_bl)) pss_nil)
      (pss_cons (ps_if (PW.pt (pw_or (pt_cmpR op_eq (pv 2) (pv 3) (nomark _)) (pw_or1 (pt_not (pt_val (pe_meth (pl := _) (pv 0) T.cl_Problem T.m_Problem_are_adjacent (ok_Problem_are_adjacent T) (hr.mono (by decide)) (b_Problem_are_adjacent T) .nil pass0 (pa_cons (pv 2) (pa_cons (pv 3) pa_nil)))))))) (pss_one (ps_ret pe_bl)) pss_nil)
      (pss_one (ps_ret (pe_and (pe_meth (pl := _) (pv 0) T.cl_Problem T.m_Problem_occurs (ok_Problem_occurs T) (hr.mono (by decide)) (b_Problem_occurs T) .nil pass0 (pa_cons (pv 2) (pa_cons (pv 4) pa_nil))) (pe_one (pe_meth (pl := _) (pv 0) T.cl_Problem T.m_Problem_occurs (ok_Problem_occurs T) (hr.mono (by decide)) (b_Problem_occurs T) .nil pass0 (pa_cons (pv 3) (pa_cons (pv 4) pa_nil)))))))))))), ?_⟩
    repeat (first | refine ⟨_, rfl, ?_⟩ | refine ⟨_, _, rfl, rfl, ?_⟩ | refine ⟨_, _, rfl, ?_⟩ | refine ⟨rfl, ?_⟩)
    refine ⟨p, F, G, L, R, rfl, hP, ?_⟩
    obtain ⟨dx, av, ds, dp, ae, dsc, dbt, dn, E1, xs0, es, hp, _⟩ := id hP
    rcases q with ⟨⟨t, ty, kk⟩, q⟩ | ⟨a, xs, rfl, ha, q⟩
    · exact ⟨_, rfl, _, _, t, _, _, rfl, .ty _, ty, kk, _, rfl, q⟩
    refine ⟨_, rfl, _, _, _, _, _, rfl, .ty _, .base (.tup ha), kit_tt, _, rfl, ?_⟩
    repeat (first | refine ⟨_, rfl, ?_⟩ | refine ⟨_, _, rfl, rfl, ?_⟩ | refine ⟨_, _, rfl, ?_⟩ | refine ⟨rfl, ?_⟩)
    rcases q with ⟨l3, l1, q⟩ | ⟨x, y, z, rfl, q⟩
    · refine ⟨a, _, rfl, .inr (.inl (.inl ha)), rfl, _, rfl, ite2 (fun _ => q) (fun e => absurd (by simp; omega) e)⟩
    refine ⟨a, _, rfl, .inr (.inl (.inl ha)), rfl, _, rfl, ite2 (fun e => by simp at e) (fun _ => ?_)⟩
    repeat (first | refine ⟨_, rfl, ?_⟩ | refine ⟨_, _, rfl, rfl, ?_⟩ | refine ⟨_, _, rfl, ?_⟩ | refine ⟨rfl, ?_⟩)
    refine ⟨a, _, rfl, .inl (.inl ha), rfl, ?_⟩
    repeat (first | refine ⟨_, rfl, ?_⟩ | refine ⟨_, _, rfl, rfl, ?_⟩ | refine ⟨_, _, rfl, ?_⟩ | refine ⟨rfl, ?_⟩)
    refine ⟨p, dx, _, rfl, hp, pfl_no _ _ _ _ _ _ _ (by decide +kernel), ?_⟩
    repeat (first | refine ⟨_, rfl, ?_⟩ | refine ⟨_, _, rfl, rfl, ?_⟩ | refine ⟨_, _, rfl, ?_⟩ | refine ⟨rfl, ?_⟩)
    refine ⟨p, F, G, L, R, x, rfl, hP, okR.nd, ?_⟩
    rcases q with ⟨nx, q⟩ | ⟨r, hr', rfl, q⟩
    · refine .inr ⟨nx, ?_⟩
      repeat (first | refine ⟨_, rfl, ?_⟩ | refine ⟨_, _, rfl, rfl, ?_⟩ | refine ⟨_, _, rfl, ?_⟩ | refine ⟨rfl, ?_⟩)
      exact q
    refine .inl ⟨r, hr', rfl, ?_⟩
    repeat (first | refine ⟨_, rfl, ?_⟩ | refine ⟨_, _, rfl, rfl, ?_⟩ | refine ⟨_, _, rfl, ?_⟩ | refine ⟨rfl, ?_⟩)
    refine ⟨p, dx, _, rfl, hp, pfl_no _ _ _ _ _ _ _ (by decide +kernel), ?_⟩
    repeat (first | refine ⟨_, rfl, ?_⟩ | refine ⟨_, _, rfl, rfl, ?_⟩ | refine ⟨_, _, rfl, ?_⟩ | refine ⟨rfl, ?_⟩)
    refine ⟨p, F, G, L, R, y, rfl, hP, okR.nd, ?_⟩
    rcases q with ⟨ny, q⟩ | ⟨w, hw, rfl, q⟩
    · refine .inr ⟨ny, ?_⟩
      repeat (first | refine ⟨_, rfl, ?_⟩ | refine ⟨_, _, rfl, rfl, ?_⟩ | refine ⟨_, _, rfl, ?_⟩ | refine ⟨rfl, ?_⟩)
      exact q
    refine .inl ⟨w, hw, rfl, ?_⟩
    repeat (first | refine ⟨_, rfl, ?_⟩ | refine ⟨_, _, rfl, rfl, ?_⟩ | refine ⟨_, _, rfl, ?_⟩ | refine ⟨rfl, ?_⟩)
    refine ⟨p, dx, _, rfl, hp, pfl_no _ _ _ _ _ _ _ (by decide +kernel), ?_⟩
    repeat (first | refine ⟨_, rfl, ?_⟩ | refine ⟨_, _, rfl, rfl, ?_⟩ | refine ⟨_, _, rfl, ?_⟩ | refine ⟨rfl, ?_⟩)
    rcases q with ⟨na, q⟩ | ⟨t, ns, rfl, ht, hv, q⟩
    · refine ⟨p, F, G, L, R, z, false, rfl, hP, okL.few, na, fun H1 s1 => ?_⟩
      repeat (first | refine ⟨_, rfl, ?_⟩ | refine ⟨_, _, rfl, rfl, ?_⟩ | refine ⟨_, _, rfl, ?_⟩ | refine ⟨rfl, ?_⟩)
      exact q _ s1
    refine ⟨p, F, G, L, R, .ref t, true, rfl, hP, okL.few, .inr ⟨t, _, rfl, ht, (fun x hx => by obtain ⟨i, _, rfl⟩ := List.mem_map.mp hx; exact .inl ⟨i, rfl⟩), hv.symm⟩, fun H1 s1 => ?_⟩
    repeat (first | refine ⟨_, rfl, ?_⟩ | refine ⟨_, _, rfl, rfl, ?_⟩ | refine ⟨_, _, rfl, ?_⟩ | refine ⟨rfl, ?_⟩)
    unfold showsB at q
    refine ite2 (fun c => ?_) (fun c => ?_)
    · have e : decide (r.1 = w.1) = true := by rw [← dec_vstr]; exact c
      repeat (first | refine ⟨_, rfl, ?_⟩ | refine ⟨_, _, rfl, rfl, ?_⟩ | refine ⟨_, _, rfl, ?_⟩ | refine ⟨rfl, ?_⟩)
      have := q H1 s1
      rw [e] at this
      exact this
    have e : decide (r.1 = w.1) = false := by rw [← dec_vstr]; exact Bool.eq_false_iff.mpr c
    rw [e] at q
    repeat (first | refine ⟨_, rfl, ?_⟩ | refine ⟨_, _, rfl, rfl, ?_⟩ | refine ⟨_, _, rfl, ?_⟩ | refine ⟨rfl, ?_⟩)
    refine ⟨p, dx, _, rfl, s1 _ _ hp, pfl_no _ _ _ _ _ _ _ (by decide +kernel), ?_⟩
    repeat (first | refine ⟨_, rfl, ?_⟩ | refine ⟨_, _, rfl, rfl, ?_⟩ | refine ⟨_, _, rfl, ?_⟩ | refine ⟨rfl, ?_⟩)
    refine ⟨p, F, G, L, R, r, w, rfl, hP.same s1, okR.nd, hr', hw, ?_⟩
    repeat (first | refine ⟨_, rfl, ?_⟩ | refine ⟨_, _, rfl, rfl, ?_⟩ | refine ⟨_, _, rfl, ?_⟩ | refine ⟨rfl, ?_⟩)
    refine ite2 (fun c => ?_) (fun c => ?_)
    · have ca : adjB r w = false := by simpa using c
      repeat (first | refine ⟨_, rfl, ?_⟩ | refine ⟨_, _, rfl, rfl, ?_⟩ | refine ⟨_, _, rfl, ?_⟩ | refine ⟨rfl, ?_⟩)
      have := q H1 s1
      rw [ca] at this
      exact this
    have ca : adjB r w = true := by simpa using c
    rw [ca] at q
    repeat (first | refine ⟨_, rfl, ?_⟩ | refine ⟨_, _, rfl, rfl, ?_⟩ | refine ⟨_, _, rfl, ?_⟩ | refine ⟨rfl, ?_⟩)
    refine ⟨p, dx, _, rfl, s1 _ _ hp, pfl_no _ _ _ _ _ _ _ (by decide +kernel), ?_⟩
    repeat (first | refine ⟨_, rfl, ?_⟩ | refine ⟨_, _, rfl, rfl, ?_⟩ | refine ⟨_, _, rfl, ?_⟩ | refine ⟨rfl, ?_⟩)
    refine ⟨p, t, F, G, L, R, r, ns, rfl, hP.same s1, okL, okR, hr', s1 _ _ ht, hv, fun H2 s2 => ?_⟩
    have s12 := s1.trans s2
    refine ⟨_, rfl, ite2 (fun c => ?_) (fun c => ?_)⟩
    · rw [c] at q
      repeat (first | refine ⟨_, rfl, ?_⟩ | refine ⟨_, _, rfl, rfl, ?_⟩ | refine ⟨_, _, rfl, ?_⟩ | refine ⟨rfl, ?_⟩)
      refine ⟨p, dx, _, rfl, s12 _ _ hp, pfl_no _ _ _ _ _ _ _ (by decide +kernel), ?_⟩
      repeat (first | refine ⟨_, rfl, ?_⟩ | refine ⟨_, _, rfl, rfl, ?_⟩ | refine ⟨_, _, rfl, ?_⟩ | refine ⟨rfl, ?_⟩)
      refine ⟨p, t, F, G, L, R, w, ns, rfl, hP.same s12, okL, okR, hw, s12 _ _ ht, hv, fun H3 s3 => ?_⟩
      repeat (first | refine ⟨_, rfl, ?_⟩ | refine ⟨_, _, rfl, rfl, ?_⟩ | refine ⟨_, _, rfl, ?_⟩ | refine ⟨rfl, ?_⟩)
      exact q _ (s12.trans s3)
    · have := q _ s12
      rw [Bool.eq_false_iff.mpr c] at this
      exact this

end K13
namespace K13
open PySem PySem.Spec PyProof.Rows L2 TL
/-! ### what is refused -/
def NotP (K : PySem.W.Frag) (C : Addr) (H : Hp) (v : V) : Prop := ∃ t, TyX K H v t ∧ PySem.W.kitOne K t (.ref C) = some false
def raisesV (CI : Addr) (E : XK) (v : V) (H : Hp) : Prop := ∀ e, H e = none → E (.ref CI) (some e) (upd H e (.xd [("value", v)]))
def sp_chkpx (K : PySem.W.Frag) (C CI : Addr) : Sp := fun vs H Q E => ∃ v : V, vs = [v] ∧ ((∃ (p : Addr) (F G : Addr → Prop) (L : List (Str × Int)) (R : List Row), v = .ref p ∧ IsP C H F G p L R ∧ Q .non H) ∨ (NotP K C H v ∧ raisesV CI E v H))
theorem okx_check_problem {P : Program} {w : World} {K : PySem.W.Frag} {mg : Str → Option Value} {base : Heap} (T : Txt P K mg) : FnOk P w K mg base (L2.CX P w) 1 T.f_check_problem T.fd_check_problem ["value"] (sp_chkpx K T.C_Problem T.C_InvalidProblem) := by
  refine T.F_check_problem.ok sc_check_problem (fun vs H Q E h => ?_) (fun cdv A outer s H vs Q E hr h => ?_)
  · obtain ⟨_, rfl, _⟩ := h; rfl
  · obtain ⟨v, rfl, h⟩ := h
    refine ⟨_, (pss_one (ps_if (pt_not (pt_val (pe_callB (show CallR _ _ (rIsi K) from call_isi) (by rfl) T.n_isinstance (by decide +kernel) (pa_cons (pv 0) (pa_cons (pe_glob (v := .ref T.C_Problem) (by rfl) T.g_Problem rfl) pa_nil))))) (pss_one (ps_raiseX rfl T.x_InvalidProblem hr (takes_of rfl rfl rfl rfl) (pa_cons (pv 0) pa_nil))) pss_nil)), ?_⟩
    rcases h with ⟨p, F, G, L, R, rfl, ⟨dx, av, ds, dp, ae, dsc, dbt, dn, E1, xs, es, hp, _⟩, q⟩ | ⟨⟨t, ty, k⟩, q⟩
    · exact ⟨_, rfl, _, _, _, _, _, rfl, .own _, T.ow_Problem.ty hp, T.ow_Problem.me, _, rfl, q⟩
    · exact ⟨_, rfl, _, _, t, _, _, rfl, .own _, ty, k, _, rfl, _, rfl, _, rfl, fun e ne => q e ne⟩
def sp_onex (K : PySem.W.Frag) (C CI : Addr) : Sp := fun vs H Q E => ∃ v : V, vs = [v] ∧ NotP K C H v ∧ raisesV CI E v H
theorem okx_find_overlap {P : Program} {w : World} {K : PySem.W.Frag} {mg : Str → Option Value} {base : Heap} (T : Txt P K mg) : FnOk P w K mg base (L2.CX P w) 5 T.f_find_overlap T.fd_find_overlap ["problem"] (sp_onex K T.C_Problem T.C_InvalidProblem) := by
  refine T.F_find_overlap.ok sc_find_overlap (fun vs H Q E h => ?_) (fun cdv A outer s H vs Q E hr h => ?_)
  · obtain ⟨_, rfl, _⟩ := h; rfl
  · obtain ⟨v, rfl, np, q⟩ := h
    refine ⟨_, (pss_cons (ps_expr (pe_callS (okx_check_problem T) (hr.mono (by decide)) (by rfl) T.g_check_problem T.F_check_problem.kp (b_check_problem T) (passAt (takes_of rfl rfl rfl rfl)) (pa_cons (pv 0) pa_nil)))
      (pss_cons (ps_set (i := 1) sc_find_overlap.nd rfl (Or.inl rfl) (pe_meth0 (pl := _) (pv 0) T.cl_Problem T.m_Problem_events (ok_Problem_events T) (hr.mono (by decide)) (b_Problem_events T) .nil pass0))
      (pss_cons (ps_for (passes_of rfl) rfl (pi_enum (by rfl) T.n_enumerate (pa_cons (pv 1) pa_nil)) (pg_tup rfl (pgs_cons (pg_name (i := 2) sc_find_overlap.nd rfl (Or.inl rfl)) (pgs_cons (pg_name (i := 3) sc_find_overlap.nd rfl (Or.inl rfl)) pgs_nil))) (pss_one (ps_for (passes_of rfl) rfl (pi_list (pe_slice (show SlR _ (rSlL K) from sl_list) (pv 1) (po_some (pe_op op_add (pv 2) pe_int)) po_none)) (pg_name (i := 4) sc_find_overlap.nd rfl (Or.inl rfl)) (pss_cons (ps_set (i := 5) sc_find_overlap.nd rfl (Or.inl rfl) (pe_call (ok__joint_assignment T) (hr.mono (by decide)) (by rfl) T.g__joint_assignment T.F__joint_assignment.kp (b__joint_assignment T) .nil pass0 (pa_cons (pv 0) (pa_cons (pv 3) (pa_cons (pv 4) pa_nil)))))
      (pss_one (ps_if (pt_cmpR op_notN (pv 5) pe_non (nomark _)) (pss_one (ps_ret (pe_tup (pa_cons (pv 3) (pa_cons (pv 4) (pa_cons (pv 5) pa_nil)))))) pss_nil))))))
      (pss_one (ps_ret pe_non))))), ?_⟩
    repeat (first | refine ⟨_, rfl, ?_⟩ | refine ⟨_, _, rfl, rfl, ?_⟩ | refine ⟨_, _, rfl, ?_⟩ | refine ⟨rfl, ?_⟩)
    exact .inr ⟨np, q⟩
theorem okx_is_exclusive {P : Program} {w : World} {K : PySem.W.Frag} {mg : Str → Option Value} {base : Heap} (T : Txt P K mg) : FnOk P w K mg base (L2.CX P w) 6 T.f_is_exclusive T.fd_is_exclusive ["problem"] (sp_onex K T.C_Problem T.C_InvalidProblem) := by
  refine T.F_is_exclusive.ok sc_is_exclusive (fun vs H Q E h => ?_) (fun cdv A outer s H vs Q E hr h => ?_)
  · obtain ⟨_, rfl, _⟩ := h; rfl
  · obtain ⟨v, rfl, np, q⟩ := h
    refine ⟨_, (pss_one (ps_ret (pe_cmpR op_isN (pe_callS (okx_find_overlap T) (hr.mono (by decide)) (by rfl) T.g_find_overlap T.F_find_overlap.kp (b_find_overlap T) (passAt (takes_of rfl rfl rfl rfl)) (pa_cons (pv 0) pa_nil)) pe_non (nomark _)))), ?_⟩
    repeat (first | refine ⟨_, rfl, ?_⟩ | refine ⟨_, _, rfl, rfl, ?_⟩ | refine ⟨_, _, rfl, ?_⟩ | refine ⟨rfl, ?_⟩)
    exact ⟨np, q⟩
def sp_twox (K : PySem.W.Frag) (C CI : Addr) : Sp := fun vs H Q E => ∃ v u : V, vs = [v, u] ∧ NotP K C H v ∧ raisesV CI E v H
theorem okx_shows_overlap {P : Program} {w : World} {K : PySem.W.Frag} {mg : Str → Option Value} {base : Heap} (T : Txt P K mg) : FnOk P w K mg base (L2.CX P w) 7 T.f_shows_overlap T.fd_shows_overlap ["problem", "value"] (sp_twox K T.C_Problem T.C_InvalidProblem) := by
  refine T.F_shows_overlap.ok sc_shows_overlap (fun vs H Q E h => ?_) (fun cdv A outer s H vs Q E hr h => ?_)
  · obtain ⟨_, _, rfl, _⟩ := h; rfl
  · obtain ⟨v, u, rfl, np, q⟩ := h
    refine ⟨_, (pss_cons (ps_expr (pe_callS (okx_check_problem T) (hr.mono (by decide)) (by rfl) T.g_check_problem T.F_check_problem.kp (b_check_problem T) (passAt (takes_of rfl rfl rfl rfl)) (pa_cons (pv 0) pa_nil)))
      (pss_cons (ps_if (PW.pt (pw_or (pt_not (pt_val (pe_callB (show CallR _ _ (rIsi K) from call_isi) (by rfl) T.n_isinstance (by decide +kernel) (pa_cons (pv 1) (pa_cons (pe_bltn (v := .ty "tuple") (by rfl) T.n_tuple (by decide +kernel) rfl) pa_nil))))) (pw_or1 (pt_cmpR op_ne (pe_callB (show CallR _ _ (rLenSeq K) from call_len_seq) (by rfl) T.n_len (by decide +kernel) (pa_cons (pv 1) pa_nil)) pe_int (nomark _))))) (pss_one (ps_ret pe_bl)) pss_nil)
      (pss_cons (ps_asg (pv 1) (pg_tup rfl (pgs_cons (pg_name (i := 2) sc_shows_overlap.nd rfl (Or.inl rfl)) (pgs_cons (pg_name (i := 3) sc_shows_overlap.nd rfl (Or.inl rfl)) (pgs_cons (pg_name (i := 4) sc_shows_overlap.nd rfl (Or.inl rfl)) pgs_nil)))))
      (pss_cons (ps_if (PW.pt (pw_or (pt_not (pt_val (pe_meth (pl := _) (pv 0) T.cl_Problem T.m_Problem_is_event (ok_Problem_is_event2 T) (hr.mono (by decide)) (b_Problem_is_event T) .nil pass0 (pa_cons (pv 2) pa_nil)))) (pw_or (pt_not (pt_val (pe_meth (pl := _) (pv 0) T.cl_Problem T.m_Problem_is_event (ok_Problem_is_event2 T) (hr.mono (by decide)) (b_Problem_is_event T) .nil pass0 (pa_cons (pv 3) pa_nil)))) (pw_or1 (pt_not (pt_val (pe_meth (pl := _) (pv 0) T.cl_Problem T.m_Problem_is_assignment (ok_Problem_is_assignment T) (hr.mono (by decide)) (b_Problem_is_assignment T) .nil pass0 (pa_cons (pv 4) pa_nil)))))))) (pss_one (ps_ret pe_bl)) pss_nil)
      (pss_cons (ps_if (PW.pt (pw_or (pt_cmpR op_eq (pv 2) (pv 3) (nomark _)) (pw_or1 (pt_not (pt_val (pe_meth (pl := _) (pv 0) T.cl_Problem T.m_Problem_are_adjacent (ok_Problem_are_adjacent T) (hr.mono (by decide)) (b_Problem_are_adjacent T) .nil pass0 (pa_cons (pv 2) (pa_cons (pv 3) pa_nil)))))))) (pss_one (ps_ret pe_bl)) pss_nil)
      (pss_one (ps_ret (pe_and (pe_meth (pl := _) (pv 0) T.cl_Problem T.m_Problem_occurs (ok_Problem_occurs T) (hr.mono (by decide)) (b_Problem_occurs T) .nil pass0 (pa_cons (pv 2) (pa_cons (pv 4) pa_nil))) (pe_one (pe_meth (pl := _) (pv 0) T.cl_Problem T.m_Problem_occurs (ok_Problem_occurs T) (hr.mono (by decide)) (b_Problem_occurs T) .nil pass0 (pa_cons (pv 3) (pa_cons (pv 4) pa_nil)))))))))))), ?_⟩
    repeat (first | refine ⟨_, rfl, ?_⟩ | refine ⟨_, _, rfl, rfl, ?_⟩ | refine ⟨_, _, rfl, ?_⟩ | refine ⟨rfl, ?_⟩)
    exact .inr ⟨np, q⟩
/-! ### exceptions caught -/
def sp_caught (K : PySem.W.Frag) (C : Addr) : Sp := fun vs H Q _ => ∃ (d : Int) (v : V), vs = [.int d, v] ∧ (d = 0 ∨ d = 1 ∨ d = 2) ∧ NotP K C H v ∧ ∀ l H', Same H H' → H l = none → H' l = some (.lst [.str (Str.ofString "problem"), v]) → Q (.ref l) H'
theorem ok_l_caught {P : Program} {w : World} {K : PySem.W.Frag} {mg : Str → Option Value} {base : Heap} (T : Txt P K mg) : FnOk P w K mg base CX0 8 T.f_l_caught T.fd_l_caught ["_law_door", "_law_value"] (sp_caught K T.C_Problem) := by
  refine T.F_l_caught.ok sc_l_caught (fun vs H Q E h => ?_) (fun cdv A outer s H vs Q E hr h => ?_)
  · obtain ⟨_, _, rfl, _⟩ := h; rfl
  · obtain ⟨d, v, rfl, hd, np, q⟩ := h
    refine ⟨_, PSs.nox (pss_one (ps_tryG rfl rfl (fun W pn xe tk pso => (pss_cons (ps_if (pt_cmpR op_lt (pv 0) pe_int (nomark _)) (pss_one (ps_ret (pe_lst (pa_cons pe_str (pa_cons (pe_ifExp (pt_cmpR op_eq (pv 0) pe_int (nomark _)) (pe_callS (okx_find_overlap T) (hr.mono (by decide)) (by rfl) T.g_find_overlap T.F_find_overlap.kp (b_find_overlap T) (passAt tk) (pa_cons (pv 1) pa_nil)) (pe_callS (okx_is_exclusive T) (hr.mono (by decide)) (by rfl) T.g_is_exclusive T.F_is_exclusive.kp (b_is_exclusive T) (passAt tk) (pa_cons (pv 1) pa_nil))) pa_nil))))) pss_nil)
      (pss_one (ps_ret (pe_lst (pa_cons pe_str (pa_cons (pe_callS (okx_shows_overlap T) (hr.mono (by decide)) (by rfl) T.g_shows_overlap T.F_shows_overlap.kp (b_shows_overlap T) (passAt tk) (pa_cons (pv 1) (pa_cons pe_non pa_nil))) pa_nil)))))))
      (HdsG.as_ (i := 2) sc_l_caught.nd rfl rfl ⟨by rfl, by decide, .inl T.x_InvalidProblem.gC⟩ (fun a oe cls d pn hz hf => (pss_one (ps_ret (pe_lst (pa_cons pe_str (pa_cons (pe_fldX T.x_InvalidProblem hz hf (pv 2)) pa_nil)))))) HdsG.stop))), ?_⟩
    rcases hd with rfl | rfl | rfl
    · repeat (first | refine ⟨_, rfl, ?_⟩ | refine ⟨_, _, rfl, rfl, ?_⟩ | refine ⟨_, _, rfl, ?_⟩ | refine ⟨rfl, ?_⟩)
      refine ⟨np, fun e ne => ⟨true, T.exm_InvalidProblem_InvalidProblem, fun _ a na => ?_, fun z => nomatch z⟩⟩
      repeat (first | refine ⟨_, rfl, ?_⟩ | refine ⟨_, _, rfl, rfl, ?_⟩ | refine ⟨_, _, rfl, ?_⟩ | refine ⟨rfl, ?_⟩)
      refine ⟨e, _, rfl, upd_same, ?_⟩
      repeat (first | refine ⟨_, rfl, ?_⟩ | refine ⟨_, _, rfl, rfl, ?_⟩ | refine ⟨_, _, rfl, ?_⟩ | refine ⟨rfl, ?_⟩)
      refine ⟨lenk 2 rfl (by decide), fun l nl => ?_⟩
      exact q l _ ((Same.new ne).trans (Same.new nl)) (Same.none (Same.new ne) nl) upd_same
    · repeat (first | refine ⟨_, rfl, ?_⟩ | refine ⟨_, _, rfl, rfl, ?_⟩ | refine ⟨_, _, rfl, ?_⟩ | refine ⟨rfl, ?_⟩)
      refine ⟨np, fun e ne => ⟨true, T.exm_InvalidProblem_InvalidProblem, fun _ a na => ?_, fun z => nomatch z⟩⟩
      repeat (first | refine ⟨_, rfl, ?_⟩ | refine ⟨_, _, rfl, rfl, ?_⟩ | refine ⟨_, _, rfl, ?_⟩ | refine ⟨rfl, ?_⟩)
      refine ⟨e, _, rfl, upd_same, ?_⟩
      repeat (first | refine ⟨_, rfl, ?_⟩ | refine ⟨_, _, rfl, rfl, ?_⟩ | refine ⟨_, _, rfl, ?_⟩ | refine ⟨rfl, ?_⟩)
      refine ⟨lenk 2 rfl (by decide), fun l nl => ?_⟩
      exact q l _ ((Same.new ne).trans (Same.new nl)) (Same.none (Same.new ne) nl) upd_same
    · repeat (first | refine ⟨_, rfl, ?_⟩ | refine ⟨_, _, rfl, rfl, ?_⟩ | refine ⟨_, _, rfl, ?_⟩ | refine ⟨rfl, ?_⟩)
      refine ⟨np, fun e ne => ⟨true, T.exm_InvalidProblem_InvalidProblem, fun _ a na => ?_, fun z => nomatch z⟩⟩
      repeat (first | refine ⟨_, rfl, ?_⟩ | refine ⟨_, _, rfl, rfl, ?_⟩ | refine ⟨_, _, rfl, ?_⟩ | refine ⟨rfl, ?_⟩)
      refine ⟨e, _, rfl, upd_same, ?_⟩
      repeat (first | refine ⟨_, rfl, ?_⟩ | refine ⟨_, _, rfl, rfl, ?_⟩ | refine ⟨_, _, rfl, ?_⟩ | refine ⟨rfl, ?_⟩)
      refine ⟨lenk 2 rfl (by decide), fun l nl => ?_⟩
      exact q l _ ((Same.new ne).trans (Same.new nl)) (Same.none (Same.new ne) nl) upd_same

end K13
namespace K13
open PySem PySem.Spec PyProof.Rows L2 TL
/-! ### tuples that agree -/
theorem zip_kv (sc : List Str) : (sc.map (Sum.inr : Str → Key)).map kV = sc.map V.str := by rw [List.map_map]; rfl
theorem zip_sub {α β : Type} : ∀ (l : List α) (m : List β), ((l.zip m).map (·.1)).Sublist l
  | [], _ => by simp
  | _ :: _, [] => by simp
  | a :: l, b :: m => by rw [List.zip_cons_cons, List.map_cons]; exact (zip_sub l m).cons₂ a
theorem merge_zip {sc : List Str} {ys : List V} (nd : sc.Nodup) : mergeK [] ((sc.map (Sum.inr : Str → Key)).zip ys) = (sc.map Sum.inr).zip ys := by
  rw [merge_new _ [] ?_ (fun _ _ h => by cases h), List.nil_append]
  exact List.Nodup.sublist (zip_sub _ _) (inr_nodup nd)
theorem nm_shaped {zs : List Str} (h : ∀ x ∈ zs, NameOk x) : SeqAt.shaped (.list (zs.map PyData.str)) = true := (Shd.list (k := 0) fun d hd => by
  obtain ⟨s, hs, rfl⟩ := List.mem_map.mp hd
  exact Shd.str (h s hs)).shaped (by decide)
theorem nil_shaped : SeqAt.shaped (.list []) = true := (Shd.list (k := 0) all0).shaped (by decide)
theorem eqv_nil (us : List Str) : PyData.eqv (.list (us.map PyData.str)) (.list []) = decide (us = []) := by
  have h := eqv_mapI PyData.str eqv_s2 us []
  rw [List.map_nil] at h
  exact h
theorem ftake {α : Type} (f : α → Bool) {l : List α} {i : Nat} {x : α} (h : l[i]? = some x) : (l.take (i + 1)).filter f = (l.take i).filter f ++ if f x = true then [x] else [] := by
  rw [List.take_add_one, h, List.filter_append]
  show _ ++ [x].filter f = _
  rw [List.filter_cons, List.filter_nil]
def dis (r : Row) (v : List Int) (q : Str × Int) : Bool := !decide (getP (r.2.1.zip v) q.1 q.2 = q.2)
theorem getP_some {sc : List Str} {v : List Int} {x : Str} (lv : v.length = sc.length) (hx : x ∈ sc) (d : Int) : ∃ k, (sc.zip v).find? (fun q => decide (q.1 = x)) = some (x, k) ∧ getP (sc.zip v) x d = k := by
  cases e : (sc.zip v).find? (fun q => decide (q.1 = x)) with
  | none =>
    rw [List.find?_eq_none] at e
    obtain ⟨i, hi⟩ := List.getElem?_of_mem hx
    obtain ⟨li, _⟩ := List.getElem?_eq_some_iff.mp hi
    have hz : (sc.zip v)[i]? = some (x, v[i]) := List.getElem?_zip_eq_some.mpr ⟨hi, List.getElem?_eq_getElem (by omega)⟩
    exact absurd (decide_eq_true rfl) (e _ (List.mem_of_getElem? hz))
  | some q =>
    have h := List.find?_some e
    have h1 : q.1 = x := of_decide_eq_true h
    refine ⟨q.2, by rw [← h1], ?_⟩
    unfold getP
    rw [e]; rfl
theorem dis_out {r : Row} {v : List Int} {q : Str × Int} (h : q.1 ∉ r.2.1) : dis r v q = false := by
  unfold dis getP
  have e : (r.2.1.zip v).find? (fun z => decide (z.1 = q.1)) = none := by
    rw [List.find?_eq_none]
    intro z hz c
    exact h (by rw [← of_decide_eq_true c]; exact (List.of_mem_zip (show (z.1, z.2) ∈ _ from hz)).1)
  rw [e]
  simp
theorem agr_nil (r s : Row) (v m : List Int) : decide (((s.2.1.zip m).filter (dis r v)).map (·.1) = []) = agr r s v m := by
  rw [Bool.eq_iff_iff, decide_eq_true_iff, List.map_eq_nil_iff, List.filter_eq_nil_iff]
  unfold agr dis
  rw [List.all_eq_true]
  exact ⟨fun h q hq => by simpa using h q hq, fun h q hq => by simpa using h q hq⟩
def sp_lagree (K : PySem.W.Frag) : Sp := fun vs H Q _ => ∃ (a t b u : Addr) (r s : Row) (v m : List Int), vs = [.ref a, .ref t, .ref b, .ref u] ∧ H a = some (.lst (r.2.1.map V.str)) ∧ H t = some (.tup (v.map V.int)) ∧ H b = some (.lst (s.2.1.map V.str)) ∧ H u = some (.tup (m.map V.int)) ∧ r.2.1.Nodup ∧ v.length = r.2.1.length ∧ s.2.1.length ≤ 4 ∧ (∀ x ∈ s.2.1, NameOk x) ∧ ∀ H', Same H H' → Q (.bl (agr r s v m)) H'
theorem ok_l_agree {P : Program} {w : World} {K : PySem.W.Frag} {mg : Str → Option Value} {base : Heap} (T : Txt P K mg) : FnOk P w K mg base CX0 1 T.f_l_agree T.fd_l_agree ["_law_scope_here", "_law_one", "_law_more", "_law_other"] (sp_lagree K) := by
  refine T.F_l_agree.ok sc_l_agree (fun vs H Q E h => ?_) (fun cdv A outer s H vs Q E hr h => ?_)
  · obtain ⟨_, _, _, _, _, _, _, _, rfl, _⟩ := h; rfl
  · obtain ⟨a, t, b, u, r, w, v, m, rfl, ha, ht, hb, hu, nd, lv, l4, nm, q⟩ := h
    refine ⟨_, PSs.nox (pss_cons (ps_set (i := 4) sc_l_agree.nd rfl (Or.inr rfl) (show PE _ _ (tDictZip K _) from pe_dictZip (by rfl) (by rfl) T.n_dict (by decide +kernel) (by rfl) T.n_zip (pa_cons (pv 0) (pa_cons (pv 1) pa_nil))))
      (pss_one (ps_ret (pe_cmpR (show OpR _ (compareOp .Eq) (rEqD K) from op_eqD hr.units) (pe_lc (own := [("_law_name", 5), ("_law_value", 6)]) (g := gTup K 2 (gCons (gName 5) (gCons (gName 6) gNil))) rfl sc_l_agree.nd (pi_zipN (by rfl) T.n_zip (pa_cons (pv 2) (pa_cons (pv 3) pa_nil))) (blkOk_by (own := [("_law_name", 5), ("_law_value", 6)]) (N := N_l_agree) (sc := defScope s_l_agree) (by decide +kernel)) (fun _ _ _ _ _ => (pg_tup rfl (pgs_cons (pg_name (i := 5) sc_l_agree.nd rfl (Or.inl rfl)) (pgs_cons (pg_name (i := 6) sc_l_agree.nd rfl (Or.inl rfl)) pgs_nil)))) (fun _ _ _ _ _ => pts_one (PW.pt (pw_and (pt_cmpR (show OpR _ (compareOp .In) (rIn K false) from op_in_seq) (pv 5) (pv 0) (by first | rfl | with_unfolding_all rfl)) (pw_and1 (pt_cmpR op_ne (pe_dget (hu_of hr) (pv 4) (pv 5) (fun _ _ => rfl)) (pv 6) (nomark _)))))) (fun _ _ _ _ _ => (pv 5))) (pe_lst pa_nil) (nomark _))))), ?_⟩
    repeat (first | refine ⟨_, rfl, ?_⟩ | refine ⟨_, _, rfl, rfl, ?_⟩ | refine ⟨_, _, rfl, ?_⟩ | refine ⟨rfl, ?_⟩)
    refine ⟨a, t, r.2.1.map Sum.inr, _, rfl, by rw [zip_kv]; exact SqL.of ha, .inl (.inl ht), fun dq nq => ?_⟩
    rw [merge_zip nd, show (r.2.1.map (Sum.inr : Str → Key)).zip (v.map V.int) = kvL (r.2.1.zip v) by unfold kvL; rw [List.zip_map]; rfl]
    have s1 : Same H (upd H dq (.dK (kvL (r.2.1.zip v)))) := Same.new nq
    have hq : upd H dq (.dK (kvL (r.2.1.zip v))) dq = some (.dK (kvL (r.2.1.zip v))) := upd_same
    generalize upd H dq (.dK (kvL (r.2.1.zip v))) = H1 at s1 hq
    repeat (first | refine ⟨_, rfl, ?_⟩ | refine ⟨_, _, rfl, rfl, ?_⟩ | refine ⟨_, _, rfl, ?_⟩ | refine ⟨rfl, ?_⟩)
    refine ⟨b, u, _, _, rfl, SqL.of (s1 _ _ hb), .inl (.inl (s1 _ _ hu)), fun D nD => ?_⟩
    refine lc_it (walk_zipN (K := K) (a := b) (b := u) (xs := w.2.1.map V.str) (ys := m.map V.int)) (fun i H' => H' D = some (.lst (((((w.2.1.zip m).take i).filter (dis r v)).map (·.1)).map V.str)) ∧ Same H1 H') ⟨upd_same, Same.new nD⟩ (fun i H' _ h => ⟨SqL.of (h.2 _ _ (s1 _ _ hb)), .inl (.inl (h.2 _ _ (s1 _ _ hu)))⟩) ?_ ?_
    · rintro i x H4 H5 hi ⟨hD, s4⟩ ⟨u2, a1, a2, rfl, nu, rfl, h1, h2⟩
      obtain ⟨n, hn, rfl⟩ : ∃ n, w.2.1[i]? = some n ∧ V.str n = a1 := by dsimp only at h1; rw [List.getElem?_map] at h1; exact Option.map_eq_some_iff.mp h1
      obtain ⟨k, hk, rfl⟩ : ∃ k, m[i]? = some k ∧ V.int k = a2 := by dsimp only at h2; rw [List.getElem?_map] at h2; exact Option.map_eq_some_iff.mp h2
      have hz : (w.2.1.zip m)[i]? = some (n, k) := List.getElem?_zip_eq_some.mpr ⟨hn, hk⟩
      have s5 : Same H1 (upd H4 u2 (.tup [.str n, .int k])) := s4.trans (Same.new nu)
      have hD5 := (Same.new (o := .tup [.str n, .int k]) nu) _ _ hD
      refine ⟨u2, _, rfl, .inl (.inl upd_same), rfl, _, _, rfl, ?_⟩
      generalize upd H4 u2 (.tup [.str n, .int k]) = H6 at s5 hD5
      rw [ftake _ hz]
      repeat (first | refine ⟨_, rfl, ?_⟩ | refine ⟨_, _, rfl, rfl, ?_⟩ | refine ⟨_, _, rfl, ?_⟩ | refine ⟨rfl, ?_⟩)
      refine ⟨a, _, rfl, .inl (SqL.of (s5 _ _ (s1 _ _ ha))), rfl, flat_str _, ?_⟩
      rw [inV_str]
      by_cases hm : n ∈ r.2.1
      · rw [decide_eq_true hm]
        repeat (first | refine ⟨_, rfl, ?_⟩ | refine ⟨_, _, rfl, rfl, ?_⟩ | refine ⟨_, _, rfl, ?_⟩ | refine ⟨rfl, ?_⟩)
        obtain ⟨k2, hf, hg⟩ := getP_some lv hm k
        have dg : DGet H6 dq (.str n) (some (.int k2)) := by
          have e : valV (kvL (r.2.1.zip v)) (Sum.inr n) = some (.int k2) := by rw [kvL_val, hf]; rfl
          rw [← e]; exact DGet.k (k := Sum.inr n) (s5 _ _ hq)
        refine ⟨dq, _, rfl, dg, ?_⟩
        repeat (first | refine ⟨_, rfl, ?_⟩ | refine ⟨_, _, rfl, rfl, ?_⟩ | refine ⟨_, _, rfl, ?_⟩ | refine ⟨rfl, ?_⟩)
        have ed : dis r v (n, k) = !decide (k2 = k) := by unfold dis; rw [hg]
        refine ite2 (fun c => ?_) (fun c => ?_)
        · have cd : decide (k2 = k) = false := by simpa using c
          repeat (first | refine ⟨_, rfl, ?_⟩ | refine ⟨_, _, rfl, rfl, ?_⟩ | refine ⟨_, _, rfl, ?_⟩ | refine ⟨rfl, ?_⟩)
          refine ⟨_, hD5, ?_, ?_, Same.upd_p s5 nD⟩
          · rw [List.length_map, List.length_map, sizeLine_eq]
            have := List.length_filter_le (dis r v) ((w.2.1.zip m).take i)
            rw [List.length_take, List.length_zip] at this
            omega
          · rw [upd_same, ed, cd, if_pos (show (!false) = true from rfl), List.map_append, List.map_append]; rfl
        · have cd : decide (k2 = k) = true := by simpa using c
          rw [ed, cd, if_neg (by decide), List.append_nil]
          exact ⟨hD5, s5⟩
      · rw [decide_eq_false hm]
        repeat (first | refine ⟨_, rfl, ?_⟩ | refine ⟨_, _, rfl, rfl, ?_⟩ | refine ⟨_, _, rfl, ?_⟩ | refine ⟨rfl, ?_⟩)
        rw [if_neg (by rw [dis_out hm]; decide), List.append_nil]
        exact ⟨hD5, s5⟩
    rintro H2 ⟨h2, s2⟩
    rw [List.length_map, List.length_map, ← List.length_zip, List.take_length] at h2
    repeat (first | refine ⟨_, rfl, ?_⟩ | refine ⟨_, _, rfl, rfl, ?_⟩ | refine ⟨_, _, rfl, ?_⟩ | refine ⟨rfl, ?_⟩)
    refine ⟨Nat.zero_le _, fun q1 nq1 => ?_⟩
    have k1 := Same.new (o := .lst []) nq1
    refine ⟨.list ((((w.2.1.zip m).filter (dis r v)).map (·.1)).map PyData.str), .list [], .lst (SqL.of (k1 _ _ h2)) (dp_strs _), .lst (SqL.of upd_same) .nil, nm_shaped (fun x hx => ?_), nil_shaped, ?_⟩
    · obtain ⟨q, hq, rfl⟩ := List.mem_map.mp hx
      exact nm _ (List.of_mem_zip (show (q.1, q.2) ∈ _ from (List.mem_filter.mp hq).1)).1
    rw [eqv_nil, agr_nil]
    exact q _ ((s1.trans s2).trans k1)

end K13
namespace K13
open PySem PySem.Spec PyProof.Rows L2 TL
/-! ### the law's own overlap -/
theorem eqv_nilG (ds : List PyData) : PyData.eqv (.list ds) (.list []) = ds.isEmpty := by
  cases ds <;> simp [PyData.eqv, PyData.eqvAll]
theorem share_filter (a b : List Str) : (!decide ((a.filter fun x => decide (x ∈ b)) = [])) = share a b := by
  unfold share
  induction a with
  | nil => rfl
  | cons x r ih =>
    rw [List.filter_cons, List.any_cons]
    by_cases h : x ∈ b
    · rw [decide_eq_true h, if_pos rfl, Bool.true_or]; rfl
    · rw [decide_eq_false h, if_neg Bool.false_ne_true, Bool.false_or]; exact ih
theorem merge_app : ∀ (a b kvs : List (Key × V)), mergeK kvs (a ++ b) = mergeK (mergeK kvs a) b
  | [], _, _ => rfl
  | (k, v) :: a, b, kvs => merge_app a b (putK kvs k v)
theorem getP_off {l : List (Str × Int)} {x : Str} (h : x ∉ l.map (·.1)) (d : Int) : getP l x d = d := by
  unfold getP
  rw [List.find?_eq_none.mpr fun q hq c => h (List.mem_map.mpr ⟨q, hq, of_decide_eq_true c⟩)]
  rfl
theorem merge_getD : ∀ (l : List (Str × Int)) (kvs : List (Key × V)) (d e : Int) (x : Str), (l.map (·.1)).Nodup → (valV kvs (Sum.inr x)).getD (V.int d) = V.int e → (valV (mergeK kvs (kvL l)) (Sum.inr x)).getD (V.int d) = V.int (getP l x e)
  | [], _, _, _, _, _, h => h
  | q :: l, kvs, d, e, x, nd, h => by
    rw [List.map_cons, List.nodup_cons] at nd
    show (valV (mergeK (putK kvs (Sum.inr q.1) (V.int q.2)) (kvL l)) (Sum.inr x)).getD (V.int d) = _
    by_cases c : q.1 = x
    · subst c
      rw [merge_getD l _ d q.2 q.1 nd.2 (by rw [valV_put, if_pos rfl]; rfl), getP_off nd.1]
      unfold getP
      rw [List.find?_cons, decide_eq_true rfl]; rfl
    · rw [merge_getD l _ d e x nd.2 (by rw [valV_put, if_neg (fun z => c (Sum.inr.inj z).symm)]; exact h)]
      unfold getP
      rw [List.find?_cons, decide_eq_false c]
theorem two_getD {r s : Row} {v m : List Int} (n1 : r.2.1.Nodup) (n2 : s.2.1.Nodup) (x : Str) : (valV (mergeK [] (kvL (r.2.1.zip v) ++ kvL (s.2.1.zip m))) (Sum.inr x)).getD (V.int 0) = V.int (getP (s.2.1.zip m) x (getP (r.2.1.zip v) x 0)) := by
  rw [merge_app]
  exact merge_getD _ _ _ _ _ (List.Nodup.sublist (zip_sub _ _) n2) (merge_getD _ _ _ _ _ (List.Nodup.sublist (zip_sub _ _) n1) rfl)
theorem pd_isT {H : Hp} : ∀ {xs : List V} {bs : List (List Int)}, Paired ((sT sInt).at [] H) xs bs → Paired (isTupI H (fun _ => True)) xs bs := fun h => Paired.mono (fun _ _ z => by
  obtain ⟨t, e, _, h⟩ := Sh.tints z
  exact ⟨t, e, trivial, h⟩) h
theorem adjB_sh {R : List Row} (nd : (R.map (·.1)).Nodup) {i j : Nat} {r s : Row} (hi : R[i]? = some r) (hj : R[j]? = some s) (ij : i ≠ j) : adjB r s = share r.2.1 s.2.1 := by
  unfold adjB
  rw [decide_eq_false, Bool.false_or]
  intro e
  exact ij (nd_at nd (x := r.1) (by rw [List.getElem?_map, hi]; rfl) (by rw [List.getElem?_map, hj, e]; rfl))
def kvT (q : Str × Int) : Key × V := (Sum.inr q.1, V.int q.2)
theorem pd_to_map {α β γ : Type} {R : α → γ → Prop} {f : β → γ} : ∀ {l : List α} {m : List β}, Paired (fun a b => R a (f b)) l m → Paired R l (m.map f)
  | _, _, .nil => .nil
  | _, _, .cons a b => .cons a (pd_to_map b)
theorem pt_kv {K : PySem.W.Frag} {H : Hp} {sc : List Str} {v : List Int} {ts : List Addr} (h : Paired (fun t (p : V × V) => H t = some (.tup [p.1, p.2])) ts ((sc.map V.str).zip (v.map V.int))) : Paired (fun p (kv : Key × V) => SqT K H p [kV kv.1, kv.2]) ts (kvL (sc.zip v)) := by
  have e : (sc.map V.str).zip (v.map V.int) = (sc.zip v).map fun q => (V.str q.1, V.int q.2) := by
    rw [List.zip_map]; rfl
  rw [e] at h
  unfold kvL
  exact pd_to_map (Paired.mono (fun _ _ a => .inl (.inl a)) (pd_of_map (R := fun t (p : V × V) => H t = some (.tup [p.1, p.2])) (f := fun q : Str × Int => (V.str q.1, V.int q.2)) h))
def sp_lovl (K : PySem.W.Frag) : Sp := fun vs H Q _ => ∃ (z y : V) (L : List (Str × Int)) (R S : List Row), vs = [z, y] ∧ (sL sVar).at [] H z L ∧ (sL sRow).at [] H y R ∧ VarsOk L ∧ EvsOk L R ∧ Paired SrtR R S ∧
  ∀ H', Same H H' → (ovl L S = none → Q .non H') ∧ ∀ x y ns t u, ovl L S = some (x, y, ns) → H t = none → H u = none → H' u = some (.tup (ns.map V.int)) → H' t = some (.tup [.str x, .str y, .ref u]) → Q (.ref t) H'
theorem ok_l_overlap {P : Program} {w : World} {K : PySem.W.Frag} {mg : Str → Option Value} {base : Heap} (T : Txt P K mg) : FnOk P w K mg base CX0 2 T.f_l_overlap T.fd_l_overlap ["_law_sizes", "_law_rows"] (sp_lovl K) := by
  refine T.F_l_overlap.ok sc_l_overlap (fun vs H Q E h => ?_) (fun cdv A outer s H vs Q E hr h => ?_)
  · obtain ⟨_, _, _, _, _, rfl, _⟩ := h; rfl
  · obtain ⟨z, y, L, R, S, rfl, hz, hy, okL, okR, pS, q⟩ := h
    obtain ⟨za, zs, rfl, -, hZ, pZ⟩ := hz
    obtain ⟨ya, ys, rfl, -, hY, pY⟩ := hy
    have lY := plen pY
    have lZ := plen pZ
    have r8 := okR.few
    have l8 := okL.few
    have lS : S.length = R.length := (plen pS).symm
    refine ⟨_, PSs.nox (pss_cons (ps_for PassesOwn.never rfl (pi_enum (by rfl) T.n_enumerate (pa_cons (pv 1) pa_nil)) (pg_tup rfl (pgs_cons (pg_name (i := 2) sc_l_overlap.nd rfl (Or.inl rfl)) (pgs_cons (pg_name (i := 3) sc_l_overlap.nd rfl (Or.inr rfl)) pgs_nil))) (pss_one (ps_for PassesOwn.never rfl (pi_list (pe_slice (show SlR _ (rSlL K) from sl_list) (pv 1) (po_some (pe_op op_add (pv 2) pe_int)) po_none)) (pg_name (i := 4) sc_l_overlap.nd rfl (Or.inr rfl)) (pss_one (ps_if (pt_cmpR (show OpR _ (compareOp .NotEq) (rNeD K) from op_neD hr.units) (pe_lc (own := [("_law_name", 8)]) (g := gName 8) rfl sc_l_overlap.nd (pi_list (pe_ix (show IxR _ (rIxT K) from ix_tup) (pv 3) pe_int (fun _ _ => rfl))) (blkOk_by (own := [("_law_name", 8)]) (N := N_l_overlap) (sc := defScope s_l_overlap) (by decide +kernel)) (fun _ _ _ _ _ => (pg_name (i := 8) sc_l_overlap.nd rfl (Or.inl rfl))) (fun _ _ _ _ _ => pts_one (pt_cmpR (show OpR _ (compareOp .In) (rIn K false) from op_in_seq) (pv 8) (pe_ix (show IxR _ (rIxT K) from ix_tup) (pv 4) pe_int (fun _ _ => rfl)) (by first | rfl | with_unfolding_all rfl))) (fun _ _ _ _ _ => (pv 8))) (pe_lst pa_nil) (nomark _)) (pss_one (ps_for PassesOwn.never rfl (pi_list (pe_callB (show CallR _ _ (rSortTT K) from cr_sortTT) (by rfl) T.n_sorted (by decide +kernel) (pa_cons (pe_ix (show IxR _ (rIxT K) from ix_tup) (pv 3) pe_int (fun _ _ => rfl)) pa_nil))) (pg_name (i := 5) sc_l_overlap.nd rfl (Or.inr rfl)) (pss_cons (ps_setLc (i := 6) (own := [("_law_two", 9)]) (g := gName 9) rfl sc_l_overlap.nd rfl rfl (sw_true rfl rfl rfl (by decide +kernel)) (pi_list (pe_callB (show CallR _ _ (rSortTT K) from cr_sortTT) (by rfl) T.n_sorted (by decide +kernel) (pa_cons (pe_ix (show IxR _ (rIxT K) from ix_tup) (pv 4) pe_int (fun _ _ => rfl)) pa_nil))) (blkOk_by (own := [("_law_two", 9)]) (N := N_l_overlap) (sc := defScope s_l_overlap) (by decide +kernel)) (fun _ _ _ _ _ => (pg_name (i := 9) sc_l_overlap.nd rfl (Or.inl rfl))) (fun _ _ _ _ _ => pts_one (pt_val (pe_call (ok_l_agree T) (hr.mono (by decide)) (by rfl) T.g_l_agree T.F_l_agree.kp (b_l_agree T) .nil pass0 (pa_cons (pe_ix (show IxR _ (rIxT K) from ix_tup) (pv 3) pe_int (fun _ _ => rfl)) (pa_cons (pv 5) (pa_cons (pe_ix (show IxR _ (rIxT K) from ix_tup) (pv 4) pe_int (fun _ _ => rfl)) (pa_cons (pv 9) pa_nil))))))) (fun _ _ _ _ _ => (pv 9)))
      (pss_one (ps_if (pt_cmpR (show OpR _ (compareOp .NotEq) (rNeD K) from op_neD hr.units) (pv 6) (pe_lst pa_nil) (nomark _)) (pss_cons (ps_set (i := 7) sc_l_overlap.nd rfl (Or.inr rfl) (pe_callTy (call_dictP rfl) (by rfl) T.n_dict (by decide +kernel) (pa_cons (pe_op op_cat (show PE _ _ (tListZip K _) from pe_listZip (by rfl) (by rfl) T.n_list (by decide +kernel) (by rfl) T.n_zip (pa_cons (pe_ix (show IxR _ (rIxT K) from ix_tup) (pv 3) pe_int (fun _ _ => rfl)) (pa_cons (pv 5) pa_nil))) (show PE _ _ (tListZip K _) from pe_listZip (by rfl) (by rfl) T.n_list (by decide +kernel) (by rfl) T.n_zip (pa_cons (pe_ix (show IxR _ (rIxT K) from ix_tup) (pv 4) pe_int (fun _ _ => rfl)) (pa_cons (pe_ix (show IxR _ (rIxL K) from ix_list) (pv 6) pe_int (fun _ _ => rfl)) pa_nil)))) pa_nil)))
      (pss_one (ps_ret (pe_tup (pa_cons (pe_ix (show IxR _ (rIxT K) from ix_tup) (pv 3) pe_int (fun _ _ => rfl)) (pa_cons (pe_ix (show IxR _ (rIxT K) from ix_tup) (pv 4) pe_int (fun _ _ => rfl)) (pa_cons (pe_callTy (show CallR _ _ (rTupOf K) from call_tuple_of) (by rfl) T.n_tuple (by decide +kernel) (pa_cons (pe_lc (own := [("_law_name", 8), ("_law_size", 10)]) (g := gTup K 2 (gCons (gName 8) (gCons (gName 10) gNil))) rfl sc_l_overlap.nd (pi_list (pv 0)) (blkOk_by (own := [("_law_name", 8), ("_law_size", 10)]) (N := N_l_overlap) (sc := defScope s_l_overlap) (by decide +kernel)) (fun _ _ _ _ _ => (pg_tup rfl (pgs_cons (pg_name (i := 8) sc_l_overlap.nd rfl (Or.inl rfl)) (pgs_cons (pg_name (i := 10) sc_l_overlap.nd rfl (Or.inl rfl)) pgs_nil)))) (fun _ _ _ _ _ => pts_nil) (fun _ _ _ _ _ => (pe_dget2 (hu_of hr) (pv 7) (pv 8) pe_int ⟨rfl, rfl, rfl, rfl⟩))) pa_nil)) pa_nil))))))) pss_nil))))) pss_nil)))))
      (pss_one (ps_ret pe_non))), ?_⟩
    repeat (first | refine ⟨_, rfl, ?_⟩ | refine ⟨_, _, rfl, rfl, ?_⟩ | refine ⟨_, _, rfl, ?_⟩ | refine ⟨rfl, ?_⟩)
    refine ⟨ya, _, rfl, SqL.of hY, for_it (walk_enum (K := K) (a := ya) (xs := ys)) (fun i σ G => ∃ z2 z3 z4 z5 z6 z7 z8 z9 z10, σ = [some (.ref za), some (.ref ya), z2, z3, z4, z5, z6, z7, z8, z9, z10] ∧ Same H G ∧ ∀ (j : Nat) (r : Row), j < i → S[j]? = some r → ((S.drop (j + 1)).findSome? fun s => (joint L r s r.2.2 s.2.2).map fun ns => (r.1, s.1, ns)) = none) ⟨_, _, _, _, _, _, _, _, _, rfl, Same.refl _, fun j r h => by omega⟩ (fun i σ G _ ⟨_, _, _, _, _, _, _, _, _, _, k, _⟩ => SqL.of (k _ _ hY)) ?_ ?_⟩
    · rintro i x σ H2 G2 hi ⟨z2, z3, z4, z5, z6, z7, z8, z9, z10, rfl, s2, hno⟩ ⟨t, y1, y2, rfl, nt, rfl, e1, e2⟩
      obtain rfl : y1 = .int ((i : Nat) : Int) := (Option.some.inj e1).symm
      obtain ⟨r, hr1, hm⟩ := pget' pY (show ys[i]? = some y2 from e2)
      have mr : r ∈ R := List.mem_of_getElem? hr1
      have rok := okR.ok r mr
      obtain ⟨r', hr', er'⟩ := pd_get pS hr1
      obtain ⟨tr, i1, i2, i3, rfl, -, htr, h1, h2, ⟨c, cs, rfl, -, hC, pC⟩⟩ := hm
      cases h1
      obtain ⟨a, rfl, -, ha⟩ := Sh.strs h2
      have s3 : Same H2 (upd H2 t (.tup [.int ((i : Nat) : Int), .ref tr])) := Same.new nt
      refine ⟨t, _, rfl, .inl (.inl upd_same), rfl, _, _, rfl, ?_⟩
      generalize upd H2 t (.tup [.int ((i : Nat) : Int), .ref tr]) = H3 at s3
      repeat (first | refine ⟨_, rfl, ?_⟩ | refine ⟨_, _, rfl, rfl, ?_⟩ | refine ⟨_, _, rfl, ?_⟩ | refine ⟨rfl, ?_⟩)
      have s03 := s2.trans s3
      refine ⟨ya, _, rfl, SqL.of (s03 _ _ hY), fun l4 nl4 => ?_⟩
      rw [show ((i : Nat) : Int) + 1 = ((i + 1 : Nat) : Int) from rfl, cut_from]
      have s4 : Same H3 (upd H3 l4 (.lst (ys.drop (i + 1)))) := Same.new nl4
      have hl4 : upd H3 l4 (.lst (ys.drop (i + 1))) l4 = some (.lst (ys.drop (i + 1))) := upd_same
      generalize upd H3 l4 (.lst (ys.drop (i + 1))) = H4 at s4 hl4
      have s14 : Same H H4 := s03.trans s4
      repeat (first | refine ⟨_, rfl, ?_⟩ | refine ⟨_, _, rfl, rfl, ?_⟩ | refine ⟨_, _, rfl, ?_⟩ | refine ⟨rfl, ?_⟩)
      refine ⟨⟨_, SqL.of hl4⟩, for_it (walk_list (K := K) (a := l4) (xs := ys.drop (i + 1))) (fun j σ G => ∃ z4 z5 z6 z7 z8 z9 z10, σ = [some (.ref za), some (.ref ya), some (.int ((i : Nat) : Int)), some (.ref tr), z4, z5, z6, z7, z8, z9, z10] ∧ Same H4 G ∧
        ∀ s ∈ (S.drop (i + 1)).take j, joint L r' s r'.2.2 s.2.2 = none) ⟨_, _, _, _, _, _, _, rfl, Same.refl _, by simp⟩ (fun j σ G _ ⟨_, _, _, _, _, _, _, _, k, _⟩ => SqL.of (k _ _ hl4)) ?_ ?_⟩
      · rintro j x σ Hx G5 hj ⟨z4, z5, z6, z7, z8, z9, z10, rfl, s5, hnj⟩ ⟨rfl, hx⟩
        rw [List.getElem?_drop] at hx
        obtain ⟨w, hw, hm⟩ := pget' pY hx
        have mw : w ∈ R := List.mem_of_getElem? hw
        have wok := okR.ok w mw
        obtain ⟨s', hs', es'⟩ := pd_get pS hw
        have hs2 : (S.drop (i + 1))[j]? = some s' := by rw [List.getElem?_drop]; exact hs'
        obtain ⟨tw, i1, i2, i3, rfl, -, htw, h1, h2, ⟨d, ds, rfl, -, hD, pD⟩⟩ := hm
        cases h1
        obtain ⟨b, rfl, -, hb⟩ := Sh.strs h2
        have s15 : Same H G5 := s14.trans s5
        have ej := joint_srt (L := L) er'.1 er'.2.1 es'.1 es'.2.1 r'.2.2 s'.2.2
        have ea : adjB r w = share r.2.1 w.2.1 := adjB_sh okR.nd hr1 hw (by omega)
        have sn : joint L r w r'.2.2 s'.2.2 = none → ∀ s ∈ (S.drop (i + 1)).take (j + 1), joint L r' s r'.2.2 s.2.2 = none := fun hn s hs => by
          rw [List.take_add_one, hs2] at hs
          rcases List.mem_append.mp hs with h | h
          · exact hnj s h
          · have : s = s' := by simpa using h
            rw [this, ej]; exact hn
        repeat (first | refine ⟨_, rfl, ?_⟩ | refine ⟨_, _, rfl, rfl, ?_⟩ | refine ⟨_, _, rfl, ?_⟩ | refine ⟨rfl, ?_⟩)
        refine ⟨tr, _, (1 : Int), _, rfl, rfl, .inl (.inl (s15 _ _ htr)), atI_nat (j := 1) rfl, ?_⟩
        refine ⟨a, rfl, ⟨_, SqL.of (s15 _ _ ha)⟩, fun D nD => ?_⟩
        refine lc_it (walk_list (K := K) (a := a) (xs := r.2.1.map V.str)) (fun i H' => H' D = some (.lst (((r.2.1.take i).filter fun z => decide (z ∈ w.2.1)).map V.str)) ∧ Same G5 H') ⟨upd_same, Same.new nD⟩ (fun i H' _ h => SqL.of (h.2 _ _ (s15 _ _ ha))) ?_ ?_
        · rintro k z H6 H7 hk ⟨h1, h2⟩ ⟨rfl, hz⟩
          obtain ⟨li, rfl⟩ := str_at' hz
          refine ⟨wipe_in (by decide), ?_⟩
          repeat (first | refine ⟨_, rfl, ?_⟩ | refine ⟨_, _, rfl, rfl, ?_⟩ | refine ⟨_, _, rfl, ?_⟩ | refine ⟨rfl, ?_⟩)
          refine ⟨tw, _, (1 : Int), _, rfl, rfl, .inl (.inl (h2 _ _ (s15 _ _ htw))), atI_nat (j := 1) rfl, ?_⟩
          refine ⟨b, _, rfl, .inl (SqL.of (h2 _ _ (s15 _ _ hb))), rfl, flat_str _, _, rfl, ?_⟩
          rw [inV_str, ftake _ (List.getElem?_eq_getElem li)]
          by_cases hm : r.2.1[k] ∈ w.2.1
          · rw [decide_eq_true hm]
            refine iteT ?_
            repeat (first | refine ⟨_, rfl, ?_⟩ | refine ⟨_, _, rfl, rfl, ?_⟩ | refine ⟨_, _, rfl, ?_⟩ | refine ⟨rfl, ?_⟩)
            have r4 := rok.few
            refine ⟨_, h1, ?_, ?_, Same.upd_p h2 nD⟩
            · rw [List.length_map, sizeLine_eq]
              have := List.length_filter_le (fun z => decide (z ∈ w.2.1)) (r.2.1.take k)
              rw [List.length_take] at this
              omega
            · rw [upd_same, if_pos rfl, List.map_append]; rfl
          · rw [decide_eq_false hm]
            refine iteF ⟨?_, h2⟩
            rw [if_neg Bool.false_ne_true, List.append_nil]
            exact h1
        rintro H6 ⟨h6, s6⟩
        rw [List.length_map, List.take_length] at h6
        refine ⟨Nat.zero_le _, fun q1 nq1 => ?_⟩
        have k1 := Same.new (o := .lst []) nq1
        refine ⟨.list ((r.2.1.filter fun z => decide (z ∈ w.2.1)).map PyData.str), .list [], .lst (SqL.of (k1 _ _ h6)) (dp_strs _), .lst (SqL.of upd_same) .nil, nm_shaped (fun s hs => by
          obtain ⟨q, hq, e⟩ := List.mem_map.mp (rok.sub s (List.mem_filter.mp hs).1)
          rw [← e]; exact okL.nm q hq), nil_shaped, ?_⟩
        rw [eqv_nil, share_filter, ← ea]
        have s56 : Same G5 (upd H6 q1 (.lst [])) := s6.trans k1
        generalize upd H6 q1 (.lst []) = H7 at s56
        clear k1
        refine ⟨_, rfl, ite2 (fun ca => ?_) (fun ca => ?_)⟩
        rotate_left
        · repeat (first | refine ⟨_, rfl, ?_⟩ | refine ⟨_, _, rfl, rfl, ?_⟩ | refine ⟨_, _, rfl, ?_⟩ | refine ⟨rfl, ?_⟩)
          exact ⟨_, _, _, _, _, _, _, rfl, s5.trans s56, sn (if_neg ca)⟩
        have s17 : Same H H7 := s15.trans s56
        repeat (first | refine ⟨_, rfl, ?_⟩ | refine ⟨_, _, rfl, rfl, ?_⟩ | refine ⟨_, _, rfl, ?_⟩ | refine ⟨rfl, ?_⟩)
        refine ⟨tr, _, (2 : Int), _, rfl, rfl, .inl (.inl (s17 _ _ htr)), atI_nat (j := 2) rfl, ?_⟩
        have pc7 : Paired (isTupI H7 (fun _ => True)) cs r.2.2 := Paired.mono (fun _ _ z => isTupI.same z s17) (pd_isT pC)
        have lc12 := rok.bfew
        have lpc := plen pC
        refine ⟨c, cs, rdT H7, r.2.1.length, 6, rfl, .inl (SqL.of (s17 _ _ hC)), by omega, rok.pos, sort_in pc7 (row_bd okL rok), fun out bq pm pw nq => ?_⟩
        obtain ⟨sr1, po1⟩ := sort_out pc7 pm pw
        have eo1 : out.map (rdT H7) = r'.2.2 := Srt.uniq (row_bd okL rok) sr1 er'.2.2
        rw [eo1] at po1
        clear sr1 pm pw eo1
        have s8 : Same H7 (upd H7 bq (.lst out)) := Same.new nq
        have hbq : upd H7 bq (.lst out) bq = some (.lst out) := upd_same
        generalize upd H7 bq (.lst out) = H8 at s8 hbq
        have s18 := s17.trans s8
        have s58 : Same G5 H8 := s56.trans s8
        repeat (first | refine ⟨_, rfl, ?_⟩ | refine ⟨_, _, rfl, rfl, ?_⟩ | refine ⟨_, _, rfl, ?_⟩ | refine ⟨rfl, ?_⟩)
        refine ⟨⟨_, SqL.of hbq⟩, for_it (walk_list (K := K) (a := bq) (xs := out)) (fun k σ G => ∃ z5 z6 z7 z8 z9 z10, σ = [some (.ref za), some (.ref ya), some (.int ((i : Nat) : Int)), some (.ref tr), some (.ref tw), z5, z6, z7, z8, z9, z10] ∧ Same H8 G ∧ ∀ v ∈ r'.2.2.take k, s'.2.2.find? (agr r w v) = none) ⟨_, _, _, _, _, _, rfl, Same.refl _, by simp⟩ (fun k σ G _ ⟨_, _, _, _, _, _, _, k, _⟩ => SqL.of (k _ _ hbq)) ?_ ?_⟩
        · rintro k x σ Hx G9 hk ⟨y5, y6, y7, y8, y9, y10, rfl, s9, hnv⟩ ⟨rfl, hx⟩
          obtain ⟨v, hv, ⟨tv, rfl, _, htv⟩⟩ := pd_get po1 hx
          have mv : v ∈ r.2.2 := er'.2.2.1.mem_iff.mp (List.mem_of_getElem? hv)
          have lv := (row_bd okL rok v mv).1
          have s19 := s18.trans s9
          repeat (first | refine ⟨_, rfl, ?_⟩ | refine ⟨_, _, rfl, rfl, ?_⟩ | refine ⟨_, _, rfl, ?_⟩ | refine ⟨rfl, ?_⟩)
          refine ⟨tw, _, (2 : Int), _, rfl, rfl, .inl (.inl (s19 _ _ htw)), atI_nat (j := 2) rfl, ?_⟩
          have pd9 : Paired (isTupI G9 (fun _ => True)) ds w.2.2 := Paired.mono (fun _ _ z => isTupI.same z s19) (pd_isT pD)
          have ld12 := wok.bfew
          have lpd := plen pD
          refine ⟨d, ds, rdT G9, w.2.1.length, 6, rfl, .inl (SqL.of (s19 _ _ hD)), by omega, wok.pos, sort_in pd9 (row_bd okL wok), fun out2 bq2 pm2 pw2 nq2 => ?_⟩
          obtain ⟨sr2, po2⟩ := sort_out pd9 pm2 pw2
          have eo2 : out2.map (rdT G9) = s'.2.2 := Srt.uniq (row_bd okL wok) sr2 es'.2.2
          rw [eo2] at po2
          clear sr2 pm2 pw2 eo2
          have s10 : Same G9 (upd G9 bq2 (.lst out2)) := Same.new nq2
          have hbq2 : upd G9 bq2 (.lst out2) bq2 = some (.lst out2) := upd_same
          generalize upd G9 bq2 (.lst out2) = H10 at s10 hbq2
          have s110 := s19.trans s10
          repeat (first | refine ⟨_, rfl, ?_⟩ | refine ⟨_, _, rfl, rfl, ?_⟩ | refine ⟨_, _, rfl, ?_⟩ | refine ⟨rfl, ?_⟩)
          refine ⟨⟨_, SqL.of hbq2⟩, fun D nD => ?_⟩
          refine lc_it (walk_list (K := K) (a := bq2) (xs := out2)) (fun j H' => ∃ us, Acc (sT sInt) D [] [] H10 H' us ∧ us = (s'.2.2.take j).filter (agr r w v)) (⟨[], Acc.start Alv.nil nD (by simp), rfl⟩) (fun j H' _ ⟨_, a2, _⟩ => SqL.of (a2.st.same _ _ hbq2)) ?_ ?_
          · rintro k2 x Hx G11 hk2 ⟨us, ac, eu⟩ ⟨rfl, hx2⟩
            obtain ⟨m, hm, ⟨tm, rfl, _, htm⟩⟩ := pd_get po2 hx2
            have s111 := s110.trans ac.st.same
            refine ⟨wipe_in (by decide), ?_⟩
            repeat (first | refine ⟨_, rfl, ?_⟩ | refine ⟨_, _, rfl, rfl, ?_⟩ | refine ⟨_, _, rfl, ?_⟩ | refine ⟨rfl, ?_⟩)
            refine ⟨tr, _, (1 : Int), _, rfl, rfl, .inl (.inl (s111 _ _ htr)), atI_nat (j := 1) rfl, ?_⟩
            repeat (first | refine ⟨_, rfl, ?_⟩ | refine ⟨_, _, rfl, rfl, ?_⟩ | refine ⟨_, _, rfl, ?_⟩ | refine ⟨rfl, ?_⟩)
            refine ⟨tw, _, (1 : Int), _, rfl, rfl, .inl (.inl (s111 _ _ htw)), atI_nat (j := 1) rfl, ?_⟩
            repeat (first | refine ⟨_, rfl, ?_⟩ | refine ⟨_, _, rfl, rfl, ?_⟩ | refine ⟨_, _, rfl, ?_⟩ | refine ⟨rfl, ?_⟩)
            have htm10 := s10 _ _ htm
            have htm11 := ac.st.same _ _ htm10
            refine ⟨a, tv, b, tm, r, w, v, m, rfl, s111 _ _ ha, (s8.trans (s9.trans (s10.trans ac.st.same))) _ _ htv, s111 _ _ hb, htm11, rok.nd, lv, wok.few, fun x hx => ?_, fun H12 s12 => ?_⟩
            · obtain ⟨q, hq, e⟩ := List.mem_map.mp (wok.sub x hx)
              rw [← e]; exact okL.nm q hq
            refine ⟨_, rfl, ite2 (fun c => ?_) (fun c => ?_)⟩
            · repeat (first | refine ⟨_, rfl, ?_⟩ | refine ⟨_, _, rfl, rfl, ?_⟩ | refine ⟨_, _, rfl, ?_⟩ | refine ⟨rfl, ?_⟩)
              refine ac.put (y := m) (R := fun us => us = (s'.2.2.take (k2 + 1)).filter (agr r w v)) (Stp.of_same s12) ⟨tm, _, rfl, ?_, s12 _ _ htm11, pd_ints⟩ ?_ ?_
              · exact mem1.mpr (ne_of_none htm10 nD)
              · rw [eu]
                have := List.length_filter_le (agr r w v) (s'.2.2.take k2)
                rw [List.length_take] at this
                have l1 := es'.2.2.1.length_eq
                omega
              · rw [eu, ftake _ hm, if_pos c]
            · refine ⟨us, ac.go (Stp.of_same s12), ?_⟩
              rw [eu, ftake _ hm, if_neg c, List.append_nil]
          rintro H11 ⟨us, ac, eu⟩
          have s1x := s110.trans ac.st.same
          rw [plen po2, List.take_length] at eu
          repeat (first | refine ⟨_, rfl, ?_⟩ | refine ⟨_, _, rfl, rfl, ?_⟩ | refine ⟨_, _, rfl, ?_⟩ | refine ⟨rfl, ?_⟩)
          refine ⟨Nat.zero_le _, fun q2 nq2 => ?_⟩
          have k2 := Same.new (o := .lst []) nq2
          have sh := Sh.go ac.done (Stp.of_same (m := []) k2) Sb.nil Sb.refl
          refine ⟨.list (us.map tupD), .list [], (isD_L (isD_T isD_int)).dp sh, .lst (SqL.of upd_same) .nil, (shd_tups us).shaped (by decide), nil_shaped, ?_⟩
          rw [eqv_nilG]
          have s11 : Same H10 (upd H11 q2 (.lst [])) := ac.st.same.trans k2
          generalize upd H11 q2 (.lst []) = H12 at s11 sh
          clear k2
          have s112 := s110.trans s11
          refine ⟨_, rfl, ite2 (fun c => ?_) (fun c => ?_)⟩
          · obtain ⟨m0, us', rfl⟩ : ∃ m0 us', us = m0 :: us' := by
              cases us with
              | nil => simp at c
              | cons m0 us' => exact ⟨m0, us', rfl⟩
            have hfm : s'.2.2.find? (agr r w v) = some m0 := by rw [← List.head?_filter, ← eu]; rfl
            obtain ⟨D', ws, eD, -, hD3, pU⟩ := id sh
            cases eD
            cases pU with
            | @cons x0 _ ws' _ hm0 pU' =>
            obtain ⟨tm, rfl, -, htm⟩ := Sh.tints hm0
            repeat (first | refine ⟨_, rfl, ?_⟩ | refine ⟨_, _, rfl, rfl, ?_⟩ | refine ⟨_, _, rfl, ?_⟩ | refine ⟨rfl, ?_⟩)
            refine ⟨tr, _, (1 : Int), _, rfl, rfl, .inl (.inl (s112 _ _ htr)), atI_nat (j := 1) rfl, ?_⟩
            repeat (first | refine ⟨_, rfl, ?_⟩ | refine ⟨_, _, rfl, rfl, ?_⟩ | refine ⟨_, _, rfl, ?_⟩ | refine ⟨rfl, ?_⟩)
            refine ⟨a, tv, _, _, rfl, SqL.of (s112 _ _ ha), .inl (.inl ((s8.trans (s9.trans (s10.trans s11))) _ _ htv)), fun l8 ts8 H13 s13 nl8 hts8 hl8 pt8 => ?_⟩
            have s113 : Same H H13 := s112.trans s13
            repeat (first | refine ⟨_, rfl, ?_⟩ | refine ⟨_, _, rfl, rfl, ?_⟩ | refine ⟨_, _, rfl, ?_⟩ | refine ⟨rfl, ?_⟩)
            refine ⟨tw, _, (1 : Int), _, rfl, rfl, .inl (.inl (s113 _ _ htw)), atI_nat (j := 1) rfl, ?_⟩
            repeat (first | refine ⟨_, rfl, ?_⟩ | refine ⟨_, _, rfl, rfl, ?_⟩ | refine ⟨_, _, rfl, ?_⟩ | refine ⟨rfl, ?_⟩)
            refine ⟨D, _, (0 : Int), _, rfl, rfl, SqL.of (s13 _ _ hD3), atI_nat (j := 0) rfl, ?_⟩
            repeat (first | refine ⟨_, rfl, ?_⟩ | refine ⟨_, _, rfl, rfl, ?_⟩ | refine ⟨_, _, rfl, ?_⟩ | refine ⟨rfl, ?_⟩)
            refine ⟨b, tm, _, _, rfl, SqL.of (s113 _ _ hb), .inl (.inl (s13 _ _ htm)), fun l9 ts9 H14 s14 nl9 hts9 hl9 pt9 => ?_⟩
            have s114 : Same H H14 := s113.trans s14
            have rf := rok.few
            have wf := wok.few
            have lt8 : ts8.length ≤ 4 := by
              have := plen pt8
              rw [List.length_zip, List.length_map] at this
              omega
            have lt9 : ts9.length ≤ 4 := by
              have := plen pt9
              rw [List.length_zip, List.length_map] at this
              omega
            repeat (first | refine ⟨_, rfl, ?_⟩ | refine ⟨_, _, rfl, rfl, ?_⟩ | refine ⟨_, _, rfl, ?_⟩ | refine ⟨rfl, ?_⟩)
            refine ⟨l8, l9, _, _, rfl, rfl, s14 _ _ hl8, hl9, ?_, fun p np => ?_⟩
            · rw [List.length_map, List.length_map, sizeLine_eq]
              omega
            have s15 : Same H14 (upd H14 p (.lst (ts8.map V.ref ++ ts9.map V.ref))) := Same.new np
            have hp : upd H14 p (.lst (ts8.map V.ref ++ ts9.map V.ref)) p = some (.lst ((ts8 ++ ts9).map V.ref)) := by rw [upd_same, List.map_append]
            generalize upd H14 p (.lst (ts8.map V.ref ++ ts9.map V.ref)) = H15 at s15 hp
            repeat (first | refine ⟨_, rfl, ?_⟩ | refine ⟨_, _, rfl, rfl, ?_⟩ | refine ⟨_, _, rfl, ?_⟩ | refine ⟨rfl, ?_⟩)
            refine ⟨p, ts8 ++ ts9, _, rfl, SqL.of hp, papp (pt_kv (Paired.mono (fun _ _ e => s15 _ _ (s14 _ _ e)) pt8)) (pt_kv (Paired.mono (fun _ _ e => s15 _ _ e) pt9)), fun dq nq => ?_⟩
            have hv0 := fun x => two_getD (v := v) (m := m0) rok.nd wok.nd x
            generalize mergeK [] (kvL (r.2.1.zip v) ++ kvL (w.2.1.zip m0)) = kvs at hv0
            have s16 : Same H15 (upd H15 dq (.dK kvs)) := Same.new nq
            have hq : upd H15 dq (.dK kvs) dq = some (.dK kvs) := upd_same
            generalize upd H15 dq (.dK kvs) = H16 at s16 hq
            have s116 : Same H H16 := s114.trans (s15.trans s16)
            repeat (first | refine ⟨_, rfl, ?_⟩ | refine ⟨_, _, rfl, rfl, ?_⟩ | refine ⟨_, _, rfl, ?_⟩ | refine ⟨rfl, ?_⟩)
            refine ⟨tr, _, (0 : Int), _, rfl, rfl, .inl (.inl (s116 _ _ htr)), atI_nat (j := 0) rfl, ?_⟩
            repeat (first | refine ⟨_, rfl, ?_⟩ | refine ⟨_, _, rfl, rfl, ?_⟩ | refine ⟨_, _, rfl, ?_⟩ | refine ⟨rfl, ?_⟩)
            refine ⟨tw, _, (0 : Int), _, rfl, rfl, .inl (.inl (s116 _ _ htw)), atI_nat (j := 0) rfl, ?_⟩
            repeat (first | refine ⟨_, rfl, ?_⟩ | refine ⟨_, _, rfl, rfl, ?_⟩ | refine ⟨_, _, rfl, ?_⟩ | refine ⟨rfl, ?_⟩)
            refine ⟨⟨_, SqL.of (s116 _ _ hZ)⟩, fun D2 nD2 => ?_⟩
            refine lc_it (walk_list (K := K) (a := za) (xs := zs)) (fun i H' => H' D2 = some (.lst ((L.take i).map fun q => V.int (getP (w.2.1.zip m0) q.1 (getP (r.2.1.zip v) q.1 0)))) ∧ Same H16 H') ⟨upd_same, Same.new nD2⟩ (fun i H' _ h => SqL.of (h.2 _ _ (s116 _ _ hZ))) ?_ ?_
            · rintro i2 x Hx Gd hi9 ⟨k1, k2⟩ ⟨rfl, hx9⟩
              obtain ⟨z, hz, tz, _, _, rfl, -, htz, rfl, rfl⟩ := pget' pZ hx9
              refine ⟨tz, _, rfl, .inl (.inl (k2 _ _ (s116 _ _ htz))), rfl, _, _, rfl, ?_⟩
              repeat (first | refine ⟨_, rfl, ?_⟩ | refine ⟨_, _, rfl, rfl, ?_⟩ | refine ⟨_, _, rfl, ?_⟩ | refine ⟨rfl, ?_⟩)
              refine ⟨.inl ⟨_, .inl (k2 _ _ hq)⟩, ?_⟩
              repeat (first | refine ⟨_, rfl, ?_⟩ | refine ⟨_, _, rfl, rfl, ?_⟩ | refine ⟨_, _, rfl, ?_⟩ | refine ⟨rfl, ?_⟩)
              refine ⟨_, DGet.k (k := Sum.inr z.1) (k2 _ _ hq), ?_⟩
              rw [hv0]
              repeat (first | refine ⟨_, rfl, ?_⟩ | refine ⟨_, _, rfl, rfl, ?_⟩ | refine ⟨_, _, rfl, ?_⟩ | refine ⟨rfl, ?_⟩)
              refine ⟨_, k1, by rw [List.length_map, List.length_take, sizeLine_eq]; omega, ?_, Same.upd_p k2 nD2⟩
              rw [upd_same, take_map_snoc _ hz]
            rintro Hd ⟨h2, sd⟩
            rw [lZ, List.take_length] at h2
            have s1d := s116.trans sd
            repeat (first | refine ⟨_, rfl, ?_⟩ | refine ⟨_, _, rfl, rfl, ?_⟩ | refine ⟨_, _, rfl, ?_⟩ | refine ⟨rfl, ?_⟩)
            refine ⟨D2, _, rfl, .inl ⟨SqL.of h2, fun u nu => ?_⟩⟩
            repeat (first | refine ⟨_, rfl, ?_⟩ | refine ⟨_, _, rfl, rfl, ?_⟩ | refine ⟨_, _, rfl, ?_⟩ | refine ⟨rfl, ?_⟩)
            refine ⟨lenk 3 rfl (by decide), fun t nt => ?_⟩
            have hjn : joint L r w r'.2.2 s'.2.2 = some (jn L r w v m0) := by
              unfold joint
              rw [if_pos ca]
              exact findSome_at hv (fun z hz => by rw [hnv z hz]; rfl) (by rw [hfm]; rfl)
            have e : ovl L S = some (r.1, w.1, jn L r w v m0) := by
              have lS1 : i < S.length := (List.getElem?_eq_some_iff.mp hr').1
              rw [ovl_cut L S i hno, List.drop_eq_getElem_cons lS1]
              rw [List.getElem?_eq_getElem lS1] at hr'
              rw [Option.some.inj hr']
              show ((S.drop (i + 1)).findSome? fun s => (joint L r' s r'.2.2 s.2.2).map fun ns => (r'.1, s.1, ns)).or _ = _
              rw [findSome_at hs2 (fun z hz => by rw [hnj z hz]; rfl) (show ((joint L r' s' r'.2.2 s'.2.2).map fun ns => (r'.1, s'.1, ns)) = some (r.1, w.1, jn L r w v m0) by rw [ej, hjn, ← er'.1, ← es'.1]; rfl)]
              rfl
            have sU : Same Hd (upd Hd u (.tup (((L.map fun q => V.int (getP (w.2.1.zip m0) q.1 (getP (r.2.1.zip v) q.1 0))))))) := Same.new nu
            exact (q _ ((s1d.trans sU).trans (Same.new nt))).2 _ _ _ t u e (Same.none (s1d.trans sU) nt) (Same.none s1d nu) (Same.new nt _ _ (by rw [upd_same]; unfold jn; rw [List.map_map]; rfl)) upd_same
          · repeat (first | refine ⟨_, rfl, ?_⟩ | refine ⟨_, _, rfl, rfl, ?_⟩ | refine ⟨_, _, rfl, ?_⟩ | refine ⟨rfl, ?_⟩)
            obtain rfl : us = [] := by simpa using c
            refine ⟨_, _, _, _, _, _, rfl, s9.trans (s10.trans s11), fun v' hv' => ?_⟩
            rw [List.take_add_one, hv] at hv'
            rcases List.mem_append.mp hv' with h | h
            · exact hnv v' h
            · have : v' = v := by simpa using h
              subst this
              rw [← List.head?_filter, ← eu]; rfl
        · rintro σ G9 ⟨y5, y6, y7, y8, y9, y10, rfl, s9, hnv⟩
          repeat (first | refine ⟨_, rfl, ?_⟩ | refine ⟨_, _, rfl, rfl, ?_⟩ | refine ⟨_, _, rfl, ?_⟩ | refine ⟨rfl, ?_⟩)
          refine ⟨_, _, _, _, _, _, _, rfl, s5.trans (s58.trans s9), sn ?_⟩
          unfold joint
          rw [if_pos ca, List.findSome?_eq_none_iff]
          intro v hv
          rw [plen po1, List.take_length] at hnv
          rw [hnv v hv]; rfl
      · rintro σ G5 ⟨z4, z5, z6, z7, z8, z9, z10, rfl, s5, hnj⟩
        repeat (first | refine ⟨_, rfl, ?_⟩ | refine ⟨_, _, rfl, rfl, ?_⟩ | refine ⟨_, _, rfl, ?_⟩ | refine ⟨rfl, ?_⟩)
        refine ⟨_, _, _, _, _, _, _, _, _, rfl, s14.trans s5, fun j r2 hj hr2 => ?_⟩
        rcases Nat.lt_or_ge j i with h | h
        · exact hno j r2 h hr2
        · have ej : j = i := by omega
          subst ej
          rw [hr'] at hr2
          cases hr2
          rw [List.findSome?_eq_none_iff]
          intro s hs
          rw [hnj s (by rw [List.length_drop, lY, ← lS, ← List.length_drop, List.take_length]; exact hs)]
          rfl
    · rintro σ G2 ⟨z2, z3, z4, z5, z6, z7, z8, z9, z10, rfl, s2, hno⟩
      repeat (first | refine ⟨_, rfl, ?_⟩ | refine ⟨_, _, rfl, rfl, ?_⟩ | refine ⟨_, _, rfl, ?_⟩ | refine ⟨rfl, ?_⟩)
      refine (q _ s2).1 ?_
      rw [lY, ← lS] at hno
      rw [ovl_cut L S S.length hno, List.drop_length]
      rfl

end K13
namespace K13
open PySem PySem.Spec PyProof.Rows L2 TL
/-! ### nested data of any kind, as a shape -/
mutual
inductive RD (W : Addr → Prop) (H : Hp) : V → PyData → Prop
  | non : RD W H .non .none
  | bl (b : Bool) : RD W H (.bl b) (.bool b)
  | int (i : Int) : RD W H (.int i) (.int i)
  | str (s : Str) : RD W H (.str s) (.str s)
  | lst {a : Addr} {vs : List V} {ds : List PyData} (w : W a) (h : H a = some (.lst vs)) (p : RDs W H vs ds) : RD W H (.ref a) (.list ds)
  | tup {a : Addr} {vs : List V} {ds : List PyData} (w : W a) (h : H a = some (.tup vs)) (p : RDs W H vs ds) : RD W H (.ref a) (.tuple ds)
  | dic {a : Addr} (w : W a) (h : H a = some (.dK [])) : RD W H (.ref a) (.dict [])
inductive RDs (W : Addr → Prop) (H : Hp) : List V → List PyData → Prop
  | nil : RDs W H [] []
  | cons {v : V} {d : PyData} {vs : List V} {ds : List PyData} (h : RD W H v d) (t : RDs W H vs ds) : RDs W H (v :: vs) (d :: ds)
end
section
variable {W W' : Addr → Prop} {H H' : Hp} {K : PySem.W.Frag}
mutual
theorem RD.mv (k : ∀ a o, W a → H a = some o → H' a = some o ∧ W' a) : ∀ {d : PyData} {v : V}, RD W H v d → RD W' H' v d
  | .none, _, h => by cases h; exact .non
  | .bool _, _, h => by cases h; exact .bl _
  | .int _, _, h => by cases h; exact .int _
  | .str _, _, h => by cases h; exact .str _
  | .list ds, _, h => by cases h with | lst w h p => exact .lst (k _ _ w h).2 (k _ _ w h).1 (RDs.mv k p)
  | .tuple ds, _, h => by cases h with | tup w h p => exact .tup (k _ _ w h).2 (k _ _ w h).1 (RDs.mv k p)
  | .dict [], _, h => by cases h with | dic w h => exact .dic (k _ _ w h).2 (k _ _ w h).1
  | .dict (_ :: _), _, h => by cases h
theorem RDs.mv (k : ∀ a o, W a → H a = some o → H' a = some o ∧ W' a) : ∀ {ds : List PyData} {vs : List V}, RDs W H vs ds → RDs W' H' vs ds
  | [], _, h => by cases h; exact .nil
  | d :: ds, _, h => by cases h with | cons h t => exact .cons (RD.mv k h) (RDs.mv k t)
end
mutual
theorem RD.dx : ∀ {d : PyData} {v : V}, RD W H v d → Dx K H v d
  | .none, _, h => by cases h; exact .non
  | .bool _, _, h => by cases h; exact .bl _
  | .int _, _, h => by cases h; exact .int _
  | .str _, _, h => by cases h; exact .str _
  | .list ds, _, h => by cases h with | lst w h p => exact .lst (SqL.of h) (RDs.dx p)
  | .tuple ds, _, h => by cases h with | tup w h p => exact .tup (.inl (.inl h)) (RDs.dx p)
  | .dict [], _, h => by cases h with | dic w h => exact .dic (.inl h) rfl .nil
  | .dict (_ :: _), _, h => by cases h
theorem RDs.dx : ∀ {ds : List PyData} {vs : List V}, RDs W H vs ds → DxAll K H vs ds
  | [], _, h => by cases h; exact .nil
  | d :: ds, _, h => by cases h with | cons h t => exact .cons (RD.dx h) (RDs.dx t)
end
theorem RDs.len : ∀ {vs : List V} {ds : List PyData}, RDs W H vs ds → vs.length = ds.length
  | _, _, .nil => rfl
  | _, _, .cons _ t => congrArg (· + 1) (RDs.len t)
theorem RDs.get : ∀ {vs : List V} {ds : List PyData} {i : Nat} {v : V}, RDs W H vs ds → vs[i]? = some v → ∃ d, ds[i]? = some d ∧ RD W H v d
  | _, _, i, v, .nil, h => by cases i <;> cases h
  | _, _, 0, v, .cons h _, e => by cases e; exact ⟨_, rfl, h⟩
  | _, _, i + 1, v, .cons _ t, e => RDs.get (i := i) t (by rw [List.getElem?_cons_succ] at e; exact e)
theorem RDs.get' : ∀ {vs : List V} {ds : List PyData} {i : Nat} {d : PyData}, RDs W H vs ds → ds[i]? = some d → ∃ v, vs[i]? = some v ∧ RD W H v d
  | _, _, i, v, .nil, h => by cases i <;> cases h
  | _, _, 0, v, .cons h _, e => by cases e; exact ⟨_, rfl, h⟩
  | _, _, i + 1, v, .cons _ t, e => RDs.get' (i := i) t (by rw [List.getElem?_cons_succ] at e; exact e)
theorem RDs.app : ∀ {vs us : List V} {ds es : List PyData}, RDs W H vs ds → RDs W H us es → RDs W H (vs ++ us) (ds ++ es)
  | _, _, _, _, .nil, h => h
  | _, _, _, _, .cons h t, g => .cons h (RDs.app t g)
theorem RDs.take : ∀ {n : Nat} {vs : List V} {ds : List PyData}, RDs W H vs ds → RDs W H (vs.take n) (ds.take n)
  | 0, _, _, _ => .nil
  | n + 1, _, _, .nil => .nil
  | n + 1, _, _, .cons h t => .cons h (RDs.take t)
theorem RDs.drop : ∀ {n : Nat} {vs : List V} {ds : List PyData}, RDs W H vs ds → RDs W H (vs.drop n) (ds.drop n)
  | 0, _, _, h => h
  | n + 1, _, _, .nil => .nil
  | n + 1, _, _, .cons _ t => RDs.drop (n := n) t
theorem RDs.of {α : Type} {F : V → α → Prop} {f : α → PyData} (k : ∀ v x, F v x → RD W H v (f x)) : ∀ {vs : List V} {xs : List α}, Paired F vs xs → RDs W H vs (xs.map f)
  | _, _, .nil => .nil
  | _, _, .cons h t => .cons (k _ _ h) (RDs.of k t)
theorem RDs.ints : ∀ ns : List Int, RDs W H (ns.map V.int) (ns.map PyData.int)
  | [] => .nil
  | n :: ns => .cons (.int n) (RDs.ints ns)
theorem RDs.ints_inv : ∀ {ns : List Int} {vs : List V}, RDs W H vs (ns.map PyData.int) → vs = ns.map V.int
  | [], _, h => by cases h; rfl
  | n :: ns, _, h => by
    rw [List.map_cons] at h
    cases h with
    | cons h t => cases h; rw [RDs.ints_inv t]; rfl
theorem RDs.rep {v : V} {d : PyData} (h : RD W H v d) : ∀ n : Nat, RDs W H (List.replicate n v) (List.replicate n d)
  | 0 => .nil
  | n + 1 => by rw [List.replicate_succ, List.replicate_succ]; exact .cons h (RDs.rep h n)
end
def sDat : Sh PyData := ⟨fun W H v d => RD W H v d, fun h k => RD.mv k h⟩
/-- the type's name -/
def kindD : PyData → String
  | .none => "NoneType"
  | .bool _ => "bool"
  | .int _ => "int"
  | .str _ => "str"
  | .list _ => "list"
  | .tuple _ => "tuple"
  | .dict _ => "dict"
theorem RD.ty {W : Addr → Prop} {H : Hp} {K : PySem.W.Frag} {v : V} {d : PyData} (h : RD W H v d) : TyX K H v (.type (kindD d)) := by
  cases h with
  | non => exact .base .non
  | bl b => exact .base (.bl b)
  | int i => exact .base (.int i)
  | str s => exact .base (.str s)
  | lst w h p => exact .base (.lst h)
  | tup w h p => exact .base (.tup h)
  | dic w h => exact .base (.dK h)
theorem kind_mem (d : PyData) : kindD d ∈ tyNames := by
  cases d <;> simp [kindD, tyNames]
theorem kit_kt {K : PySem.W.Frag} {d : PyData} (h : kindD d ≠ "tuple") : PySem.W.kitOne K (.type (kindD d)) (.type "tuple") = some false := by
  cases d with
  | none => exact kit_ty (show kitB "NoneType" "tuple" = some false by decide +kernel)
  | bool _ => exact kit_ty (show kitB "bool" "tuple" = some false by decide +kernel)
  | int _ => exact kit_ty (show kitB "int" "tuple" = some false by decide +kernel)
  | str _ => exact kit_ty (show kitB "str" "tuple" = some false by decide +kernel)
  | list _ => exact kit_ty (show kitB "list" "tuple" = some false by decide +kernel)
  | tuple _ => exact absurd rfl h
  | dict _ => exact kit_ty (show kitB "dict" "tuple" = some false by decide +kernel)
theorem kit_kl {K : PySem.W.Frag} {d : PyData} (h : kindD d ≠ "list") : PySem.W.kitOne K (.type (kindD d)) (.type "list") = some false := by
  cases d with
  | none => exact kit_ty (show kitB "NoneType" "list" = some false by decide +kernel)
  | bool _ => exact kit_ty (show kitB "bool" "list" = some false by decide +kernel)
  | int _ => exact kit_ty (show kitB "int" "list" = some false by decide +kernel)
  | str _ => exact kit_ty (show kitB "str" "list" = some false by decide +kernel)
  | list _ => exact absurd rfl h
  | tuple _ => exact kit_tl
  | dict _ => exact kit_ty (show kitB "dict" "list" = some false by decide +kernel)
theorem kit_ks {K : PySem.W.Frag} {d : PyData} (h : kindD d ≠ "str") : PySem.W.kitOne K (.type (kindD d)) (.type "str") = some false := by
  cases d with
  | none => exact kit_ty (show kitB "NoneType" "str" = some false by decide +kernel)
  | bool _ => exact kit_ty (show kitB "bool" "str" = some false by decide +kernel)
  | int _ => exact kit_ty (show kitB "int" "str" = some false by decide +kernel)
  | str _ => exact absurd rfl h
  | list _ => exact kit_ty (show kitB "list" "str" = some false by decide +kernel)
  | tuple _ => exact kit_ty (show kitB "tuple" "str" = some false by decide +kernel)
  | dict _ => exact kit_ty (show kitB "dict" "str" = some false by decide +kernel)
theorem RD.notI {W : Addr → Prop} {H : Hp} {K : PySem.W.Frag} {v : V} {d : PyData} (h : RD W H v d) : (∃ i, v = .int i ∧ d = .int i) ∨ NotI K H v := by
  cases h with
  | non => exact .inr ⟨_, .base .non, .inl (kit_ty (show kitB "NoneType" "int" = some false by decide +kernel))⟩
  | bl b => exact .inr ⟨_, .base (.bl b), .inr ⟨kit_ty (show kitB "bool" "int" = some true by decide +kernel), kit_ty (show kitB "bool" "bool" = some true by decide +kernel)⟩⟩
  | int i => exact .inl ⟨i, rfl, rfl⟩
  | str s => exact .inr ⟨_, .base (.str s), .inl (kit_ty (show kitB "str" "int" = some false by decide +kernel))⟩
  | lst w h p => exact .inr ⟨_, .base (.lst h), .inl (kit_ty (show kitB "list" "int" = some false by decide +kernel))⟩
  | tup w h p => exact .inr ⟨_, .base (.tup h), .inl (kit_ty (show kitB "tuple" "int" = some false by decide +kernel))⟩
  | dic w h => exact .inr ⟨_, .base (.dK h), .inl (kit_ty (show kitB "dict" "int" = some false by decide +kernel))⟩
/-! ### strange data -/
def valD : PyData → V
  | .int i => .int i
  | .bool b => .bl b
  | _ => .non
def badVals (zs : List Int) (y : PyData) : Prop := kindD y ≠ "tuple" ∨ ∃ es, y = .tuple es ∧ (∀ z ∈ es, (∃ i, z = .int i) ∨ ∃ b, z = .bool b) ∧ valsB (es.map valD) zs = false
def NoVals (K : PySem.W.Frag) (H : Hp) (zs : List Int) (y : V) : Prop := (∃ t, TyX K H y t ∧ PySem.W.kitOne K t (.type "tuple") = some false) ∨ ∃ b ws, y = .ref b ∧ H b = some (.tup ws) ∧ (∀ x ∈ ws, (∃ i, x = .int i) ∨ NotI K H x) ∧ valsB ws zs = false
section
variable {W : Addr → Prop} {H : Hp} {K : PySem.W.Frag} {L : List (Str × Int)} {R : List Row}
theorem RD.noVals {zs : List Int} {v : V} {d : PyData} (h : RD W H v d) (b : badVals zs d) : NoVals K H zs v := by
  rcases b with k | ⟨es, rfl, he, hb⟩
  · exact .inl ⟨_, h.ty, kit_kt k⟩
  · cases h with
    | tup w h p =>
      rename_i a vs
      refine .inr ⟨a, vs, rfl, h, fun x hx => ?_, ?_⟩
      · obtain ⟨i, hi⟩ := List.getElem?_of_mem hx
        obtain ⟨d, _, hd⟩ := p.get hi
        exact (hd.notI (K := K)).imp (fun ⟨i, e, _⟩ => ⟨i, e⟩) id
      · have e : vs = es.map valD := by
          clear hb h
          induction es generalizing vs with
          | nil => cases p; rfl
          | cons z es ih =>
            cases p with
            | cons h t =>
              rw [List.map_cons, ← ih (fun z hz => he z (List.mem_cons_of_mem _ hz)) t]
              rcases he z List.mem_cons_self with ⟨i, rfl⟩ | ⟨b, rfl⟩
              · cases h; rfl
              · cases h; rfl
        rw [e]; exact hb
end
theorem RD.anyK {W : Addr → Prop} {H : Hp} {K : PySem.W.Frag} {v : V} {d : PyData} (h : RD W H v d) : AnyK K H v := by
  cases h with
  | lst w h p => exact .inl ⟨_, SqL.of h⟩
  | tup w h p => exact .inr (.inl ⟨_, .inl (.inl h)⟩)
  | dic w h => exact .inr (.inr ⟨_, h⟩)
  | _ => rfl
/-! ### what is given to be shown -/
def noEvD (R : List Row) (x : PyData) : Prop := (∃ s, x = .str s ∧ s ∉ R.map (·.1)) ∨ kindD x ≠ "str"
theorem RD.noEv {W : Addr → Prop} {H : Hp} {K : PySem.W.Frag} {R : List Row} {v : V} {d : PyData} (h : RD W H v d) (n : noEvD R d) : NoEv K H R v := by
  rcases n with ⟨s, rfl, hs⟩ | k
  · cases h; exact .inl ⟨s, rfl, hs⟩
  · exact .inr ⟨_, h.ty, kit_ks k⟩
def Shw3 (L : List (Str × Int)) (R : List Row) (x y z : PyData) (B : Bool) : Prop :=
  (noEvD R x ∧ B = false) ∨ ∃ r, r ∈ R ∧ x = .str r.1 ∧ ((noEvD R y ∧ B = false) ∨ ∃ w, w ∈ R ∧ y = .str w.1 ∧ ((badVals (L.map (·.2)) z ∧ B = false) ∨ ∃ ns, z = .tuple (ns.map PyData.int) ∧ valsB (ns.map V.int) (L.map (·.2)) = true ∧ B = showsB L r w ns))
def ShwD (L : List (Str × Int)) (R : List Row) (d : PyData) (B : Bool) : Prop :=
  (kindD d ≠ "tuple" ∧ B = false) ∨ (∃ ds, d = .tuple ds ∧ ds.length ≠ 3 ∧ ds.length < 1000 ∧ B = false) ∨ ∃ x y z, d = .tuple [x, y, z] ∧ Shw3 L R x y z B
theorem NoVals.asg {K : PySem.W.Frag} {H : Hp} {L : List (Str × Int)} {v : V} (h : NoVals K H (L.map (·.2)) v) : AsgRes K H L v false := by
  rcases h with ⟨t, a, b⟩ | ⟨t, ws, e, h, h2, h3⟩
  · exact .inl ⟨t, a, b, rfl⟩
  · exact .inr ⟨t, ws, e, h, h2, h3.symm⟩
theorem RD.shows {K : PySem.W.Frag} {M : List Addr} {H : Hp} {L : List (Str × Int)} {R : List Row} {v : V} {d : PyData} {B : Bool} {Q : VK} (h : sDat.at M H v d) (s : ShwD L R d B) (q : ∀ H', Same H H' → Q (.bl B) H') :
    ((∃ t, TyX K H v t ∧ PySem.W.kitOne K t (.type "tuple") = some false) ∧ Q (.bl false) H) ∨ ∃ a xs, v = .ref a ∧ H a = some (.tup xs) ∧
    ((xs.length ≠ 3 ∧ xs.length < 1000 ∧ Q (.bl false) H) ∨ ∃ x y z, xs = [x, y, z] ∧
      ((NoEv K H R x ∧ Q (.bl false) H) ∨ ∃ r, r ∈ R ∧ x = .str r.1 ∧
        ((NoEv K H R y ∧ Q (.bl false) H) ∨ ∃ w, w ∈ R ∧ y = .str w.1 ∧
          ((AsgRes K H L z false ∧ ∀ H', Same H H' → Q (.bl false) H') ∨ ∃ t ns, z = .ref t ∧ H t = some (.tup (ns.map V.int)) ∧ valsB (ns.map V.int) (L.map (·.2)) = true ∧ ∀ H', Same H H' → Q (.bl (showsB L r w ns)) H')))) := by
  replace h : RD (fun a => a ∉ M) H v d := h
  rcases s with ⟨k, rfl⟩ | ⟨ds, rfl, n3, lt, rfl⟩ | ⟨x, y, z, rfl, s⟩
  · exact .inl ⟨⟨_, h.ty, kit_kt k⟩, q _ (Same.refl _)⟩
  · cases h with
    | tup w h p => exact .inr ⟨_, _, rfl, h, .inl ⟨by rw [p.len]; exact n3, by rw [p.len]; exact lt, q _ (Same.refl _)⟩⟩
  cases h with
  | tup w h p =>
  cases p with
  | cons h1 p =>
  cases p with
  | cons h2 p =>
  cases p with
  | cons h3 p =>
  cases p
  refine .inr ⟨_, _, rfl, h, .inr ⟨_, _, _, rfl, ?_⟩⟩
  rcases s with ⟨n, rfl⟩ | ⟨r, hr, rfl, s⟩
  · exact .inl ⟨h1.noEv n, q _ (Same.refl _)⟩
  cases h1
  refine .inr ⟨r, hr, rfl, ?_⟩
  rcases s with ⟨n, rfl⟩ | ⟨w, hw, rfl, s⟩
  · exact .inl ⟨h2.noEv n, q _ (Same.refl _)⟩
  cases h2
  refine .inr ⟨w, hw, rfl, ?_⟩
  rcases s with ⟨b, rfl⟩ | ⟨ns, rfl, hv, rfl⟩
  · exact .inl ⟨(h3.noVals b).asg, q⟩
  · cases h3 with
    | tup w3 h3 p3 =>
      rw [RDs.ints_inv p3] at h3
      exact .inr ⟨_, ns, rfl, h3, hv, q⟩
/-! ### events found by name -/
theorem share_comm (a b : List Str) : share a b = share b a := by
  have h : ∀ a b : List Str, share a b = true → share b a = true := fun a b h => by
    obtain ⟨x, h1, h2⟩ := List.any_eq_true.mp h
    exact List.any_eq_true.mpr ⟨x, of_decide_eq_true h2, decide_eq_true h1⟩
  cases e : share b a with
  | true => exact h _ _ e
  | false =>
    cases e2 : share a b with
    | false => rfl
    | true => rw [h _ _ e2] at e; cases e
theorem filt_one : ∀ {R : List Row} {w : Row} {f : Row → Bool}, (R.map (·.1)).Nodup → w ∈ R → (∀ z ∈ R, f z = decide (z.1 = w.1)) → R.filter f = [w]
  | [], _, _, _, h, _ => by cases h
  | a :: R, w, f, nd, h, hf => by
    rw [List.map_cons, List.nodup_cons] at nd
    rcases List.mem_cons.mp h with rfl | h
    · rw [List.filter_cons, hf w List.mem_cons_self, decide_eq_true rfl, if_pos rfl, List.filter_eq_nil_iff.mpr]
      intro z hz c
      rw [hf z (List.mem_cons_of_mem _ hz)] at c
      exact nd.1 (List.mem_map.mpr ⟨z, hz, of_decide_eq_true c⟩)
    · rw [List.filter_cons, hf a List.mem_cons_self, decide_eq_false (fun e => nd.1 (by rw [e]; exact List.mem_map.mpr ⟨w, h, rfl⟩)), if_neg Bool.false_ne_true]
      exact filt_one nd.2 h fun z hz => hf z (List.mem_cons_of_mem _ hz)
theorem filt_two : ∀ {R : List Row} {r w : Row} {f : Row → Bool}, (R.map (·.1)).Nodup → r ∈ R → w ∈ R → r.1 ≠ w.1 → (∀ z ∈ R, f z = (decide (z.1 = r.1) || decide (z.1 = w.1))) → R.filter f = [r, w] ∨ R.filter f = [w, r]
  | [], _, _, _, _, h, _, _, _ => by cases h
  | a :: R, r, w, f, nd, hr, hw, ne, hf => by
    rw [List.map_cons, List.nodup_cons] at nd
    have hf' := fun z hz => hf z (List.mem_cons_of_mem _ hz)
    have off : ∀ z ∈ R, z.1 ≠ a.1 := fun z hz e => nd.1 (by rw [← e]; exact List.mem_map.mpr ⟨z, hz, rfl⟩)
    by_cases ea : a = r
    · subst ea
      have hw : w ∈ R := (List.mem_cons.mp hw).resolve_left fun e => ne (by rw [e])
      refine .inl ?_
      rw [List.filter_cons, hf a List.mem_cons_self, decide_eq_true rfl, Bool.true_or, if_pos rfl, filt_one nd.2 hw fun z hz => by rw [hf' z hz, decide_eq_false (off z hz), Bool.false_or]]
    have hr : r ∈ R := (List.mem_cons.mp hr).resolve_left fun e => ea e.symm
    by_cases eb : a = w
    · subst eb
      refine .inr ?_
      rw [List.filter_cons, hf a List.mem_cons_self, decide_eq_true (p := a.1 = a.1) rfl, Bool.or_true, if_pos rfl, filt_one nd.2 hr fun z hz => by rw [hf' z hz, decide_eq_false (off z hz), Bool.or_false]]
    have hw : w ∈ R := (List.mem_cons.mp hw).resolve_left fun e => eb e.symm
    rw [List.filter_cons, hf a List.mem_cons_self, decide_eq_false (fun e => off r hr e.symm), decide_eq_false (fun e => off w hw e.symm), Bool.false_or, if_neg Bool.false_ne_true]
    exact filt_two nd.2 hr hw ne hf'
theorem filt_le : ∀ {R : List Row} {s : Str} {f : Row → Bool}, (R.map (·.1)).Nodup → (∀ z ∈ R, f z = true → z.1 = s) → (R.filter f).length ≤ 1
  | [], _, _, _, _ => Nat.zero_le _
  | a :: R, s, f, nd, hf => by
    rw [List.map_cons, List.nodup_cons] at nd
    rw [List.filter_cons]
    by_cases c : f a = true
    · rw [if_pos c, List.filter_eq_nil_iff.mpr]
      · exact Nat.le_refl _
      · intro z hz cz
        exact nd.1 (List.mem_map.mpr ⟨z, hz, (hf z (List.mem_cons_of_mem _ hz) cz).trans (hf a List.mem_cons_self c).symm⟩)
    · rw [if_neg c]
      exact filt_le nd.2 fun z hz => hf z (List.mem_cons_of_mem _ hz)

end K13
namespace K13
open PySem PySem.Spec PyProof.Rows L2 TL
/-! ### a fraction -/
def sp_rinit (K : PySem.W.Frag) (C : Addr) : Sp := fun vs H Q _ => ∃ (x dx : Addr), vs = [.ref x, .int 1, .int 1] ∧ H x = some (.ins C dx []) ∧ ∀ fs, Q .non (upd H x (.ins C dx fs))
theorem ok_Ratio_init {P : Program} {w : World} {K : PySem.W.Frag} {mg : Str → Option Value} {base : Heap} (T : Txt P K mg) : FnOk P w K mg base CX0 2 T.f_Ratio_init T.fd_Ratio_init ["self", "numerator", "denominator"] (sp_rinit K T.C_Ratio) := by
  refine T.F_Ratio_init.ok sc_Ratio_init (fun vs H Q E h => ?_) (fun cdv A outer s H vs Q E hr h => ?_)
  · obtain ⟨_, _, rfl, _⟩ := h; rfl
  · obtain ⟨x, dx, rfl, hx, q⟩ := h
    refine ⟨_, PSs.nox (pss_cons (ps_if (pt_not (pt_val (pe_call (ok_is_any_integer T) (hr.mono (by decide)) (by rfl) T.g_is_any_integer T.F_is_any_integer.kp (b_is_any_integer T) .nil pass0 (pa_cons (pv 1) pa_nil)))) (pss_one ps_never) pss_nil)
      (pss_cons (ps_if (pt_not (pt_val (pe_call (ok_is_any_integer T) (hr.mono (by decide)) (by rfl) T.g_is_any_integer T.F_is_any_integer.kp (b_is_any_integer T) .nil pass0 (pa_cons (pv 2) pa_nil)))) (pss_one ps_never) pss_nil)
      (pss_cons (ps_if (pt_cmpR op_eq (pv 2) pe_int (nomark _)) (pss_one ps_never) pss_nil)
      (pss_cons (ps_set (i := 3) sc_Ratio_init.nd rfl (Or.inl rfl) (pe_callBfun cr_gcd (by rfl) T.g_gcd (pa_cons (pv 1) (pa_cons (pv 2) pa_nil))))
      (pss_cons (ps_if (pt_cmpR op_lt (pv 2) pe_int (nomark _)) (pss_one (ps_set (i := 3) sc_Ratio_init.nd rfl (Or.inl rfl) (pe_un un_neg (pv 3)))) pss_nil)
      (pss_cons (ps_fld (pv 0) (pe_op op_fdivW (pv 1) (pv 3)) rfl)
      (pss_one (ps_fld (pv 0) (pe_op op_fdivW (pv 2) (pv 3)) rfl)))))))), ?_⟩
    repeat (first | refine ⟨_, rfl, ?_⟩ | refine ⟨_, _, rfl, rfl, ?_⟩ | refine ⟨_, _, rfl, ?_⟩ | refine ⟨rfl, ?_⟩)
    refine .inl ⟨1, rfl, ?_⟩
    repeat (first | refine ⟨_, rfl, ?_⟩ | refine ⟨_, _, rfl, rfl, ?_⟩ | refine ⟨_, _, rfl, ?_⟩ | refine ⟨rfl, ?_⟩)
    refine .inl ⟨1, rfl, ?_⟩
    repeat (first | refine ⟨_, rfl, ?_⟩ | refine ⟨_, _, rfl, rfl, ?_⟩ | refine ⟨_, _, rfl, ?_⟩ | refine ⟨rfl, ?_⟩)
    rw [show (((Int.natAbs 1).gcd (Int.natAbs 1) : Nat) : Int) = 1 from rfl]
    have w : CDivW 1 1 := ⟨by decide, by decide⟩
    refine ⟨w, ?_⟩
    repeat (first | refine ⟨_, rfl, ?_⟩ | refine ⟨_, _, rfl, rfl, ?_⟩ | refine ⟨_, _, rfl, ?_⟩ | refine ⟨rfl, ?_⟩)
    refine ⟨x, _, dx, _, rfl, hx, T.cl_Ratio, T.na_Ratio__num, (by decide), ?_⟩
    repeat (first | refine ⟨_, rfl, ?_⟩ | refine ⟨_, _, rfl, rfl, ?_⟩ | refine ⟨_, _, rfl, ?_⟩ | refine ⟨rfl, ?_⟩)
    refine ⟨w, ?_⟩
    repeat (first | refine ⟨_, rfl, ?_⟩ | refine ⟨_, _, rfl, rfl, ?_⟩ | refine ⟨_, _, rfl, ?_⟩ | refine ⟨rfl, ?_⟩)
    refine ⟨x, _, dx, _, rfl, upd_same, T.cl_Ratio, T.na_Ratio__den, (by show 1 < 1000; decide), ?_⟩
    have twice : ∀ fs fs' : List (Str × V), upd (upd H x (.ins T.C_Ratio dx fs)) x (.ins T.C_Ratio dx fs') = upd H x (.ins T.C_Ratio dx fs') := fun n d => by
      funext b
      by_cases hb : b = x
      · rw [hb, upd_same, upd_same]
      · rw [upd_ne hb, upd_ne hb, upd_ne hb]
    rw [twice]
    exact q _

end K13
namespace K13
open PySem PySem.Spec PyProof.Rows L2 TL
/-! ### the law's own answer -/
theorem at_idx : ∀ {l : List Str} {x : Str}, x ∈ l → l[l.idxOf x]? = some x ∧ ∀ (m : Nat) (z : Str), m < l.idxOf x → l[m]? = some z → z ≠ x
  | y :: r, x, h => by
    by_cases e : y = x
    · subst e; rw [List.idxOf_cons_self]; exact ⟨rfl, fun m z hm => absurd hm (Nat.not_lt_zero _)⟩
    · have hr : x ∈ r := (List.mem_cons.mp h).elim (fun z => absurd z.symm e) id
      have i : (y :: r).idxOf x = r.idxOf x + 1 := by rw [List.idxOf_cons, beq_eq_false_iff_ne.mpr e]; rfl
      rw [i]
      obtain ⟨a, b⟩ := at_idx hr
      refine ⟨by rw [List.getElem?_cons_succ]; exact a, fun m z hm hz => ?_⟩
      cases m with
      | zero => cases hz; exact e
      | succ m => exact b m z (by omega) (by rw [List.getElem?_cons_succ] at hz; exact hz)
theorem eqv_ss {a b : Str} : eqV (V.str a) (V.str b) = decide (a = b) := by
  by_cases h : a = b
  · subst h; simp [eqV]
  · simp [eqV, h]
theorem kd_str {d : PyData} (h : kindD d = "str") : ∃ s, d = .str s := by
  cases d with
  | str s => exact ⟨s, rfl⟩
  | none => exact absurd (show "NoneType" = "str" from h) (by decide)
  | bool _ => exact absurd (show "bool" = "str" from h) (by decide)
  | int _ => exact absurd (show "int" = "str" from h) (by decide)
  | list _ => exact absurd (show "list" = "str" from h) (by decide)
  | tuple _ => exact absurd (show "tuple" = "str" from h) (by decide)
  | dict _ => exact absurd (show "dict" = "str" from h) (by decide)
def sp_lshows (K : PySem.W.Frag) : Sp := fun vs H Q _ => ∃ (z y v : V) (L : List (Str × Int)) (R : List Row) (d : PyData) (B : Bool), vs = [z, y, v] ∧ (sL sVar).at [] H z L ∧ (sL sRow).at [] H y R ∧ VarsOk L ∧ EvsOk L R ∧ sDat.at [] H v d ∧ ShwD L R d B ∧ ∀ H', Same H H' → Q (.bl B) H'
theorem ok_l_shows {P : Program} {w : World} {K : PySem.W.Frag} {mg : Str → Option Value} {base : Heap} (T : Txt P K mg) : FnOk P w K mg base CX0 1 T.f_l_shows T.fd_l_shows ["_law_sizes", "_law_rows", "_law_value"] (sp_lshows K) := by
  refine T.F_l_shows.ok sc_l_shows (fun vs H Q E h => ?_) (fun cdv A outer s H vs Q E hr h => ?_)
  · obtain ⟨_, _, _, _, _, _, _, rfl, _⟩ := h; rfl
  · obtain ⟨z, y, v, L, R, d, B, rfl, hz, hy, okL, okR, hd, hs, q⟩ := h
    obtain ⟨za, zs, rfl, -, hZ, pZ⟩ := hz
    obtain ⟨ya, ys, rfl, -, hY, pY⟩ := hy
    have lY := plen pY
    have lZ := plen pZ
    have r8 := okR.few
    have l8 := okL.few
    replace hd : RD (fun a => a ∉ []) H v d := hd
    refine ⟨_, PSs.nox (pss_cons (ps_if (PW.pt (pw_or (pt_not (pt_val (pe_callB (show CallR _ _ (rIsi K) from call_isi) (by rfl) T.n_isinstance (by decide +kernel) (pa_cons (pv 2) (pa_cons (pe_bltn (v := .ty "tuple") (by rfl) T.n_tuple (by decide +kernel) rfl) pa_nil))))) (pw_or1 (pt_cmpR op_ne (pe_callB (show CallR _ _ (rLenSeq K) from call_len_seq) (by rfl) T.n_len (by decide +kernel) (pa_cons (pv 2) pa_nil)) pe_int (nomark _))))) (pss_one (ps_ret pe_bl)) pss_nil)
      (pss_cons (ps_asg (pv 2) (pg_tup rfl (pgs_cons (pg_name (i := 3) sc_l_shows.nd rfl (Or.inr rfl)) (pgs_cons (pg_name (i := 4) sc_l_shows.nd rfl (Or.inr rfl)) (pgs_cons (pg_name (i := 5) sc_l_shows.nd rfl (Or.inr rfl)) pgs_nil)))))
      (Evl.pss_cut (ps_set (i := 7) sc_l_shows.nd rfl (Or.inr rfl) (pe_lc (own := [("_law_part", 6)]) (g := gName 6) rfl sc_l_shows.nd (pi_list (pv 1)) (blkOk_by (own := [("_law_part", 6)]) (N := N_l_shows) (sc := defScope s_l_shows) (by decide +kernel)) (fun _ _ _ _ _ => (pg_name (i := 6) sc_l_shows.nd rfl (Or.inl rfl))) (fun _ _ _ _ _ => pts_one (pt_cmpR (show OpR _ (compareOp .In) (rInS K) from op_inS (hu_of hr)) (pe_ix (show IxR _ (rIxT K) from ix_tup) (pv 6) pe_int (fun _ _ => rfl)) (pe_lst (pa_cons (pv 3) (pa_cons (pv 4) pa_nil))) (by first | rfl | with_unfolding_all rfl))) (fun _ _ _ _ _ => (pv 6))))
      (pss_cons (ps_if (PW.pt (pw_or (pt_not (pt_val (pe_callB (show CallR _ _ (rIsi K) from call_isi) (by rfl) T.n_isinstance (by decide +kernel) (pa_cons (pv 3) (pa_cons (pe_bltn (v := .ty "str") (by rfl) T.n_str (by decide +kernel) rfl) pa_nil))))) (pw_or (pt_not (pt_val (pe_callB (show CallR _ _ (rIsi K) from call_isi) (by rfl) T.n_isinstance (by decide +kernel) (pa_cons (pv 4) (pa_cons (pe_bltn (v := .ty "str") (by rfl) T.n_str (by decide +kernel) rfl) pa_nil))))) (pw_or (pt_cmpR op_eq (pv 3) (pv 4) (nomark _)) (pw_or1 (pt_cmpR op_ne (pe_callB (show CallR _ _ (rLenSeq K) from call_len_seq) (by rfl) T.n_len (by decide +kernel) (pa_cons (pv 7) pa_nil)) pe_int (nomark _))))))) (pss_one (ps_ret pe_bl)) pss_nil)
      (pss_cons (ps_if (pt_cmpR (show OpR _ (compareOp .Eq) (rEqD K) from op_eqD hr.units) (pe_lc (own := [("_law_name", 10)]) (g := gName 10) rfl sc_l_shows.nd (pi_list (pe_ix (show IxR _ (rIxT K) from ix_tup) (pe_ix (show IxR _ (rIxL K) from ix_list) (pv 7) pe_int (fun _ _ => rfl)) pe_int (fun _ _ => rfl))) (blkOk_by (own := [("_law_name", 10)]) (N := N_l_shows) (sc := defScope s_l_shows) (by decide +kernel)) (fun _ _ _ _ _ => (pg_name (i := 10) sc_l_shows.nd rfl (Or.inl rfl))) (fun _ _ _ _ _ => pts_one (pt_cmpR (show OpR _ (compareOp .In) (rIn K false) from op_in_seq) (pv 10) (pe_ix (show IxR _ (rIxT K) from ix_tup) (pe_ix (show IxR _ (rIxL K) from ix_list) (pv 7) pe_int (fun _ _ => rfl)) pe_int (fun _ _ => rfl)) (by first | rfl | with_unfolding_all rfl))) (fun _ _ _ _ _ => (pv 10))) (pe_lst pa_nil) (nomark _)) (pss_one (ps_ret pe_bl)) pss_nil)
      (pss_cons (ps_if (PW.pt (pw_or (pt_not (pt_val (pe_callB (show CallR _ _ (rIsi K) from call_isi) (by rfl) T.n_isinstance (by decide +kernel) (pa_cons (pv 5) (pa_cons (pe_bltn (v := .ty "tuple") (by rfl) T.n_tuple (by decide +kernel) rfl) pa_nil))))) (pw_or1 (pt_cmpR op_ne (pe_callB (show CallR _ _ (rLenSeq K) from call_len_seq) (by rfl) T.n_len (by decide +kernel) (pa_cons (pv 5) pa_nil)) (pe_callB (show CallR _ _ (rLenSeq K) from call_len_seq) (by rfl) T.n_len (by decide +kernel) (pa_cons (pv 0) pa_nil)) (nomark _))))) (pss_one (ps_ret pe_bl)) pss_nil)
      (pss_cons (ps_for PassesOwn.never rfl (pi_zipM (by rfl) T.n_zip (pa_cons (pv 5) (pa_cons (pv 0) pa_nil))) (pg_tup rfl (pgs_cons (pg_name (i := 6) sc_l_shows.nd rfl (Or.inl rfl)) (pgs_cons (pg_name (i := 8) sc_l_shows.nd rfl (Or.inl rfl)) pgs_nil))) (pss_one (ps_if (PW.pt (pw_or (pt_not (pt_val (pe_callB (show CallR _ _ (rIsi K) from call_isi) (by rfl) T.n_isinstance (by decide +kernel) (pa_cons (pv 6) (pa_cons (pe_bltn (v := .ty "int") (by rfl) T.n_int (by decide +kernel) rfl) pa_nil))))) (pw_or (pt_val (pe_callB (show CallR _ _ (rIsi K) from call_isi) (by rfl) T.n_isinstance (by decide +kernel) (pa_cons (pv 6) (pa_cons (pe_bltn (v := .ty "bool") (by rfl) T.n_bool (by decide +kernel) rfl) pa_nil)))) (pw_or1 (pt_not (pt_chain op_le op_lt pe_int (pv 6) (pe_ix (show IxR _ (rIxT K) from ix_tup) (pv 8) pe_int (fun _ _ => rfl)))))))) (pss_one (ps_ret pe_bl)) pss_nil)))
      (pss_cons (ps_set (i := 9) sc_l_shows.nd rfl (Or.inr rfl) (pe_lc (own := [("_law_name", 10), ("_law_size", 11)]) (g := gTup K 2 (gCons (gName 10) (gCons (gName 11) gNil))) rfl sc_l_shows.nd (pi_list (pv 0)) (blkOk_by (own := [("_law_name", 10), ("_law_size", 11)]) (N := N_l_shows) (sc := defScope s_l_shows) (by decide +kernel)) (fun _ _ _ _ _ => (pg_tup rfl (pgs_cons (pg_name (i := 10) sc_l_shows.nd rfl (Or.inl rfl)) (pgs_cons (pg_name (i := 11) sc_l_shows.nd rfl (Or.inl rfl)) pgs_nil)))) (fun _ _ _ _ _ => pts_nil) (fun _ _ _ _ _ => (pv 10))))
      (pss_one (ps_ret (pe_cmpR (show OpR _ (compareOp .Eq) (rEqD K) from op_eqD hr.units) (pe_lc (own := [("_law_part", 6)]) (g := gName 6) rfl sc_l_shows.nd (pi_list (pv 7)) (blkOk_by (own := [("_law_part", 6)]) (N := N_l_shows) (sc := defScope s_l_shows) (by decide +kernel)) (fun _ _ _ _ _ => (pg_name (i := 6) sc_l_shows.nd rfl (Or.inl rfl))) (fun _ _ _ _ _ => pts_one (pt_cmpR (show OpR _ (compareOp .NotIn) (rNotInD K) from op_notInD (hu65 hr)) (pe_callTy (show CallR _ _ (rTupOf K) from call_tuple_of) (by rfl) T.n_tuple (by decide +kernel) (pa_cons (pe_lc (own := [("_law_name", 10)]) (g := gName 10) rfl sc_l_shows.nd (show PI _ _ _ (iList K _) from (pi_list (pe_ix (show IxR _ (rIxT K) from ix_tup) (pv 6) pe_int (fun _ _ => rfl)))) (blkOk_by (own := [("_law_name", 10)]) (N := N_l_shows) (sc := relS _ (defScope s_l_shows)) (by decide +kernel)) (fun _ _ _ _ _ => (pg_name (i := 10) sc_l_shows.nd rfl (Or.inl rfl))) (fun _ _ _ _ _ => pts_nil) (fun _ _ _ _ _ => (pe_ix (show IxR _ (rIxT K) from ix_tup) (pv 5) (show PE _ _ (tBM K "list" (rIndex K) _ _) from pe_bm PySem.F.plainAttrs_list PySem.F.slot_list_index PySem.F.type_list_index mt_index (pv 9) (pa_cons (pv 10) pa_nil)) (fun _ _ => rfl)))) pa_nil)) (pe_ix (show IxR _ (rIxT K) from ix_tup) (pv 6) pe_int (fun _ _ => rfl)) (by first | rfl | with_unfolding_all rfl))) (fun _ _ _ _ _ => (pv 6))) (pe_lst pa_nil) (nomark _)))))))))))), ?_⟩
    rcases hs with ⟨k, rfl⟩ | ⟨ds, rfl, n3, lt, rfl⟩ | ⟨x, y, zd, rfl, hs⟩
    · exact ⟨_, rfl, _, _, _, _, _, rfl, .ty _, hd.ty, kit_kt k, _, rfl, q _ (Same.refl _)⟩
    · cases hd with
      | tup w h p =>
        refine ⟨_, rfl, _, _, _, _, _, rfl, .ty _, .base (.tup h), kit_tt, _, rfl, ?_⟩
        repeat (first | refine ⟨_, rfl, ?_⟩ | refine ⟨_, _, rfl, rfl, ?_⟩ | refine ⟨_, _, rfl, ?_⟩ | refine ⟨rfl, ?_⟩)
        refine ⟨_, _, rfl, .inr (.inl (.inl h)), rfl, _, rfl, ite2 (fun e => q _ (Same.refl _)) (fun e => absurd (by simp; rw [p.len]; omega) e)⟩
    cases hd with
    | tup wv hv pv =>
    cases pv with
    | cons h1 pv =>
    cases pv with
    | cons h2 pv =>
    cases pv with
    | cons h3 pv =>
    cases pv
    rename_i av vx vy vz
    refine ⟨_, rfl, _, _, _, _, _, rfl, .ty _, .base (.tup hv), kit_tt, _, rfl, ?_⟩
    repeat (first | refine ⟨_, rfl, ?_⟩ | refine ⟨_, _, rfl, rfl, ?_⟩ | refine ⟨_, _, rfl, ?_⟩ | refine ⟨rfl, ?_⟩)
    refine ⟨_, _, rfl, .inr (.inl (.inl hv)), rfl, _, rfl, ite2 (fun e => absurd e (by simp)) (fun _ => ?_)⟩
    repeat (first | refine ⟨_, rfl, ?_⟩ | refine ⟨_, _, rfl, rfl, ?_⟩ | refine ⟨_, _, rfl, ?_⟩ | refine ⟨rfl, ?_⟩)
    refine ⟨av, _, rfl, .inl (.inl hv), rfl, ?_⟩
    repeat (first | refine ⟨_, rfl, ?_⟩ | refine ⟨_, _, rfl, rfl, ?_⟩ | refine ⟨_, _, rfl, ?_⟩ | refine ⟨rfl, ?_⟩)
    refine ⟨fun σ G => ∃ D : Addr, σ = [some (.ref za), some (.ref ya), some (.ref av), some vx, some vy, some vz, none, some (.ref D), none, none, none, none] ∧ Same H G ∧ (sL sRow).at [] G (.ref D) (R.filter fun r => inV (.str r.1) [vx, vy]), ?_, ?_⟩
    · repeat (first | refine ⟨_, rfl, ?_⟩ | refine ⟨_, _, rfl, rfl, ?_⟩ | refine ⟨_, _, rfl, ?_⟩ | refine ⟨rfl, ?_⟩)
      refine ⟨⟨_, SqL.of hY⟩, fun D nD => ?_⟩
      refine lc_it (walk_list (K := K) (a := ya) (xs := ys)) (fun i H' => ∃ us, Acc sRow D [] [] H H' us ∧ us = (R.take i).filter fun r => inV (.str r.1) [vx, vy]) ⟨[], Acc.start Alv.nil nD (by simp), rfl⟩ (fun i H' _ ⟨_, ac, _⟩ => SqL.of (ac.st.same _ _ hY)) ?_ ?_
      · rintro i x Hx G hi ⟨us, ac, eu⟩ ⟨rfl, hx⟩
        obtain ⟨r, hr1, hm⟩ := pget' pY hx
        have sG := ac.st.same
        obtain ⟨tr, i1, i2, i3, rfl, -, htr, rfl, -⟩ := id hm
        refine ⟨wipe_in (by decide), ?_⟩
        repeat (first | refine ⟨_, rfl, ?_⟩ | refine ⟨_, _, rfl, rfl, ?_⟩ | refine ⟨_, _, rfl, ?_⟩ | refine ⟨rfl, ?_⟩)
        refine ⟨tr, _, (0 : Int), _, rfl, rfl, .inl (.inl (sG _ _ htr)), atI_nat (j := 0) rfl, ?_⟩
        repeat (first | refine ⟨_, rfl, ?_⟩ | refine ⟨_, _, rfl, rfl, ?_⟩ | refine ⟨_, _, rfl, ?_⟩ | refine ⟨rfl, ?_⟩)
        refine ⟨lenk 2 rfl (by decide), fun l nl => ?_⟩
        have sl : Same G (upd G l (.lst [vx, vy])) := Same.new nl
        have hl : upd G l (.lst [vx, vy]) l = some (.lst [vx, vy]) := upd_same
        generalize upd G l (.lst [vx, vy]) = G2 at sl hl
        have s2 := sG.trans sl
        repeat (first | refine ⟨_, rfl, ?_⟩ | refine ⟨_, _, rfl, rfl, ?_⟩ | refine ⟨_, _, rfl, ?_⟩ | refine ⟨rfl, ?_⟩)
        refine ⟨r.1, l, _, rfl, rfl, .inl (SqL.of hl), fun v hv => ?_, ?_⟩
        · rcases List.mem_cons.mp hv with rfl | hv
          · exact RD.anyK (RD.mv (fun a o w e => ⟨s2 _ _ e, w⟩) h1)
          · rw [List.mem_singleton.mp hv]
            exact RD.anyK (RD.mv (fun a o w e => ⟨s2 _ _ e, w⟩) h2)
        have l8i := (List.getElem?_eq_some_iff.mp hr1).1
        refine ⟨_, rfl, ite2 (fun c => ?_) (fun c => ?_)⟩
        · repeat (first | refine ⟨_, rfl, ?_⟩ | refine ⟨_, _, rfl, rfl, ?_⟩ | refine ⟨_, _, rfl, ?_⟩ | refine ⟨rfl, ?_⟩)
          refine ac.put (y := r) (R := fun us => us = (R.take (i + 1)).filter fun r => inV (.str r.1) [vx, vy]) (Stp.of_same sl) (Sh.go hm (Stp.of_same (m := []) s2) Sb.nil (Sb.new nD Sb.refl)) ?_ ?_
          · rw [eu]
            have := List.length_filter_le (fun r : Row => inV (.str r.1) [vx, vy]) (R.take i)
            rw [List.length_take] at this
            omega
          · rw [eu, ftake _ hr1, if_pos c]
        · refine ⟨us, ac.go (Stp.of_same sl), ?_⟩
          rw [eu, ftake _ hr1, if_neg c, List.append_nil]
      rintro G ⟨us, ac, eu⟩
      rw [lY, List.take_length] at eu
      repeat (first | refine ⟨_, rfl, ?_⟩ | refine ⟨_, _, rfl, rfl, ?_⟩ | refine ⟨_, _, rfl, ?_⟩ | refine ⟨rfl, ?_⟩)
      exact ⟨ac.st.same, by rw [← eu]; exact ac.done⟩
    rintro σ G ⟨D, rfl, s1, hD⟩
    have g1 : RD (fun a => a ∉ []) G vx x := RD.mv (fun a o w e => ⟨s1 _ _ e, w⟩) h1
    have g2 : RD (fun a => a ∉ []) G vy y := RD.mv (fun a o w e => ⟨s1 _ _ e, w⟩) h2
    have g3 : RD (fun a => a ∉ []) G vz zd := RD.mv (fun a o w e => ⟨s1 _ _ e, w⟩) h3
    obtain ⟨D', fs, eD, -, hDl, pF⟩ := id hD
    cases eD
    have lF := plen pF
    rcases hs with ⟨nx, rfl⟩ | ⟨r, hr', rfl, hs⟩
    · repeat (first | refine ⟨_, rfl, ?_⟩ | refine ⟨_, _, rfl, rfl, ?_⟩ | refine ⟨_, _, rfl, ?_⟩ | refine ⟨rfl, ?_⟩)
      rcases nx with ⟨s, rfl, ns⟩ | k
      · cases g1
        refine ⟨_, _, _, _, _, rfl, .ty _, .base (.str _), kit_ss, _, rfl, ?_⟩
        repeat (first | refine ⟨_, rfl, ?_⟩ | refine ⟨_, _, rfl, rfl, ?_⟩ | refine ⟨_, _, rfl, ?_⟩ | refine ⟨rfl, ?_⟩)
        by_cases k2 : kindD y = "str"
        · obtain ⟨s2, rfl⟩ := kd_str k2
          cases g2
          refine ⟨_, _, _, _, _, rfl, .ty _, .base (.str _), kit_ss, _, rfl, ?_⟩
          repeat (first | refine ⟨_, rfl, ?_⟩ | refine ⟨_, _, rfl, rfl, ?_⟩ | refine ⟨_, _, rfl, ?_⟩ | refine ⟨rfl, ?_⟩)
          refine ite2 (fun _ => q _ s1) (fun _ => ?_)
          repeat (first | refine ⟨_, rfl, ?_⟩ | refine ⟨_, _, rfl, rfl, ?_⟩ | refine ⟨_, _, rfl, ?_⟩ | refine ⟨rfl, ?_⟩)
          have l1 : fs.length ≤ 1 := by
            rw [lF]
            refine filt_le (s := s2) okR.nd fun z hz c => ?_
            have c' : ((s == z.1) || ((s2 == z.1) || false)) = true := c
            rcases (by simpa using c' : s = z.1 ∨ s2 = z.1) with e | e
            · exact absurd (List.mem_map.mpr ⟨z, hz, e.symm⟩) ns
            · exact e.symm
          refine ⟨D, _, rfl, .inl (SqL.of hDl), rfl, _, rfl, ite2 (fun _ => q _ s1) (fun e => absurd (by simp; omega) e)⟩
        · exact ⟨_, _, _, _, _, rfl, .ty _, g2.ty, kit_ks k2, _, rfl, q _ s1⟩
      · exact ⟨_, _, _, _, _, rfl, .ty _, g1.ty, kit_ks k, _, rfl, q _ s1⟩
    cases g1
    repeat (first | refine ⟨_, rfl, ?_⟩ | refine ⟨_, _, rfl, rfl, ?_⟩ | refine ⟨_, _, rfl, ?_⟩ | refine ⟨rfl, ?_⟩)
    refine ⟨_, _, _, _, _, rfl, .ty _, .base (.str _), kit_ss, _, rfl, ?_⟩
    repeat (first | refine ⟨_, rfl, ?_⟩ | refine ⟨_, _, rfl, rfl, ?_⟩ | refine ⟨_, _, rfl, ?_⟩ | refine ⟨rfl, ?_⟩)
    rcases hs with ⟨ny, rfl⟩ | ⟨w, hw, rfl, hs⟩
    · rcases ny with ⟨s, rfl, ns⟩ | k
      · cases g2
        refine ⟨_, _, _, _, _, rfl, .ty _, .base (.str _), kit_ss, _, rfl, ?_⟩
        repeat (first | refine ⟨_, rfl, ?_⟩ | refine ⟨_, _, rfl, rfl, ?_⟩ | refine ⟨_, _, rfl, ?_⟩ | refine ⟨rfl, ?_⟩)
        refine ite2 (fun _ => q _ s1) (fun _ => ?_)
        repeat (first | refine ⟨_, rfl, ?_⟩ | refine ⟨_, _, rfl, rfl, ?_⟩ | refine ⟨_, _, rfl, ?_⟩ | refine ⟨rfl, ?_⟩)
        have l1 : fs.length ≤ 1 := by
          rw [lF]
          refine filt_le (s := r.1) okR.nd fun z hz c => ?_
          have c' : ((r.1 == z.1) || ((s == z.1) || false)) = true := c
          rcases (by simpa using c' : r.1 = z.1 ∨ s = z.1) with e | e
          · exact e.symm
          · exact absurd (List.mem_map.mpr ⟨z, hz, e.symm⟩) ns
        refine ⟨D, _, rfl, .inl (SqL.of hDl), rfl, _, rfl, ite2 (fun _ => q _ s1) (fun e => absurd (by simp; omega) e)⟩
      · exact ⟨_, _, _, _, _, rfl, .ty _, g2.ty, kit_ks k, _, rfl, q _ s1⟩
    cases g2
    refine ⟨_, _, _, _, _, rfl, .ty _, .base (.str _), kit_ss, _, rfl, ?_⟩
    repeat (first | refine ⟨_, rfl, ?_⟩ | refine ⟨_, _, rfl, rfl, ?_⟩ | refine ⟨_, _, rfl, ?_⟩ | refine ⟨rfl, ?_⟩)
    have B0 : (r.1 = w.1 ∨ share r.2.1 w.2.1 = false) → B = false := fun h => by
      rcases hs with ⟨_, rfl⟩ | ⟨ns, -, -, rfl⟩
      · rfl
      · unfold showsB adjB
        rcases h with h | h
        · rw [decide_eq_true h]; rfl
        · rw [h, Bool.or_false]
          cases decide (r.1 = w.1) <;> rfl
    refine ite2 (fun c => ?_) (fun c => ?_)
    · have e : decide (r.1 = w.1) = true := by rw [← dec_vstr]; exact c
      rw [B0 (.inl (of_decide_eq_true e))] at q
      repeat (first | refine ⟨_, rfl, ?_⟩ | refine ⟨_, _, rfl, rfl, ?_⟩ | refine ⟨_, _, rfl, ?_⟩ | refine ⟨rfl, ?_⟩)
      exact q _ s1
    have ne : r.1 ≠ w.1 := fun e => c (by rw [e]; exact decide_eq_true rfl)
    repeat (first | refine ⟨_, rfl, ?_⟩ | refine ⟨_, _, rfl, rfl, ?_⟩ | refine ⟨_, _, rfl, ?_⟩ | refine ⟨rfl, ?_⟩)
    obtain ⟨p1, p2, ep, epq⟩ : ∃ p1 p2, R.filter (fun z => inV (.str z.1) [.str r.1, .str w.1]) = [p1, p2] ∧ ((p1 = r ∧ p2 = w) ∨ (p1 = w ∧ p2 = r)) := by
      rcases filt_two (f := fun z => inV (.str z.1) [.str r.1, .str w.1]) okR.nd hr' hw ne (fun z hz => by
        show ((r.1 == z.1) || ((w.1 == z.1) || false)) = _
        rw [Bool.or_false, Bool.eq_iff_iff, Bool.or_eq_true, Bool.or_eq_true, beq_iff_eq, beq_iff_eq, decide_eq_true_iff, decide_eq_true_iff]
        exact ⟨Or.imp Eq.symm Eq.symm, Or.imp Eq.symm Eq.symm⟩) with h | h
      · exact ⟨_, _, h, .inl ⟨rfl, rfl⟩⟩
      · exact ⟨_, _, h, .inr ⟨rfl, rfl⟩⟩
    rw [ep] at pF hD
    have m1 : p1 ∈ R := by rcases epq with ⟨rfl, -⟩ | ⟨rfl, -⟩ <;> assumption
    have m2 : p2 ∈ R := by rcases epq with ⟨-, rfl⟩ | ⟨-, rfl⟩ <;> assumption
    cases pF with
    | @cons x1 _ _ _ hp1 pF =>
    cases pF with
    | @cons x2 _ _ _ hp2 pF =>
    cases pF
    refine ⟨D, _, rfl, .inl (SqL.of hDl), rfl, _, rfl, ite2 (fun e => absurd e (by simp)) (fun _ => ?_)⟩
    repeat (first | refine ⟨_, rfl, ?_⟩ | refine ⟨_, _, rfl, rfl, ?_⟩ | refine ⟨_, _, rfl, ?_⟩ | refine ⟨rfl, ?_⟩)
    obtain ⟨t1, _, _, _, rfl, -, ht1, -, hc1, hb1⟩ := id hp1
    obtain ⟨a1, rfl, -, ha1⟩ := Sh.strs hc1
    obtain ⟨t2, _, _, _, rfl, -, ht2, -, hc2, hb2⟩ := id hp2
    obtain ⟨a2, rfl, -, ha2⟩ := Sh.strs hc2
    have ok1 := okR.ok p1 m1
    have ok2 := okR.ok p2 m2
    refine ⟨D, _, (0 : Int), _, rfl, rfl, SqL.of hDl, atI_nat (j := 0) rfl, ?_⟩
    repeat (first | refine ⟨_, rfl, ?_⟩ | refine ⟨_, _, rfl, rfl, ?_⟩ | refine ⟨_, _, rfl, ?_⟩ | refine ⟨rfl, ?_⟩)
    refine ⟨t1, _, (1 : Int), _, rfl, rfl, .inl (.inl ht1), atI_nat (j := 1) rfl, ?_⟩
    refine ⟨a1, rfl, ⟨_, SqL.of ha1⟩, fun U nU => ?_⟩
    refine lc_it (walk_list (K := K) (a := a1) (xs := p1.2.1.map V.str)) (fun i H' => H' U = some (.lst (((p1.2.1.take i).filter fun z => decide (z ∈ p2.2.1)).map V.str)) ∧ Same G H') ⟨upd_same, Same.new nU⟩ (fun i H' _ h => SqL.of (h.2 _ _ ha1)) ?_ ?_
    · rintro k z H6 H7 hk ⟨h1, h2⟩ ⟨rfl, hz⟩
      obtain ⟨li, rfl⟩ := str_at' hz
      refine ⟨wipe_in (by decide), ?_⟩
      repeat (first | refine ⟨_, rfl, ?_⟩ | refine ⟨_, _, rfl, rfl, ?_⟩ | refine ⟨_, _, rfl, ?_⟩ | refine ⟨rfl, ?_⟩)
      refine ⟨D, _, (1 : Int), _, rfl, rfl, SqL.of (h2 _ _ hDl), atI_nat (j := 1) rfl, ?_⟩
      repeat (first | refine ⟨_, rfl, ?_⟩ | refine ⟨_, _, rfl, rfl, ?_⟩ | refine ⟨_, _, rfl, ?_⟩ | refine ⟨rfl, ?_⟩)
      refine ⟨t2, _, (1 : Int), _, rfl, rfl, .inl (.inl (h2 _ _ ht2)), atI_nat (j := 1) rfl, ?_⟩
      refine ⟨a2, _, rfl, .inl (SqL.of (h2 _ _ ha2)), rfl, flat_str _, _, rfl, ?_⟩
      rw [inV_str, ftake _ (List.getElem?_eq_getElem li)]
      by_cases hm : p1.2.1[k] ∈ p2.2.1
      · rw [decide_eq_true hm]
        refine iteT ?_
        repeat (first | refine ⟨_, rfl, ?_⟩ | refine ⟨_, _, rfl, rfl, ?_⟩ | refine ⟨_, _, rfl, ?_⟩ | refine ⟨rfl, ?_⟩)
        have r4 := ok1.few
        refine ⟨_, h1, ?_, ?_, Same.upd_p h2 nU⟩
        · rw [List.length_map, sizeLine_eq]
          have := List.length_filter_le (fun z => decide (z ∈ p2.2.1)) (p1.2.1.take k)
          rw [List.length_take] at this
          omega
        · rw [upd_same, if_pos rfl, List.map_append]; rfl
      · rw [decide_eq_false hm]
        refine iteF ⟨?_, h2⟩
        rw [if_neg Bool.false_ne_true, List.append_nil]
        exact h1
    rintro H6 ⟨h6, s6⟩
    rw [List.length_map, List.take_length] at h6
    refine ⟨Nat.zero_le _, fun q1 nq1 => ?_⟩
    have k1 := Same.new (o := .lst []) nq1
    refine ⟨.list ((p1.2.1.filter fun z => decide (z ∈ p2.2.1)).map PyData.str), .list [], .lst (SqL.of (k1 _ _ h6)) (dp_strs _), .lst (SqL.of upd_same) .nil, nm_shaped (fun s hs => by
      obtain ⟨q, hq, e⟩ := List.mem_map.mp (ok1.sub s (List.mem_filter.mp hs).1)
      rw [← e]; exact okL.nm q hq), nil_shaped, ?_⟩
    rw [eqv_nil]
    have esh : decide ((p1.2.1.filter fun z => decide (z ∈ p2.2.1)) = []) = !share r.2.1 w.2.1 := by
      rw [← Bool.not_not (decide _), share_filter]
      rcases epq with ⟨rfl, rfl⟩ | ⟨rfl, rfl⟩
      · rfl
      · rw [share_comm]
    rw [esh]
    have s2 : Same G (upd H6 q1 (.lst [])) := s6.trans k1
    generalize upd H6 q1 (.lst []) = H7 at s2
    clear k1 h6 s6
    have s12 := s1.trans s2
    repeat (first | refine ⟨_, rfl, ?_⟩ | refine ⟨_, _, rfl, rfl, ?_⟩ | refine ⟨_, _, rfl, ?_⟩ | refine ⟨rfl, ?_⟩)
    refine ite2 (fun c => ?_) (fun c => ?_)
    · have c' : share r.2.1 w.2.1 = false := by simpa using c
      rw [B0 (.inr c')] at q
      repeat (first | refine ⟨_, rfl, ?_⟩ | refine ⟨_, _, rfl, rfl, ?_⟩ | refine ⟨_, _, rfl, ?_⟩ | refine ⟨rfl, ?_⟩)
      exact q _ s12
    have c' : share r.2.1 w.2.1 = true := by simpa using c
    repeat (first | refine ⟨_, rfl, ?_⟩ | refine ⟨_, _, rfl, rfl, ?_⟩ | refine ⟨_, _, rfl, ?_⟩ | refine ⟨rfl, ?_⟩)
    have g3' : RD (fun a => a ∉ []) H7 vz zd := RD.mv (fun a o w e => ⟨s2 _ _ e, w⟩) g3
    have gen : ((∃ t, TyX K H7 vz t ∧ PySem.W.kitOne K t (.type "tuple") = some false) ∧ B = false) ∨ ∃ tz ws, vz = .ref tz ∧ H7 tz = some (.tup ws) ∧ (∀ x ∈ ws, (∃ i, x = .int i) ∨ NotI K H7 x) ∧ ((valsB ws (L.map (·.2)) = false ∧ B = false) ∨ ∃ ns, ws = ns.map V.int ∧ valsB ws (L.map (·.2)) = true ∧ B = showsB L r w ns) := by
      rcases hs with ⟨hb, e⟩ | ⟨ns, rfl, hval, e⟩
      · rcases g3'.noVals (K := K) hb with h | ⟨tz, ws, e1, h, h2, h3⟩
        · exact .inl ⟨h, e⟩
        · exact .inr ⟨tz, ws, e1, h, h2, .inl ⟨h3, e⟩⟩
      · cases g3' with
        | tup w3 h33 p3 =>
          rw [RDs.ints_inv p3] at h33
          exact .inr ⟨_, _, rfl, h33, (fun x hx => by obtain ⟨i, _, rfl⟩ := List.mem_map.mp hx; exact .inl ⟨i, rfl⟩), .inr ⟨ns, rfl, hval, e⟩⟩
    rcases gen with ⟨⟨t, ty, kk⟩, eB⟩ | ⟨tz, ws, rfl, htz, hws, gen⟩
    · rw [eB] at q
      exact ⟨_, _, t, _, _, rfl, .ty _, ty, kk, _, rfl, q _ s12⟩
    have Bf : valsB ws (L.map (·.2)) = false → B = false := fun h => by
      rcases gen with ⟨_, e⟩ | ⟨ns, _, h2, _⟩
      · exact e
      · rw [h] at h2; cases h2
    refine ⟨_, _, _, _, _, rfl, .ty _, .base (.tup htz), kit_tt, _, rfl, ?_⟩
    repeat (first | refine ⟨_, rfl, ?_⟩ | refine ⟨_, _, rfl, rfl, ?_⟩ | refine ⟨_, _, rfl, ?_⟩ | refine ⟨rfl, ?_⟩)
    refine ⟨tz, _, rfl, .inr (.inl (.inl htz)), _, rfl, za, _, rfl, .inl (SqL.of (s12 _ _ hZ)), rfl, _, rfl, ite2 (fun e => ?_) (fun e => ?_)⟩
    · have ne : ¬ ws.length = (L.map (·.2)).length := fun y => by rw [List.length_map] at y; rw [lZ, y] at e; simp at e
      rw [Bf (by unfold valsB; rw [decide_eq_false ne, Bool.false_and])] at q
      repeat (first | refine ⟨_, rfl, ?_⟩ | refine ⟨_, _, rfl, rfl, ?_⟩ | refine ⟨_, _, rfl, ?_⟩ | refine ⟨rfl, ?_⟩)
      exact q _ s12
    have el : ws.length = L.length := by
      rw [lZ] at e
      simp at e
      omega
    repeat (first | refine ⟨_, rfl, ?_⟩ | refine ⟨_, _, rfl, rfl, ?_⟩ | refine ⟨_, _, rfl, ?_⟩ | refine ⟨rfl, ?_⟩)
    have mn : min ws.length zs.length = L.length := by rw [el, lZ, Nat.min_self]
    refine ⟨tz, za, _, _, rfl, .inl (.inl htz), SqL.of (s12 _ _ hZ), ?_⟩
    refine for_it walk_zipM (fun i σ G => ∃ x6 x8, σ = [some (.ref za), some (.ref ya), some (.ref av), some (.str r.1), some (.str w.1), some (.ref tz), x6, some (.ref D), x8, none, none, none] ∧ Same H7 G ∧ ((ws.zip (L.map (·.2))).take i).all (fun z => inI 0 (z.2 - 1) z.1) = true) ⟨_, _, rfl, Same.refl _, rfl⟩ (fun i σ G _ ⟨_, _, _, k, _⟩ => ⟨.inl (.inl (k _ _ htz)), SqL.of (k _ _ (s12 _ _ hZ))⟩) ?_ ?_
    · rintro i x σ G1 G2 hi ⟨x6, x8, rfl, s3, hall⟩ ⟨T', y1, y2, rfl, nT, rfl, e1, e2⟩
      have s4 := s3.trans (Same.new (o := .tup [y1, y2]) nT)
      have hT2 : upd G1 T' (.tup [y1, y2]) T' = some (.tup [y1, y2]) := upd_same
      generalize upd G1 T' (.tup [y1, y2]) = G4 at s4 hT2
      obtain ⟨q0, hq0, tp, _, _, rfl, -, htp, rfl, rfl⟩ := pget' pZ (show zs[i]? = some y2 from e2)
      replace htp := (s12.trans s4) _ _ htp
      replace e1 : ws[i]? = some y1 := e1
      have mx := hws y1 (List.mem_of_getElem? e1)
      have ez : (ws.zip (L.map (·.2)))[i]? = some (y1, q0.2) := List.getElem?_zip_eq_some.mpr ⟨e1, by rw [List.getElem?_map, hq0]; rfl⟩
      have good : inI 0 (q0.2 - 1) y1 = true → ((ws.zip (L.map (·.2))).take (i + 1)).all (fun z => inI 0 (z.2 - 1) z.1) = true := fun g => by
        rw [List.take_add_one, ez, List.all_append, hall]; simp [g]
      have bad : inI 0 (q0.2 - 1) y1 = false → B = false := fun g => by
        refine Bf ?_
        unfold valsB
        rw [Bool.and_eq_false_iff]
        exact .inr (List.all_eq_false.mpr ⟨(y1, q0.2), List.mem_of_getElem? ez, by rw [g]; simp⟩)
      refine ⟨T', _, rfl, .inl (.inl hT2), rfl, _, _, rfl, ?_⟩
      repeat (first | refine ⟨_, rfl, ?_⟩ | refine ⟨_, _, rfl, rfl, ?_⟩ | refine ⟨_, _, rfl, ?_⟩ | refine ⟨rfl, ?_⟩)
      rcases mx with ⟨n, rfl⟩ | nI
      · have en : inI 0 (q0.2 - 1) (.int n) = (decide (0 ≤ n) && decide (n < q0.2)) := by
          show (decide (0 ≤ n) && decide (n ≤ q0.2 - 1)) = _
          congr 1
          rw [decide_eq_decide]; omega
        rw [en] at good bad
        refine ⟨_, _, _, _, _, rfl, .ty _, .base (.int n), kit_ii, _, rfl, ?_⟩
        repeat (first | refine ⟨_, rfl, ?_⟩ | refine ⟨_, _, rfl, rfl, ?_⟩ | refine ⟨_, _, rfl, ?_⟩ | refine ⟨rfl, ?_⟩)
        refine ⟨_, _, _, _, _, rfl, .ty _, .base (.int n), kit_ib, _, rfl, ?_⟩
        repeat (first | refine ⟨_, rfl, ?_⟩ | refine ⟨_, _, rfl, rfl, ?_⟩ | refine ⟨_, _, rfl, ?_⟩ | refine ⟨rfl, ?_⟩)
        refine ite2 (fun e3 => ?_) (fun e3 => ?_)
        · repeat (first | refine ⟨_, rfl, ?_⟩ | refine ⟨_, _, rfl, rfl, ?_⟩ | refine ⟨_, _, rfl, ?_⟩ | refine ⟨rfl, ?_⟩)
          refine ⟨tp, _, (1 : Int), _, rfl, rfl, .inl (.inl htp), atI_nat (j := 1) rfl, ?_⟩
          repeat (first | refine ⟨_, rfl, ?_⟩ | refine ⟨_, _, rfl, rfl, ?_⟩ | refine ⟨_, _, rfl, ?_⟩ | refine ⟨rfl, ?_⟩)
          refine ite2 (fun e4 => ?_) (fun e4 => ?_)
          · rw [bad (by simp at e3 e4 ⊢; omega)] at q
            repeat (first | refine ⟨_, rfl, ?_⟩ | refine ⟨_, _, rfl, rfl, ?_⟩ | refine ⟨_, _, rfl, ?_⟩ | refine ⟨rfl, ?_⟩)
            exact q _ (s12.trans s4)
          · repeat (first | refine ⟨_, rfl, ?_⟩ | refine ⟨_, _, rfl, rfl, ?_⟩ | refine ⟨_, _, rfl, ?_⟩ | refine ⟨rfl, ?_⟩)
            exact ⟨s4, good (by simp at e3 e4 ⊢; omega)⟩
        · rw [bad (by simp at e3 ⊢; omega)] at q
          repeat (first | refine ⟨_, rfl, ?_⟩ | refine ⟨_, _, rfl, rfl, ?_⟩ | refine ⟨_, _, rfl, ?_⟩ | refine ⟨rfl, ?_⟩)
          exact q _ (s12.trans s4)
      · have g := nI.inI 0 (q0.2 - 1)
        obtain ⟨ty, h1, k | ⟨k, k2⟩⟩ := nI.same s4
        · refine ⟨_, _, ty, _, _, rfl, .ty _, h1, k, _, rfl, ?_⟩
          rw [bad g] at q
          repeat (first | refine ⟨_, rfl, ?_⟩ | refine ⟨_, _, rfl, rfl, ?_⟩ | refine ⟨_, _, rfl, ?_⟩ | refine ⟨rfl, ?_⟩)
          exact q _ (s12.trans s4)
        · refine ⟨_, _, ty, _, _, rfl, .ty _, h1, k, _, rfl, ?_⟩
          repeat (first | refine ⟨_, rfl, ?_⟩ | refine ⟨_, _, rfl, rfl, ?_⟩ | refine ⟨_, _, rfl, ?_⟩ | refine ⟨rfl, ?_⟩)
          refine ⟨_, _, ty, _, _, rfl, .ty _, h1, k2, _, rfl, ?_⟩
          rw [bad g] at q
          repeat (first | refine ⟨_, rfl, ?_⟩ | refine ⟨_, _, rfl, rfl, ?_⟩ | refine ⟨_, _, rfl, ?_⟩ | refine ⟨rfl, ?_⟩)
          exact q _ (s12.trans s4)
    rintro σ G3 ⟨x6, x8, rfl, s3, hall⟩
    have hv2 : valsB ws (L.map (·.2)) = true := by
      have lz2 : (ws.zip (L.map (·.2))).length = min ws.length zs.length := by rw [List.length_zip, List.length_map, lZ]
      rw [← lz2, List.take_length] at hall
      unfold valsB
      rw [hall, decide_eq_true (by rw [List.length_map, el])]; rfl
    obtain ⟨ns, rfl, -, rfl⟩ : ∃ ns, ws = ns.map V.int ∧ valsB ws (L.map (·.2)) = true ∧ B = showsB L r w ns := by
      rcases gen with ⟨h, _⟩ | h
      · rw [hv2] at h; cases h
      · exact h
    have ln : ns.length = L.length := by rw [← el, List.length_map]
    repeat (first | refine ⟨_, rfl, ?_⟩ | refine ⟨_, _, rfl, rfl, ?_⟩ | refine ⟨_, _, rfl, ?_⟩ | refine ⟨rfl, ?_⟩)
    have s13 : Same H G3 := s12.trans s3
    refine ⟨⟨_, SqL.of (s13 _ _ hZ)⟩, fun N nN => ?_⟩
    refine lc_it (walk_list (K := K) (a := za) (xs := zs)) (fun i H' => H' N = some (.lst (((L.take i).map (·.1)).map V.str)) ∧ Same G3 H') ⟨upd_same, Same.new nN⟩ (fun i H' _ h => SqL.of (h.2 _ _ (s13 _ _ hZ))) ?_ ?_
    · rintro i x Hx G4 hi ⟨k1, k2⟩ ⟨rfl, hx⟩
      obtain ⟨q0, hq0, tp, _, _, rfl, -, htp, rfl, rfl⟩ := pget' pZ hx
      refine ⟨tp, _, rfl, .inl (.inl (k2 _ _ (s13 _ _ htp))), rfl, _, _, rfl, ?_⟩
      repeat (first | refine ⟨_, rfl, ?_⟩ | refine ⟨_, _, rfl, rfl, ?_⟩ | refine ⟨_, _, rfl, ?_⟩ | refine ⟨rfl, ?_⟩)
      refine ⟨_, k1, by rw [List.length_map, List.length_map, List.length_take, sizeLine_eq]; omega, ?_, Same.upd_p k2 nN⟩
      rw [upd_same, take_map_snoc _ hq0, List.map_append]; rfl
    rintro G4 ⟨hN, s4⟩
    rw [lZ, List.take_length] at hN
    have s14 := s13.trans s4
    have s24 : Same G G4 := s2.trans (s3.trans s4)
    have s74 : Same H7 G4 := s3.trans s4
    repeat (first | refine ⟨_, rfl, ?_⟩ | refine ⟨_, _, rfl, rfl, ?_⟩ | refine ⟨_, _, rfl, ?_⟩ | refine ⟨rfl, ?_⟩)
    have pP : Paired (sRow.at [] G4) [V.ref t1, V.ref t2] [p1, p2] := Sh.gos (.cons hp1 (.cons hp2 .nil)) (Stp.of_same (m := []) s24) Sb.nil Sb.refl
    refine ⟨⟨_, SqL.of (s24 _ _ hDl)⟩, fun U nU => ?_⟩
    refine lc_it (walk_list (K := K) (a := D) (xs := [V.ref t1, V.ref t2])) (fun i H' => ∃ us, Acc sRow U [] [] G4 H' us ∧ us = ([p1, p2].take i).filter fun r => !bad1 L ns r) ⟨[], Acc.start Alv.nil nU (by simp), rfl⟩ (fun i H' _ ⟨_, ac, _⟩ => SqL.of (ac.st.same _ _ (s24 _ _ hDl))) ?_ ?_
    · rintro i x Hx G5 hi ⟨us, ac, eu⟩ ⟨rfl, hx⟩
      obtain ⟨rr, hrr, hm⟩ := pget' pP hx
      have mr : rr ∈ R := by
        rcases List.mem_cons.mp (List.mem_of_getElem? hrr) with e | e
        · rw [e]; exact m1
        · rw [List.mem_singleton.mp e]; exact m2
      have rok := okR.ok rr mr
      have r4 := rok.few
      have s5 := ac.st.same
      obtain ⟨tr, _, _, _, rfl, -, htr, -, hsc, hbd⟩ := id hm
      obtain ⟨a, rfl, -, ha⟩ := Sh.strs hsc
      refine ⟨wipe_in (by decide), ?_⟩
      repeat (first | refine ⟨_, rfl, ?_⟩ | refine ⟨_, _, rfl, rfl, ?_⟩ | refine ⟨_, _, rfl, ?_⟩ | refine ⟨rfl, ?_⟩)
      refine ⟨tr, _, (1 : Int), _, rfl, rfl, .inl (.inl (s5 _ _ htr)), atI_nat (j := 1) rfl, ?_⟩
      refine ⟨a, rfl, ⟨_, SqL.of (s5 _ _ ha)⟩, fun C nC => ?_⟩
      refine lc_it (walk_list (K := K) (a := a) (xs := rr.2.1.map V.str)) (fun j H' => H' C = some (.lst ((restr L ns (rr.2.1.take j)).map V.int)) ∧ Same G5 H') ⟨upd_same, Same.new nC⟩ (fun j H' _ h => SqL.of (h.2 _ _ (s5 _ _ ha))) ?_ ?_
      · rintro j x H5 H6 hj ⟨k1, k2⟩ ⟨rfl, hx2⟩
        obtain ⟨lj, rfl⟩ := str_at' hx2
        have mx := rok.sub _ (List.getElem_mem lj)
        have lp := placeOf_lt mx
        rw [← ln] at lp
        have hat : atI (ns.map V.int) ((placeOf L rr.2.1[j] : Nat) : Int) = some (.int ns[placeOf L rr.2.1[j]]) := atI_nat (by rw [List.getElem?_map, List.getElem?_eq_getElem lp]; rfl)
        obtain ⟨i1, i2⟩ := at_idx mx
        have hN5 := k2 _ _ (s5 _ _ hN)
        have htz5 := k2 _ _ (s5 _ _ (s74 _ _ htz))
        refine ⟨wipe_in (by decide), ?_⟩
        repeat (first | refine ⟨_, rfl, ?_⟩ | refine ⟨_, _, rfl, rfl, ?_⟩ | refine ⟨_, _, rfl, ?_⟩ | refine ⟨rfl, ?_⟩)
        refine ⟨.inl ⟨rfl, _, SqL.of hN5⟩, ?_⟩
        repeat (first | refine ⟨_, rfl, ?_⟩ | refine ⟨_, _, rfl, rfl, ?_⟩ | refine ⟨_, _, rfl, ?_⟩ | refine ⟨rfl, ?_⟩)
        refine ⟨N, _, _, placeOf L rr.2.1[j], .str rr.2.1[j], rfl, rfl, SqL.of hN5, rfl, flat_str _, by rw [List.getElem?_map]; exact congrArg (Option.map V.str) i1, eqv_ss.trans (decide_eq_true rfl), ?_, ?_⟩
        · intro m z' hm hz'
          rw [List.getElem?_map] at hz'
          cases e : (L.map (·.1))[m]? with
          | none => rw [e] at hz'; cases hz'
          | some q' =>
            rw [e] at hz'
            cases hz'
            exact eqv_ss.trans (decide_eq_false (i2 m q' hm e))
        repeat (first | refine ⟨_, rfl, ?_⟩ | refine ⟨_, _, rfl, rfl, ?_⟩ | refine ⟨_, _, rfl, ?_⟩ | refine ⟨rfl, ?_⟩)
        refine ⟨tz, _, _, _, rfl, rfl, .inl (.inl htz5), hat, ?_⟩
        repeat (first | refine ⟨_, rfl, ?_⟩ | refine ⟨_, _, rfl, rfl, ?_⟩ | refine ⟨_, _, rfl, ?_⟩ | refine ⟨rfl, ?_⟩)
        refine ⟨_, k1, by unfold restr; rw [List.length_map, List.length_map, List.length_take, sizeLine_eq]; omega, ?_, Same.upd_p k2 nC⟩
        rw [upd_same, take_snoc lj]
        unfold restr
        rw [List.map_append, List.map_append, List.map_cons, List.getElem?_eq_getElem lp]
        rfl
      rintro G6 ⟨hC, s6⟩
      rw [List.length_map, List.take_length] at hC
      repeat (first | refine ⟨_, rfl, ?_⟩ | refine ⟨_, _, rfl, rfl, ?_⟩ | refine ⟨_, _, rfl, ?_⟩ | refine ⟨rfl, ?_⟩)
      refine ⟨C, _, rfl, .inl ⟨SqL.of hC, fun t nt => ?_⟩⟩
      have sN : Same G6 (upd G6 t (.tup ((restr L ns rr.2.1).map V.int))) := Same.new nt
      have hT : (sT sInt).at [] (upd G6 t (.tup ((restr L ns rr.2.1).map V.int))) (.ref t) (restr L ns rr.2.1) := ⟨t, _, rfl, by simp, upd_same, pd_ints⟩
      generalize upd G6 t (.tup ((restr L ns rr.2.1).map V.int)) = G7 at sN hT
      have s57 := s6.trans sN
      have s47 := s5.trans s57
      repeat (first | refine ⟨_, rfl, ?_⟩ | refine ⟨_, _, rfl, rfl, ?_⟩ | refine ⟨_, _, rfl, ?_⟩ | refine ⟨rfl, ?_⟩)
      refine ⟨tr, _, (2 : Int), _, rfl, rfl, .inl (.inl (s47 _ _ htr)), atI_nat (j := 2) rfl, ?_⟩
      have hb7 := Sh.go hbd (Stp.of_same (m := []) s47) Sb.nil Sb.refl
      refine ⟨tupD (restr L ns rr.2.1), rr.2.2.map tupD, (isD_T isD_int).dp hT, (isD_L (isD_T isD_int)).dp hb7, (shd_tup _).shaped (by decide), (shd_tups _).shaped (by decide), ?_⟩
      rw [any_tups, show decide (restr L ns rr.2.1 ∈ rr.2.2) = bad1 L ns rr from rfl]
      refine ⟨_, rfl, ite2 (fun c => ?_) (fun c => ?_)⟩
      · repeat (first | refine ⟨_, rfl, ?_⟩ | refine ⟨_, _, rfl, rfl, ?_⟩ | refine ⟨_, _, rfl, ?_⟩ | refine ⟨rfl, ?_⟩)
        refine ac.put (y := rr) (R := fun us => us = ([p1, p2].take (i + 1)).filter fun r => !bad1 L ns r) (Stp.of_same s57) (Sh.go hm (Stp.of_same (m := []) s47) Sb.nil (Sb.new nU Sb.refl)) ?_ ?_
        · rw [eu]
          have := List.length_filter_le (fun r => !bad1 L ns r) ([p1, p2].take i)
          rw [List.length_take] at this
          have : [p1, p2].length = 2 := rfl
          omega
        · rw [eu, ftake _ hrr, if_pos c]
      · refine ⟨us, ac.go (Stp.of_same s57), ?_⟩
        rw [eu, ftake _ hrr, if_neg c, List.append_nil]
    rintro G6 ⟨us, ac, eu⟩
    rw [show [V.ref t1, V.ref t2].length = [p1, p2].length from rfl, List.take_length] at eu
    refine ⟨Nat.zero_le _, fun q2 nq2 => ?_⟩
    have k2 := Same.new (o := .lst []) nq2
    have sh := Sh.go ac.done (Stp.of_same (m := []) k2) Sb.nil Sb.refl
    have ous : ∀ z ∈ us, RowOk L z := fun z hz => by
      rw [eu] at hz
      rcases List.mem_cons.mp (List.mem_filter.mp hz).1 with e | e
      · rw [e]; exact ok1
      · rw [List.mem_singleton.mp e]; exact ok2
    refine ⟨.list (us.map rowD), .list [], (isD_L isD_row).dp sh, .lst (SqL.of upd_same) .nil, (shd_rows okL ous).shaped (by decide), nil_shaped, ?_⟩
    rw [eqv_nilG]
    have e : (us.map rowD).isEmpty = showsB L r w ns := by
      have e1 : (us.map rowD).isEmpty = (bad1 L ns p1 && bad1 L ns p2) := by
        rw [List.isEmpty_map, eu]
        cases b1 : bad1 L ns p1 <;> cases b2 : bad1 L ns p2 <;> simp [List.filter_cons, b1, b2]
      rw [e1]
      unfold showsB adjB
      rw [decide_eq_false ne, c']
      rcases epq with ⟨rfl, rfl⟩ | ⟨rfl, rfl⟩
      · simp
      · rw [Bool.and_comm]; simp
    rw [e]
    exact q _ (s14.trans (ac.st.same.trans k2))

end K13
namespace K13
open PySem PySem.Spec PyProof.Rows L2 TL
/-! ### strange values: the law -/
section
variable {M : List Addr} {H H' : Hp} {p : Addr} {vs : List V} {ds : List PyData}
theorem rds_same (h : RDs (fun a => a ∉ M) H vs ds) (s : Same H H') : RDs (fun a => a ∉ M) H' vs ds := RDs.mv (fun a o n e => ⟨s _ _ e, n⟩) h
theorem rd_new_l (al : Alv M H) (np : H p = none) (h : RDs (fun a => a ∉ M) H vs ds) : sDat.at M (upd H p (.lst vs)) (.ref p) (.list ds) := RD.lst (al.off np) upd_same (rds_same h (Same.new np))
theorem rd_new_t (al : Alv M H) (np : H p = none) (h : RDs (fun a => a ∉ M) H vs ds) : sDat.at M (upd H p (.tup vs)) (.ref p) (.tuple ds) := RD.tup (al.off np) upd_same (rds_same h (Same.new np))
theorem rd_inv_l {v : V} (h : sDat.at M H v (.list ds)) : ∃ p vs, v = .ref p ∧ p ∉ M ∧ H p = some (.lst vs) ∧ RDs (fun a => a ∉ M) H vs ds := by
  replace h : RD (fun a => a ∉ M) H v (.list ds) := h
  cases h with
  | lst w h p => exact ⟨_, _, rfl, w, h, p⟩
theorem rd_inv_t {v : V} (h : sDat.at M H v (.tuple ds)) : ∃ p vs, v = .ref p ∧ p ∉ M ∧ H p = some (.tup vs) ∧ RDs (fun a => a ∉ M) H vs ds := by
  replace h : RD (fun a => a ∉ M) H v (.tuple ds) := h
  cases h with
  | tup w h p => exact ⟨_, _, rfl, w, h, p⟩
theorem rd_pick {W : Addr → Prop} {i : Int} (h : RDs W H vs ds) (h0 : 0 ≤ i) (h1 : i < (ds.length : Int)) : ∃ v d, atI vs i = some v ∧ ds[i.toNat]? = some d ∧ RD W H v d := by
  obtain ⟨v, e1, e2⟩ := atI_in (xs := vs) h0 (by rw [h.len]; exact h1)
  obtain ⟨d, e3, e4⟩ := h.get e1
  exact ⟨v, d, e2, e3, e4⟩
end
theorem flat_rep {α : Type} (n : Nat) (v : α) : (List.replicate n [v]).flatten = List.replicate n v := by
  induction n with
  | zero => rfl
  | succ n ih => rw [List.replicate_succ, List.flatten_cons, ih]; rfl
theorem catA_pre {K : PySem.W.Frag} {Q : VK} {a c : Addr} {xs : List V} {y : V} {H : Hp} (ha : H a = some (.tup xs)) (hc : H c = some (.tup [y])) (nz : xs.length + 1 ≤ sizeLine)
    (q : ∀ p H', Same H H' → (p = c ∨ H p = none) → H' p = some (.tup (xs ++ [y])) → Q (.ref p) H') : rCatA K (.ref a) (.ref c) H Q :=
  ⟨a, c, xs, [y], rfl, rfl, .inl (.inl ha), .inl (.inl hc), nz, fun e => by subst e; exact q c H (Same.refl H) (.inl rfl) hc, fun _ e => (by cases e), fun _ _ p np => q p _ (Same.new np) (.inr np) upd_same⟩
theorem catA_post {K : PySem.W.Frag} {Q : VK} {a c : Addr} {xs ys : List V} {H : Hp} (ha : H a = some (.tup xs)) (hc : H c = some (.tup ys)) (nx : xs ≠ []) (nz : xs.length + ys.length ≤ sizeLine)
    (q : ∀ p H', Same H H' → (p = a ∨ H p = none) → H' p = some (.tup (xs ++ ys)) → Q (.ref p) H') : rCatA K (.ref a) (.ref c) H Q :=
  ⟨a, c, xs, ys, rfl, rfl, .inl (.inl ha), .inl (.inl hc), nz, fun e => absurd e nx, fun _ e => by subst e; exact q a H (Same.refl H) (.inl rfl) (by rw [List.append_nil]; exact ha), fun _ _ p np => q p _ (Same.new np) (.inr np) upd_same⟩
theorem slA_any {K : PySem.W.Frag} {Q : VK} {a : Addr} {xs : List V} {lo hi : Option Int} {H : Hp} (ha : H a = some (.tup xs))
    (q : ∀ p H', Same H H' → (p = a ∨ H p = none) → H' p = some (.tup (cutV xs lo hi)) → Q (.ref p) H') : rSlA K (.ref a) lo hi H Q :=
  ⟨a, xs, rfl, .inl (.inl ha), fun ⟨e1, e2⟩ => q a H (Same.refl H) (.inl rfl) (by unfold cutV; rw [e1, e2, List.drop_zero, Nat.sub_zero, List.take_length]; exact ha), fun _ p np => q p _ (Same.new np) (.inr np) upd_same⟩
theorem cutV1 (xs : List V) (k : Nat) : cutV xs (some ((k : Int) + 1)) none = xs.drop (k + 1) := by
  show cutV xs (some (((k + 1 : Nat)) : Int)) none = _
  unfold cutV
  rw [HT.sIx_nat, HT.sIx_none]
  by_cases h : k + 1 ≤ xs.length
  · rw [Nat.min_eq_left h, List.take_of_length_le (by rw [List.length_drop]; exact Nat.le_refl _)]
  · rw [Nat.min_eq_right (by omega), Nat.sub_self, List.take_zero, List.drop_eq_nil_of_le (by omega)]
theorem rd_same {M : List Addr} {H H' : Hp} {v : V} {d : PyData} (h : sDat.at M H v d) (s : Same H H') : sDat.at M H' v d := Sh.go h (Stp.of_same (m := []) s) Sb.nil Sb.refl
theorem catA_rd {K : PySem.W.Frag} {Q : VK} {M : List Addr} {H : Hp} {a c : Addr} {ds es : List PyData} (ha : sDat.at M H (.ref a) (.tuple ds)) (hc : sDat.at M H (.ref c) (.tuple es)) (al : Alv M H) (nz : ds.length + es.length ≤ 1000) (q : ∀ p H', Same H H' → sDat.at M H' (.ref p) (.tuple (ds ++ es)) → Q (.ref p) H') : rCatA K (.ref a) (.ref c) H Q := by
  obtain ⟨_, xs, e1, na, hA, rA⟩ := rd_inv_t ha
  obtain ⟨_, ys, e2, nc, hC, rC⟩ := rd_inv_t hc
  cases e1; cases e2
  refine ⟨a, c, xs, ys, rfl, rfl, .inl (.inl hA), .inl (.inl hC), by rw [rA.len, rC.len, sizeLine_eq]; omega, fun e => ?_, fun _ e => ?_, fun _ _ p np => q p _ (Same.new np) (rd_new_t al np (rA.app rC))⟩
  · subst e
    cases rA
    exact q c H (Same.refl H) hc
  · subst e
    cases rC
    exact q a H (Same.refl H) (by rw [List.append_nil]; exact ha)
theorem slA_rd {K : PySem.W.Frag} {Q : VK} {M : List Addr} {H : Hp} {a : Addr} {ds es : List PyData} {lo hi : Option Int} (ha : sDat.at M H (.ref a) (.tuple ds)) (al : Alv M H) (hc : ∀ vs, vs.length = ds.length → RDs (fun a => a ∉ M) H vs ds → RDs (fun a => a ∉ M) H (cutV vs lo hi) es) (q : ∀ p H', Same H H' → sDat.at M H' (.ref p) (.tuple es) → Q (.ref p) H') : rSlA K (.ref a) lo hi H Q := by
  obtain ⟨_, xs, e1, na, hA, rA⟩ := rd_inv_t ha
  cases e1
  have rc := hc xs rA.len rA
  refine ⟨a, xs, rfl, .inl (.inl hA), fun ⟨e1, e2⟩ => q a H (Same.refl H) ?_, fun _ p np => q p _ (Same.new np) (rd_new_t al np rc)⟩
  have e : cutV xs lo hi = xs := by unfold cutV; rw [e1, e2, List.drop_zero, Nat.sub_zero, List.take_length]
  rw [e] at rc
  exact RD.tup na hA rc
theorem rds_names {W : Addr → Prop} {H : Hp} : ∀ R : List Row, RDs W H (R.map fun r => V.str r.1) (R.map fun r => PyData.str r.1)
  | [] => .nil
  | r :: R => .cons (.str _) (rds_names R)
/-- what is like a row of values -/
def RowD (z : PyData) : Prop := kindD z ≠ "tuple" ∨ ∃ es, z = .tuple es ∧ ∀ e ∈ es, (∃ i, e = .int i) ∨ ∃ b, e = .bool b
theorem name_or {R : List Row} (d : PyData) : noEvD R d ∨ ∃ r, r ∈ R ∧ d = .str r.1 := by
  by_cases k : kindD d = "str"
  · obtain ⟨s, rfl⟩ := kd_str k
    by_cases h : s ∈ R.map (·.1)
    · obtain ⟨r, hr, e⟩ := List.mem_map.mp h
      exact .inr ⟨r, hr, by rw [e]⟩
    · exact .inl (.inl ⟨s, rfl, h⟩)
  · exact .inl (.inr k)
theorem valD_ints : ∀ {es : List PyData} {zs : List Int}, (∀ e ∈ es, (∃ i, e = .int i) ∨ ∃ b, e = .bool b) → valsB (es.map valD) zs = true → ∃ ns : List Int, es = ns.map PyData.int ∧ es.map valD = ns.map V.int := fun {es zs} h hv => by
  obtain ⟨ns, e1, e2⟩ := valsB_ints hv
  refine ⟨ns, ?_, e1⟩
  clear hv e2
  induction es generalizing ns with
  | nil =>
    cases ns with
    | nil => rfl
    | cons n ns => cases e1
  | cons e es ih =>
    cases ns with
    | nil => cases e1
    | cons n ns =>
      rw [List.map_cons, List.map_cons] at e1
      obtain ⟨e2, e3⟩ := List.cons.inj e1
      rw [List.map_cons, ← ih (fun x hx => h x (List.mem_cons_of_mem _ hx)) ns e3]
      rcases h e List.mem_cons_self with ⟨i, rfl⟩ | ⟨b, rfl⟩
      · cases e2; rfl
      · cases e2
theorem shw3_any {L : List (Str × Int)} {R : List Row} (x y : PyData) {z : PyData} (hz : RowD z) : ∃ B, Shw3 L R x y z B := by
  rcases name_or (R := R) x with n | ⟨r, hr, rfl⟩
  · exact ⟨false, .inl ⟨n, rfl⟩⟩
  rcases name_or (R := R) y with n | ⟨w, hw, rfl⟩
  · exact ⟨false, .inr ⟨r, hr, rfl, .inl ⟨n, rfl⟩⟩⟩
  rcases hz with k | ⟨es, rfl, he⟩
  · exact ⟨false, .inr ⟨r, hr, rfl, .inr ⟨w, hw, rfl, .inl ⟨.inl k, rfl⟩⟩⟩⟩
  cases hv : valsB (es.map valD) (L.map (·.2)) with
  | false => exact ⟨false, .inr ⟨r, hr, rfl, .inr ⟨w, hw, rfl, .inl ⟨.inr ⟨es, rfl, he, hv⟩, rfl⟩⟩⟩⟩
  | true =>
    obtain ⟨ns, rfl, e2⟩ := valD_ints he hv
    rw [e2] at hv
    exact ⟨_, .inr ⟨r, hr, rfl, .inr ⟨w, hw, rfl, .inr ⟨ns, rfl, hv, rfl⟩⟩⟩⟩
def FOk (L : List (Str × Int)) (R : List Row) (d : PyData) : Prop := OkD 60000 3 d ∧ ∃ B, ShwD L R d B
def RowO (z : PyData) : Prop := OkD 6000 1 z ∧ RowD z
theorem f_three {L : List (Str × Int)} {R : List Row} {x y z : PyData} (hx : OkD 600 1 x) (hy : OkD 600 1 y) (hz : RowO z) : FOk L R (.tuple [x, y, z]) := by
  obtain ⟨B, h⟩ := shw3_any (L := L) (R := R) x y hz.2
  exact ⟨(okd_tuple (B := 6000) (k := 1) (m := 3) (allC (hx.mono (by decide) (Nat.le_refl _)) (allC (hy.mono (by decide) (Nat.le_refl _)) (all1 hz.1))) (Nat.le_refl _)).mono (by decide) (by decide), B, .inr (.inr ⟨x, y, z, rfl, h⟩)⟩
theorem f_kind {L : List (Str × Int)} {R : List Row} {d : PyData} (h : OkD 60000 3 d) (k : kindD d ≠ "tuple") : FOk L R d := ⟨h, false, .inl ⟨k, rfl⟩⟩
theorem f_len {L : List (Str × Int)} {R : List Row} {ds : List PyData} (h : OkD 60000 3 (.tuple ds)) (n : ds.length ≠ 3) (l : ds.length < 1000) : FOk L R (.tuple ds) := ⟨h, false, .inr (.inl ⟨ds, rfl, n, l, rfl⟩)⟩
def SmI (e : PyData) : Prop := (∃ i : Int, e = .int i ∧ 0 ≤ i ∧ i < 100000) ∨ ∃ b, e = .bool b
theorem SmI.okd {e : PyData} (h : SmI e) : OkD 501 0 e := by
  rcases h with ⟨i, rfl, h0, h1⟩ | ⟨b, rfl⟩
  · exact okd_int (Nat.lt_of_lt_of_le (show i.natAbs < 10 ^ 6 by omega) (by decide +kernel))
  · exact (okd_bool b).mono (by decide) (by decide)
theorem row_o {es : List PyData} (l : es.length ≤ 10) (h : ∀ e ∈ es, SmI e) : RowO (.tuple es) :=
  ⟨(okd_tuple (B := 501) (k := 0) (m := 10) (fun d hd => (h d hd).okd) l).mono (by decide) (by decide), .inr ⟨es, rfl, fun e he => (h e he).imp (fun ⟨i, e, _⟩ => ⟨i, e⟩) id⟩⟩
theorem row_l {es : List PyData} (l : es.length ≤ 10) (h : ∀ e ∈ es, SmI e) : RowO (.list es) :=
  ⟨(okd_list (B := 501) (k := 0) (m := 10) (fun d hd => (h d hd).okd) l).mono (by decide) (by decide), .inl (by show "list" ≠ "tuple"; decide)⟩
theorem row_n : RowO .none := ⟨okd_none.mono (by decide) (by decide), .inl (by show "NoneType" ≠ "tuple"; decide)⟩
structure Frg (M : List Addr) (b : Addr) (H : Hp) (vx vy : V) (dx dy : PyData) (az : Addr) (ns : List Int) (ab : Addr) (G : Hp) (m : Nat) : Prop where
  st : Stp [b] H G
  bag : Bag G b m
  al : Alv M G
  hx : sDat.at M G vx dx
  hy : sDat.at M G vy dy
  hz : sDat.at M G (.ref az) (tupD ns)
  rz : G az = some (.tup (ns.map V.int))
  hb : sDat.at M G (.ref ab) (.tuple [dx, dy, tupD ns])
  rb : G ab = some (.tup [vx, vy, .ref az])
theorem Frg.same {M : List Addr} {b : Addr} {H G G' : Hp} {vx vy : V} {dx dy : PyData} {az ab : Addr} {ns : List Int} {m : Nat} (h : Frg M b H vx vy dx dy az ns ab G m) (s : Same G G') : Frg M b H vx vy dx dy az ns ab G' m :=
  ⟨h.st.trans (Stp.of_same s), Bag.stp h.bag (Stp.of_same (m := []) s) (by simp), h.al.go (Stp.of_same (m := []) s), rd_same h.hx s, rd_same h.hy s, rd_same h.hz s, s _ _ h.rz, rd_same h.hb s, s _ _ h.rb⟩
theorem off_b {M : List Addr} {b a : Addr} {G : Hp} {ds : List PyData} (hb : b ∈ M) (h : sDat.at M G (.ref a) (.tuple ds)) : a ∉ [b] := fun e => by
  obtain ⟨_, _, e1, n, _⟩ := rd_inv_t h
  cases e1
  rw [List.mem_singleton.mp e] at n
  exact n hb
theorem Frg.step {M : List Addr} {b : Addr} {H G G' : Hp} {vx vy : V} {dx dy : PyData} {az ab : Addr} {ns : List Int} {m m' : Nat} (h : Frg M b H vx vy dx dy az ns ab G m) (hb : b ∈ M) (s : Stp [b] G G') (bg : Bag G' b m') : Frg M b H vx vy dx dy az ns ab G' m' :=
  ⟨h.st.trans s, bg, h.al.go s, Sh.go h.hx s (Sb.one hb) Sb.refl, Sh.go h.hy s (Sb.one hb) Sb.refl, Sh.go h.hz s (Sb.one hb) Sb.refl, s.at h.rz (off_b hb h.hz), Sh.go h.hb s (Sb.one hb) Sb.refl, s.at h.rb (off_b hb h.hb)⟩
def sp_lforged (K : PySem.W.Frag) : Sp := fun vs H Q _ => ∃ (M : List Addr) (b : Addr) (n : Nat) (z y f : V) (L : List (Str × Int)) (R : List Row) (o : Option (Str × Str × List Int)), vs = [.ref b, z, y, f] ∧ b ∈ M ∧ Alv M H ∧ Bag H b n ∧ n + 10 ≤ 1000000 ∧ (sL sVar).at M H z L ∧ (sL sRow).at M H y R ∧ VarsOk L ∧ EvsOk L R ∧
  (sO (s3 sStr sStr (sT sInt))).at M H f o ∧ (∀ x y ns, o = some (x, y, ns) → NameOk x ∧ NameOk y ∧ ns.length = L.length ∧ ∀ i ∈ ns, 0 ≤ i ∧ i < 100000) ∧
  ∀ (w : V) (ds : List PyData) H', Stp [b] H H' → Bag H' b (n + 4) → sDat.at M H' w (.list ds) → ds.length ≤ 40 → (∀ d ∈ ds, FOk L R d) → Q w H'
theorem ok_l_forged {P : Program} {w : World} {K : PySem.W.Frag} {mg : Str → Option Value} {base : Heap} (T : Txt P K mg) : FnOk P w K mg base CX0 2 T.f_l_forged T.fd_l_forged ["_law_bag_here", "_law_sizes", "_law_rows", "_law_found"] (sp_lforged K) := by
  refine T.F_l_forged.ok sc_l_forged (fun vs H Q E h => ?_) (fun cdv A outer s H vs Q E hr h => ?_)
  · obtain ⟨_, _, _, _, _, _, _, _, _, rfl, _⟩ := h; rfl
  · obtain ⟨M, b, n, z, y, f, L, R, oo, rfl, hb, al, hB, hn, hz, hy, okL, okR, hf, okf, q⟩ := h
    obtain ⟨za, zs, rfl, naz, hZ, pZ⟩ := hz
    obtain ⟨ya, ys, rfl, nay, hY, pY⟩ := hy
    have lY := plen pY
    have lZ := plen pZ
    have r8 := okR.few
    have l8 := okL.few
    have l1 := okL.pos
    refine ⟨_, PSs.nox (Evl.pss_cut (ps_set (i := 5) sc_l_forged.nd rfl (Or.inl rfl) (pe_op op_cat (pe_lc (own := [("_law_row", 4)]) (g := gName 4) rfl sc_l_forged.nd (pi_list (pv 2)) (blkOk_by (own := [("_law_row", 4)]) (N := N_l_forged) (sc := defScope s_l_forged) (by decide +kernel)) (fun _ _ _ _ _ => (pg_name (i := 4) sc_l_forged.nd rfl (Or.inl rfl))) (fun _ _ _ _ _ => pts_nil) (fun _ _ _ _ _ => (pe_ix (show IxR _ (rIxT K) from ix_tup) (pv 4) pe_int (fun _ _ => rfl)))) (pe_lst (pa_cons (pe_ix (show IxR _ (rIxT K) from ix_tup) (pe_ix (show IxR _ (rIxL K) from ix_list) (pv 1) pe_int (fun _ _ => rfl)) pe_int (fun _ _ => rfl)) (pa_cons pe_str (pa_cons pe_non (pa_cons pe_int pa_nil)))))))
      (Evl.pss_cut (ps_set (i := 6) sc_l_forged.nd rfl (Or.inl rfl) (pe_tup (pa_cons (pe_ix (show IxR _ (rIxL K) from ix_list) (pv 5) pe_int (fun _ _ => rfl)) (pa_cons (pe_ix (show IxR _ (rIxL K) from ix_list) (pv 5) (pe_call (ok_l_take T) (hr.mono (by decide)) (by rfl) T.g_l_take T.F_l_take.kp (b_l_take T) .nil pass0 (pa_cons (pv 0) (pa_cons (pe_callB (show CallR _ _ (rLenSeq K) from call_len_seq) (by rfl) T.n_len (by decide +kernel) (pa_cons (pv 5) pa_nil)) pa_nil))) (fun _ _ => rfl)) (pa_cons (pe_callTy (show CallR _ _ (rTupOf K) from call_tuple_of) (by rfl) T.n_tuple (by decide +kernel) (pa_cons (pe_op op_rep (pe_lst (pa_cons pe_int pa_nil)) (pe_callB (show CallR _ _ (rLenSeq K) from call_len_seq) (by rfl) T.n_len (by decide +kernel) (pa_cons (pv 1) pa_nil))) pa_nil)) pa_nil)))))
      (Evl.pss_cut (ps_if (pt_cmpR op_notN (pv 3) pe_non (nomark _)) (pss_one (ps_set (i := 6) sc_l_forged.nd rfl (Or.inl rfl) (pv 3))) pss_nil)
      (Evl.pss_cut (ps_asg (pv 6) (pg_tup rfl (pgs_cons (pg_name (i := 7) sc_l_forged.nd rfl (Or.inl rfl)) (pgs_cons (pg_name (i := 8) sc_l_forged.nd rfl (Or.inl rfl)) (pgs_cons (pg_name (i := 4) sc_l_forged.nd rfl (Or.inl rfl)) pgs_nil)))))
      (Evl.pss_cut (ps_set (i := 9) sc_l_forged.nd rfl (Or.inl rfl) (pe_call (ok_l_take T) (hr.mono (by decide)) (by rfl) T.g_l_take T.F_l_take.kp (b_l_take T) .nil pass0 (pa_cons (pv 0) (pa_cons (pe_callB (show CallR _ _ (rLenSeq K) from call_len_seq) (by rfl) T.n_len (by decide +kernel) (pa_cons (pv 4) pa_nil)) pa_nil))))
      (Evl.pss_cut (ps_set (i := 10) sc_l_forged.nd rfl (Or.inl rfl) (pe_ix (show IxR _ (rIxL K) from ix_list) (pv 5) (pe_call (ok_l_take T) (hr.mono (by decide)) (by rfl) T.g_l_take T.F_l_take.kp (b_l_take T) .nil pass0 (pa_cons (pv 0) (pa_cons (pe_callB (show CallR _ _ (rLenSeq K) from call_len_seq) (by rfl) T.n_len (by decide +kernel) (pa_cons (pv 5) pa_nil)) pa_nil))) (fun _ _ => rfl)))
      (Evl.pss_cut (ps_set (i := 11) sc_l_forged.nd rfl (Or.inl rfl) (pe_lst (pa_cons (pv 6) (pa_cons (pe_tup (pa_cons (pv 8) (pa_cons (pv 7) (pa_cons (pv 4) pa_nil)))) (pa_cons (pe_tup (pa_cons (pv 7) (pa_cons (pv 8) (pa_cons (pe_callTy (show CallR _ _ (rListOf K) from call_list_of) (by rfl) T.n_list (by decide +kernel) (pa_cons (pv 4) pa_nil)) pa_nil)))) (pa_cons (pe_lst (pa_cons (pv 7) (pa_cons (pv 8) (pa_cons (pv 4) pa_nil)))) (pa_cons (pe_tup (pa_cons (pv 7) (pa_cons (pv 8) pa_nil))) (pa_cons (pe_op (show OpR _ _ (rCatA K) from op_catA) (pv 6) (pe_tup (pa_cons pe_int pa_nil))) pa_nil))))))))
      (Evl.pss_cut (ps_set (i := 11) sc_l_forged.nd rfl (Or.inl rfl) (pe_op op_cat (pv 11) (pe_lst (pa_cons (pe_tup (pa_cons (pv 10) (pa_cons (pv 8) (pa_cons (pv 4) pa_nil)))) (pa_cons (pe_tup (pa_cons (pv 7) (pa_cons (pv 10) (pa_cons (pv 4) pa_nil)))) (pa_cons (pe_tup (pa_cons (pv 7) (pa_cons (pv 7) (pa_cons (pv 4) pa_nil)))) (pa_cons (pe_tup (pa_cons (pv 7) (pa_cons (pv 8) (pa_cons (pe_slice (show SlR _ (rSlA K) from sl_tupA) (pv 4) po_none (po_some (pe_un un_neg pe_int))) pa_nil)))) (pa_cons pe_non (pa_cons pe_dnewK (pa_cons pe_int pa_nil))))))))))
      (Evl.pss_cut (ps_set (i := 11) sc_l_forged.nd rfl (Or.inl rfl) (pe_op op_cat (pv 11) (pe_lst (pa_cons (pe_tup (pa_cons (pv 7) (pa_cons (pv 8) (pa_cons (pe_op (show OpR _ _ (rCatA K) from op_catA) (pe_op (show OpR _ _ (rCatA K) from op_catA) (pe_slice (show SlR _ (rSlA K) from sl_tupA) (pv 4) po_none (po_some (pv 9))) (pe_tup (pa_cons (pe_call (ok_l_take T) (hr.mono (by decide)) (by rfl) T.g_l_take T.F_l_take.kp (b_l_take T) .nil pass0 (pa_cons (pv 0) (pa_cons pe_int pa_nil))) pa_nil))) (pe_slice (show SlR _ (rSlA K) from sl_tupA) (pv 4) (po_some (pe_op op_add (pv 9) pe_int)) po_none)) pa_nil)))) (pa_cons (pe_tup (pa_cons (pv 7) (pa_cons (pv 8) (pa_cons (pe_op (show OpR _ _ (rCatA K) from op_catA) (pv 4) (pe_tup (pa_cons pe_int pa_nil))) pa_nil)))) pa_nil)))))
      (Evl.pss_cut (ps_set (i := 11) sc_l_forged.nd rfl (Or.inl rfl) (pe_op op_cat (pv 11) (pe_lst (pa_cons (pe_tup (pa_cons (pv 7) (pa_cons (pe_lst pa_nil) (pa_cons (pv 4) pa_nil)))) (pa_cons (pe_tup (pa_cons (pe_lst pa_nil) (pa_cons (pv 8) (pa_cons (pv 4) pa_nil)))) (pa_cons (pe_tup (pa_cons pe_dnewK (pa_cons (pv 8) (pa_cons (pv 4) pa_nil)))) (pa_cons (pe_tup (pa_cons (pv 7) (pa_cons pe_dnewK (pa_cons (pv 4) pa_nil)))) (pa_cons (pe_tup (pa_cons (pe_tup pa_nil) (pa_cons (pv 7) (pa_cons (pv 4) pa_nil)))) pa_nil))))))))
      (pss_one (ps_ret (pe_op op_cat (pv 11) (pe_lst (pa_cons (pe_tup (pa_cons (pv 7) (pa_cons (pv 8) (pa_cons (pe_op (show OpR _ _ (rCatA K) from op_catA) (pe_op (show OpR _ _ (rCatA K) from op_catA) (pe_slice (show SlR _ (rSlA K) from sl_tupA) (pv 4) po_none (po_some (pv 9))) (pe_tup (pa_cons (pe_cmpR op_eq (pe_ix (show IxR _ (rIxT K) from ix_tup) (pv 4) (pv 9) (fun _ _ => rfl)) pe_int (nomark _)) pa_nil))) (pe_slice (show SlR _ (rSlA K) from sl_tupA) (pv 4) (po_some (pe_op op_add (pv 9) pe_int)) po_none)) pa_nil)))) (pa_cons (pe_tup (pa_cons pe_non (pa_cons (pe_lst pa_nil) (pa_cons (pv 4) pa_nil)))) (pa_cons (pe_tup (pa_cons (pv 7) (pa_cons (pv 8) (pa_cons pe_non pa_nil)))) pa_nil))))))))))))))))), ?_⟩
    rw [show L2.start N_l_forged [V.ref b, V.ref za, V.ref ya, f] = [some (.ref b), some (.ref za), some (.ref ya), some f, none, none, none, none, none, none, none, none] from rfl]
    refine ⟨fun σ G => ∃ (a5 : Addr) (ts : List PyData), σ = [some (.ref b), some (.ref za), some (.ref ya), some f, none, some (.ref a5), none, none, none, none, none, none] ∧ Same H G ∧ sDat.at M G (.ref a5) (.list ts) ∧ ts.length = R.length + 4 ∧ ∀ t ∈ ts, OkD 600 1 t, ?_, ?_⟩
    --[[
    · repeat (first | refine ⟨_, rfl, ?_⟩ | refine ⟨_, _, rfl, rfl, ?_⟩ | refine ⟨_, _, rfl, ?_⟩ | refine ⟨rfl, ?_⟩)
      refine ⟨⟨_, SqL.of hY⟩, fun D nD => ?_⟩
      refine lc_it (walk_list (K := K) (a := ya) (xs := ys)) (fun i H' => H' D = some (.lst ((R.take i).map fun r => V.str r.1)) ∧ Same H H') ⟨upd_same, Same.new nD⟩ (fun i H' _ h => SqL.of (h.2 _ _ hY)) ?_ ?_
      · rintro i x Hx G hi ⟨k1, k2⟩ ⟨rfl, hx⟩
        obtain ⟨r, hr1, tr, _, _, _, rfl, -, htr, rfl, -⟩ := pget' pY hx
        refine ⟨wipe_in (by decide), ?_⟩
        repeat (first | refine ⟨_, rfl, ?_⟩ | refine ⟨_, _, rfl, rfl, ?_⟩ | refine ⟨_, _, rfl, ?_⟩ | refine ⟨rfl, ?_⟩)
        refine ⟨tr, _, (0 : Int), _, rfl, rfl, .inl (.inl (k2 _ _ htr)), atI_nat (j := 0) rfl, ?_⟩
        refine ⟨_, k1, by rw [List.length_map, List.length_take, sizeLine_eq]; omega, ?_, Same.upd_p k2 nD⟩
        rw [upd_same, take_map_snoc _ hr1]
      rintro G ⟨k1, k2⟩
      rw [lY, List.take_length] at k1
      repeat (first | refine ⟨_, rfl, ?_⟩ | refine ⟨_, _, rfl, rfl, ?_⟩ | refine ⟨_, _, rfl, ?_⟩ | refine ⟨rfl, ?_⟩)
      obtain ⟨q0, hq0⟩ : ∃ q0, L[0]? = some q0 := ⟨_, List.getElem?_eq_getElem (by omega)⟩
      obtain ⟨x0, hx0, hm0⟩ := pget pZ hq0
      obtain ⟨t0, _, _, rfl, -, ht0, rfl, rfl⟩ := hm0
      refine ⟨za, _, (0 : Int), _, rfl, rfl, SqL.of (k2 _ _ hZ), atI_nat (j := 0) hx0, ?_⟩
      repeat (first | refine ⟨_, rfl, ?_⟩ | refine ⟨_, _, rfl, rfl, ?_⟩ | refine ⟨_, _, rfl, ?_⟩ | refine ⟨rfl, ?_⟩)
      refine ⟨t0, _, (0 : Int), _, rfl, rfl, .inl (.inl (k2 _ _ ht0)), atI_nat (j := 0) rfl, ?_⟩
      repeat (first | refine ⟨_, rfl, ?_⟩ | refine ⟨_, _, rfl, rfl, ?_⟩ | refine ⟨_, _, rfl, ?_⟩ | refine ⟨rfl, ?_⟩)
      refine ⟨lenk 4 rfl (by decide), fun l nl => ?_⟩
      have sl : Same G (upd G l (.lst [.str q0.1, .str (Str.ofString ""), .non, .int 0])) := Same.new nl
      have hl : upd G l (.lst [.str q0.1, .str (Str.ofString ""), .non, .int 0]) l = some (.lst [.str q0.1, .str (Str.ofString ""), .non, .int 0]) := upd_same
      generalize upd G l (.lst [.str q0.1, .str (Str.ofString ""), .non, .int 0]) = G2 at sl hl
      repeat (first | refine ⟨_, rfl, ?_⟩ | refine ⟨_, _, rfl, rfl, ?_⟩ | refine ⟨_, _, rfl, ?_⟩ | refine ⟨rfl, ?_⟩)
      refine ⟨D, l, _, _, rfl, rfl, sl _ _ k1, hl, ?_, fun p np => ?_⟩
      · rw [List.length_map, sizeLine_eq]; show R.length + 4 ≤ _; omega
      repeat (first | refine ⟨_, rfl, ?_⟩ | refine ⟨_, _, rfl, rfl, ?_⟩ | refine ⟨_, _, rfl, ?_⟩ | refine ⟨rfl, ?_⟩)
      have s3 := k2.trans (sl.trans (Same.new (o := .lst ((R.map fun r => V.str r.1) ++ [.str q0.1, .str (Str.ofString ""), .non, .int 0])) np))
      refine ⟨p, (R.map fun r => PyData.str r.1) ++ ([.str q0.1, .str (Str.ofString ""), .none, .int 0] : List PyData), rfl, s3, RD.lst ((al.go (Stp.of_same (m := []) (k2.trans sl))).off np) upd_same ?_, by rw [List.length_append, List.length_map]; rfl, fun t ht => ?_⟩
      · exact RDs.app (rds_names R) (.cons (.str _) (.cons (.str _) (.cons .non (.cons (.int 0) .nil))))
      · rcases List.mem_append.mp ht with ht | ht
        · obtain ⟨r, hr', rfl⟩ := List.mem_map.mp ht
          exact (okd_name (okR.ok r hr').nm).mono (by decide) (by decide)
        · rcases List.mem_cons.mp ht with rfl | ht
          · exact (okd_name (okL.nm q0 (List.mem_of_getElem? hq0))).mono (by decide) (by decide)
          rcases List.mem_cons.mp ht with rfl | ht
          · exact (okd_str (n := 0) (x := Str.ofString "") (fun c hc => by cases hc) (by decide)).mono (by decide) (by decide)
          rcases List.mem_cons.mp ht with rfl | ht
          · exact okd_none.mono (by decide) (by decide)
          · rw [List.mem_singleton.mp ht]
            exact (okd_int (i := 0) (by decide +kernel)).mono (by decide) (by decide)
    --]]
    rintro σ G ⟨a5, ts, rfl, s1, hT, lT, okT⟩
    refine ⟨fun σ G => ∃ (vx vy : V) (dx dy : PyData) (az ab : Addr) (ns : List Int), σ = [some (.ref b), some (.ref za), some (.ref ya), some f, none, some (.ref a5), some (.ref ab), none, none, none, none, none] ∧ Frg M b H vx vy dx dy az ns ab G (n + 1) ∧ sDat.at M G (.ref a5) (.list ts) ∧ OkD 600 1 dx ∧ OkD 600 1 dy ∧ ns.length = L.length ∧ (∀ i ∈ ns, 0 ≤ i ∧ i < 100000), ?_, ?_⟩
    --[[
    · repeat (first | refine ⟨_, rfl, ?_⟩ | refine ⟨_, _, rfl, rfl, ?_⟩ | refine ⟨_, _, rfl, ?_⟩ | refine ⟨rfl, ?_⟩)
      obtain ⟨_, vs5, e5, n5, h5, r5⟩ := rd_inv_l hT
      cases e5
      obtain ⟨vx, dx, hvx, hdx, rx⟩ := rd_pick r5 (i := 0) (by omega) (by omega)
      refine ⟨a5, vs5, (0 : Int), vx, rfl, rfl, SqL.of h5, hvx, ?_⟩
      repeat (first | refine ⟨_, rfl, ?_⟩ | refine ⟨_, _, rfl, rfl, ?_⟩ | refine ⟨_, _, rfl, ?_⟩ | refine ⟨rfl, ?_⟩)
      refine ⟨a5, vs5, rfl, .inl (SqL.of h5), ?_⟩
      repeat (first | refine ⟨_, rfl, ?_⟩ | refine ⟨_, _, rfl, rfl, ?_⟩ | refine ⟨_, _, rfl, ?_⟩ | refine ⟨rfl, ?_⟩)
      have l5 := r5.len
      have hB1 : Bag G b n := Bag.stp hB (Stp.of_same (m := []) s1) (by simp)
      refine ⟨b, n, _, rfl, hB1, by omega, by omega, by omega, fun i1 G1 f1 b1 x0 x1 => ?_⟩
      have st1 : Stp [b] H G1 := Stp.trans (Stp.of_same s1) (f1.stp b1.some)
      have al1 : Alv M G1 := al.go st1
      have hT1 := Sh.go hT (f1.stp b1.some) (Sb.one hb) Sb.refl
      obtain ⟨_, vs5', e5, n5', h5', r5'⟩ := rd_inv_l hT1
      cases e5
      obtain rfl : vs5' = vs5 := by
        have := (f1.stp b1.some).at h5 (fun e => n5 (by rw [List.mem_singleton.mp e]; exact hb))
        rw [this] at h5'; cases h5'; rfl
      obtain ⟨vy, dy, hvy, hdy, ry⟩ := rd_pick r5' (i := i1) x0 (by omega)
      have rx1 : sDat.at M G1 vx dx := Sh.go (s := sDat) rx (f1.stp b1.some) (Sb.one hb) Sb.refl
      replace ry : sDat.at M G1 vy dy := ry
      refine ⟨a5, vs5', i1, vy, rfl, rfl, SqL.of h5', hvy, ?_⟩
      repeat (first | refine ⟨_, rfl, ?_⟩ | refine ⟨_, _, rfl, rfl, ?_⟩ | refine ⟨_, _, rfl, ?_⟩ | refine ⟨rfl, ?_⟩)
      refine ⟨lenk 1 rfl (by decide), fun e1 ne1 => ?_⟩
      have se1 : Same G1 (upd G1 e1 (.lst [.int 0])) := Same.new ne1
      have he1 : upd G1 e1 (.lst [.int 0]) e1 = some (.lst [.int 0]) := upd_same
      generalize upd G1 e1 (.lst [.int 0]) = G2 at se1 he1
      have nzb : za ∉ [b] := fun e => naz (by rw [List.mem_singleton.mp e]; exact hb)
      have hZ1 := st1.at hZ nzb
      repeat (first | refine ⟨_, rfl, ?_⟩ | refine ⟨_, _, rfl, rfl, ?_⟩ | refine ⟨_, _, rfl, ?_⟩ | refine ⟨rfl, ?_⟩)
      refine ⟨za, zs, rfl, .inl (SqL.of (se1 _ _ hZ1)), ?_⟩
      repeat (first | refine ⟨_, rfl, ?_⟩ | refine ⟨_, _, rfl, rfl, ?_⟩ | refine ⟨_, _, rfl, ?_⟩ | refine ⟨rfl, ?_⟩)
      refine ⟨e1, _, _, rfl, rfl, he1, by omega, by omega, ?_, fun e2 ne2 => ?_⟩
      · rw [sizeLine_eq]; show 1 * Int.toNat (zs.length : Int) ≤ _; rw [Int.toNat_natCast]; omega
      rw [flat_rep, Int.toNat_natCast, lZ]
      have se2 : Same G2 (upd G2 e2 (.lst (List.replicate L.length (.int 0)))) := Same.new ne2
      have he2 : upd G2 e2 (.lst (List.replicate L.length (.int 0))) e2 = some (.lst (List.replicate L.length (.int 0))) := upd_same
      generalize upd G2 e2 (.lst (List.replicate L.length (.int 0))) = G3 at se2 he2
      repeat (first | refine ⟨_, rfl, ?_⟩ | refine ⟨_, _, rfl, rfl, ?_⟩ | refine ⟨_, _, rfl, ?_⟩ | refine ⟨rfl, ?_⟩)
      refine ⟨e2, _, rfl, .inl ⟨SqL.of he2, fun az naz2 => ?_⟩⟩
      have s13 : Same G1 G3 := se1.trans se2
      have al3 : Alv M G3 := al1.go (Stp.of_same (m := []) s13)
      have er : (List.replicate L.length (V.int 0)) = (List.replicate L.length (0 : Int)).map V.int := by rw [List.map_replicate]
      rw [er]
      have hz4 : sDat.at M (upd G3 az (.tup ((List.replicate L.length (0 : Int)).map V.int))) (.ref az) (tupD (List.replicate L.length 0)) := rd_new_t al3 naz2 (RDs.ints _)
      have se4 : Same G3 (upd G3 az (.tup ((List.replicate L.length (0 : Int)).map V.int))) := Same.new naz2
      have hz5 : upd G3 az (.tup ((List.replicate L.length (0 : Int)).map V.int)) az = some (.tup ((List.replicate L.length (0 : Int)).map V.int)) := upd_same
      generalize upd G3 az (.tup ((List.replicate L.length (0 : Int)).map V.int)) = G4 at hz4 se4 hz5
      repeat (first | refine ⟨_, rfl, ?_⟩ | refine ⟨_, _, rfl, rfl, ?_⟩ | refine ⟨_, _, rfl, ?_⟩ | refine ⟨rfl, ?_⟩)
      refine ⟨lenk 3 rfl (by decide), fun ab nab => ?_⟩
      have s14 : Same G1 G4 := s13.trans se4
      have al4 : Alv M G4 := al1.go (Stp.of_same (m := []) s14)
      have rab : sDat.at M (upd G4 ab (.tup [vx, vy, .ref az])) (.ref ab) (.tuple [dx, dy, tupD (List.replicate L.length 0)]) := rd_new_t al4 nab (.cons (rd_same rx1 s14) (.cons (rd_same ry s14) (.cons hz4 .nil)))
      have s15 : Same G1 (upd G4 ab (.tup [vx, vy, .ref az])) := s14.trans (Same.new nab)
      refine ⟨vx, vy, dx, dy, az, ab, List.replicate L.length 0, rfl, ⟨st1.trans (Stp.of_same s15), Bag.stp b1 (Stp.of_same (m := []) s15) (by simp), al1.go (Stp.of_same (m := []) s15), rd_same rx1 s15, rd_same ry s15, rd_same hz4 (Same.new nab), Same.new nab _ _ hz5, rab, upd_same⟩, rd_same hT1 s15, okT _ (List.mem_of_getElem? hdx), okT _ (List.mem_of_getElem? hdy), List.length_replicate, fun i hi => ?_⟩
      rw [List.eq_of_mem_replicate hi]; omega
    --]]
    rintro σ G ⟨vx, vy, dx, dy, az, ab, ns, rfl, fr, hT, ox, oy, lns, hns⟩
    refine ⟨fun σ G => ∃ (vx vy : V) (dx dy : PyData) (az ab : Addr) (ns : List Int), σ = [some (.ref b), some (.ref za), some (.ref ya), some f, none, some (.ref a5), some (.ref ab), none, none, none, none, none] ∧ Frg M b H vx vy dx dy az ns ab G (n + 1) ∧ sDat.at M G (.ref a5) (.list ts) ∧ OkD 600 1 dx ∧ OkD 600 1 dy ∧ ns.length = L.length ∧ (∀ i ∈ ns, 0 ≤ i ∧ i < 100000), ?_, ?_⟩
    --[[
    · repeat (first | refine ⟨_, rfl, ?_⟩ | refine ⟨_, _, rfl, rfl, ?_⟩ | refine ⟨_, _, rfl, ?_⟩ | refine ⟨rfl, ?_⟩)
      have hf1 := Sh.go hf fr.st (Sb.one hb) Sb.refl
      rcases hf1 with ⟨e1, e2⟩ | ⟨⟨x, y, ns'⟩, eo, tt, _, _, _, rfl, ntt, htt, rfl, rfl, hl⟩
      · cases e2
        repeat (first | refine ⟨_, rfl, ?_⟩ | refine ⟨_, _, rfl, rfl, ?_⟩ | refine ⟨_, _, rfl, ?_⟩ | refine ⟨rfl, ?_⟩)
        exact ⟨vx, vy, dx, dy, az, ab, ns, rfl, fr, hT, ox, oy, lns, hns⟩
      · obtain ⟨ox', oy', ln', hn'⟩ := okf x y ns' eo
        obtain ⟨az', rfl, na', ha'⟩ := Sh.tints hl
        have hz' : sDat.at M G (.ref az') (tupD ns') := RD.tup na' ha' (RDs.ints _)
        repeat (first | refine ⟨_, rfl, ?_⟩ | refine ⟨_, _, rfl, rfl, ?_⟩ | refine ⟨_, _, rfl, ?_⟩ | refine ⟨rfl, ?_⟩)
        exact ⟨.str x, .str y, .str x, .str y, az', tt, ns', rfl, ⟨fr.st, fr.bag, fr.al, RD.str x, RD.str y, hz', ha', RD.tup ntt htt (.cons (.str _) (.cons (.str _) (.cons hz' .nil))), htt⟩, hT, (okd_name ox').mono (by decide) (by decide), (okd_name oy').mono (by decide) (by decide), ln', hn'⟩
    --]]
    clear fr hT
    rintro σ G ⟨vx, vy, dx, dy, az, ab, ns, rfl, fr, hT, ox, oy, lns, hns⟩
    refine ⟨fun σ G => σ = [some (.ref b), some (.ref za), some (.ref ya), some f, some (.ref az), some (.ref a5), some (.ref ab), some vx, some vy, none, none, none] ∧ Frg M b H vx vy dx dy az ns ab G (n + 1) ∧ sDat.at M G (.ref a5) (.list ts), ?_, ?_⟩
    --[[
    · repeat (first | refine ⟨_, rfl, ?_⟩ | refine ⟨_, _, rfl, rfl, ?_⟩ | refine ⟨_, _, rfl, ?_⟩ | refine ⟨rfl, ?_⟩)
      refine ⟨ab, _, rfl, .inl (.inl fr.rb), rfl, ?_⟩
      repeat (first | refine ⟨_, rfl, ?_⟩ | refine ⟨_, _, rfl, rfl, ?_⟩ | refine ⟨_, _, rfl, ?_⟩ | refine ⟨rfl, ?_⟩)
      exact ⟨fr, hT⟩
    --]]
    clear fr hT
    rintro σ G ⟨rfl, fr, hT⟩
    refine ⟨fun σ G => ∃ at' : Nat, σ = [some (.ref b), some (.ref za), some (.ref ya), some f, some (.ref az), some (.ref a5), some (.ref ab), some vx, some vy, some (.int (at' : Nat)), none, none] ∧ Frg M b H vx vy dx dy az ns ab G (n + 2) ∧ sDat.at M G (.ref a5) (.list ts) ∧ at' < ns.length, ?_, ?_⟩
    --[[
    · repeat (first | refine ⟨_, rfl, ?_⟩ | refine ⟨_, _, rfl, rfl, ?_⟩ | refine ⟨_, _, rfl, ?_⟩ | refine ⟨rfl, ?_⟩)
      refine ⟨az, _, rfl, .inr (.inl (.inl fr.rz)), ?_⟩
      repeat (first | refine ⟨_, rfl, ?_⟩ | refine ⟨_, _, rfl, rfl, ?_⟩ | refine ⟨_, _, rfl, ?_⟩ | refine ⟨rfl, ?_⟩)
      refine ⟨b, _, _, rfl, fr.bag, by omega, by rw [List.length_map]; omega, by rw [List.length_map]; omega, fun i1 G1 f1 b1 x0 x1 => ?_⟩
      rw [List.length_map] at x1
      obtain ⟨k, rfl⟩ : ∃ m : Nat, i1 = (m : Int) := ⟨i1.toNat, by omega⟩
      exact ⟨k, rfl, fr.step hb (f1.stp b1.some) b1, Sh.go hT (f1.stp b1.some) (Sb.one hb) Sb.refl, by omega⟩
    --]]
    clear fr hT
    rintro σ G ⟨at', rfl, fr, hT, lat⟩
    refine ⟨fun σ G => ∃ (vn : V) (dn : PyData), σ = [some (.ref b), some (.ref za), some (.ref ya), some f, some (.ref az), some (.ref a5), some (.ref ab), some vx, some vy, some (.int (at' : Nat)), some vn, none] ∧ Frg M b H vx vy dx dy az ns ab G (n + 3) ∧ sDat.at M G vn dn ∧ OkD 600 1 dn, ?_, ?_⟩
    --[[
    · repeat (first | refine ⟨_, rfl, ?_⟩ | refine ⟨_, _, rfl, rfl, ?_⟩ | refine ⟨_, _, rfl, ?_⟩ | refine ⟨rfl, ?_⟩)
      obtain ⟨_, vs5, e5, n5, h5, r5⟩ := rd_inv_l hT
      cases e5
      have l5 := r5.len
      refine ⟨a5, vs5, rfl, .inl (SqL.of h5), ?_⟩
      repeat (first | refine ⟨_, rfl, ?_⟩ | refine ⟨_, _, rfl, rfl, ?_⟩ | refine ⟨_, _, rfl, ?_⟩ | refine ⟨rfl, ?_⟩)
      refine ⟨b, _, _, rfl, fr.bag, by omega, by omega, by omega, fun i1 G1 f1 b1 x0 x1 => ?_⟩
      have hT1 := Sh.go hT (f1.stp b1.some) (Sb.one hb) Sb.refl
      obtain ⟨_, vs6, e5, n5', h5', r5'⟩ := rd_inv_l hT1
      cases e5
      obtain ⟨vn, dn, hvn, hdn, rn⟩ := rd_pick r5' (i := i1) x0 (by omega)
      refine ⟨a5, vs6, i1, vn, rfl, rfl, SqL.of h5', hvn, ?_⟩
      repeat (first | refine ⟨_, rfl, ?_⟩ | refine ⟨_, _, rfl, rfl, ?_⟩ | refine ⟨_, _, rfl, ?_⟩ | refine ⟨rfl, ?_⟩)
      exact ⟨vn, dn, rfl, fr.step hb (f1.stp b1.some) b1, rn, okT _ (List.mem_of_getElem? hdn)⟩
    --]]
    clear fr hT
    rintro σ G ⟨vn, dn, rfl, fr, hn', on⟩
    have hsm : ∀ e ∈ ns.map PyData.int, SmI e := fun e he => by
      obtain ⟨i, hi, rfl⟩ := List.mem_map.mp he
      exact .inl ⟨i, rfl, hns i hi⟩
    have rowz : RowO (tupD ns) := row_o (by rw [List.length_map]; omega) hsm
    have rowl : RowO (.list (ns.map PyData.int)) := row_l (by rw [List.length_map]; omega) hsm
    have o0 : OkD 600 1 (.int 0) := (okd_int (i := 0) (by decide +kernel)).mono (by decide) (by decide)
    have oN : OkD 600 1 PyData.none := okd_none.mono (by decide) (by decide)
    have oL : OkD 600 1 (.list []) := (okd_list (B := 0) (k := 0) (m := 0) all0 (Nat.le_refl _)).mono (by decide) (by decide)
    have oT : OkD 600 1 (.tuple []) := (okd_tuple (B := 0) (k := 0) (m := 0) all0 (Nat.le_refl _)).mono (by decide) (by decide)
    have oD : OkD 600 1 (.dict []) := ⟨rfl, by decide, by decide⟩
    have big : ∀ {x : PyData}, OkD 600 1 x → OkD 6000 1 x := fun h => h.mono (by decide) (Nat.le_refl _)
    refine ⟨fun σ G => ∃ (aS : Addr) (ds : List PyData), σ = [some (.ref b), some (.ref za), some (.ref ya), some f, some (.ref az), some (.ref a5), some (.ref ab), some vx, some vy, some (.int (at' : Nat)), some vn, some (.ref aS)] ∧ Frg M b H vx vy dx dy az ns ab G (n + 3) ∧ sDat.at M G vn dn ∧ sDat.at M G (.ref aS) (.list ds) ∧ ds.length ≤ 6 ∧ ∀ d ∈ ds, FOk L R d, ?_, ?_⟩
    --[[
    · skip
      repeat (first | refine ⟨_, rfl, ?_⟩ | refine ⟨_, _, rfl, rfl, ?_⟩ | refine ⟨_, _, rfl, ?_⟩ | refine ⟨rfl, ?_⟩)
      refine ⟨lenk 3 rfl (by decide), fun p1 np1 => ?_⟩
      have sp1 : Same G (upd G p1 (.tup [vy, vx, .ref az])) := Same.new np1
      have r1 : sDat.at M (upd G p1 (.tup [vy, vx, .ref az])) (.ref p1) (.tuple [dy, dx, tupD ns]) := rd_new_t fr.al np1 (.cons fr.hy (.cons fr.hx (.cons fr.hz .nil)))
      replace hn' := rd_same hn' sp1
      replace fr := fr.same sp1
      have hp1 : upd G p1 (.tup [vy, vx, .ref az]) p1 = some (.tup [vy, vx, .ref az]) := upd_same
      generalize upd G p1 (.tup [vy, vx, .ref az]) = H1 at sp1 r1 hp1 fr hn'
      clear sp1
      repeat (first | refine ⟨_, rfl, ?_⟩ | refine ⟨_, _, rfl, rfl, ?_⟩ | refine ⟨_, _, rfl, ?_⟩ | refine ⟨rfl, ?_⟩)
      refine ⟨az, _, rfl, .inr (.inl (.inl fr.rz)), fun p2 np2 => ?_⟩
      have sp2 : Same H1 (upd H1 p2 (.lst (ns.map V.int))) := Same.new np2
      have r2 : sDat.at M (upd H1 p2 (.lst (ns.map V.int))) (.ref p2) (.list (ns.map PyData.int)) := rd_new_l fr.al np2 (RDs.ints _)
      replace hn' := rd_same hn' sp2
      replace r1 := rd_same r1 sp2
      replace fr := fr.same sp2
      have hp2 : upd H1 p2 (.lst (ns.map V.int)) p2 = some (.lst (ns.map V.int)) := upd_same
      generalize upd H1 p2 (.lst (ns.map V.int)) = H2 at sp2 r2 hp2 fr hn' r1
      clear sp2
      repeat (first | refine ⟨_, rfl, ?_⟩ | refine ⟨_, _, rfl, rfl, ?_⟩ | refine ⟨_, _, rfl, ?_⟩ | refine ⟨rfl, ?_⟩)
      refine ⟨lenk 3 rfl (by decide), fun p3 np3 => ?_⟩
      have sp3 : Same H2 (upd H2 p3 (.tup [vx, vy, .ref p2])) := Same.new np3
      have r3 : sDat.at M (upd H2 p3 (.tup [vx, vy, .ref p2])) (.ref p3) (.tuple [dx, dy, .list (ns.map PyData.int)]) := rd_new_t fr.al np3 (.cons fr.hx (.cons fr.hy (.cons r2 .nil)))
      replace hn' := rd_same hn' sp3
      replace r1 := rd_same r1 sp3
      replace r2 := rd_same r2 sp3
      replace fr := fr.same sp3
      have hp3 : upd H2 p3 (.tup [vx, vy, .ref p2]) p3 = some (.tup [vx, vy, .ref p2]) := upd_same
      generalize upd H2 p3 (.tup [vx, vy, .ref p2]) = H3 at sp3 r3 hp3 fr hn' r1 r2
      clear sp3
      repeat (first | refine ⟨_, rfl, ?_⟩ | refine ⟨_, _, rfl, rfl, ?_⟩ | refine ⟨_, _, rfl, ?_⟩ | refine ⟨rfl, ?_⟩)
      refine ⟨lenk 3 rfl (by decide), fun p4 np4 => ?_⟩
      have sp4 : Same H3 (upd H3 p4 (.lst [vx, vy, .ref az])) := Same.new np4
      have r4 : sDat.at M (upd H3 p4 (.lst [vx, vy, .ref az])) (.ref p4) (.list [dx, dy, tupD ns]) := rd_new_l fr.al np4 (.cons fr.hx (.cons fr.hy (.cons fr.hz .nil)))
      replace hn' := rd_same hn' sp4
      replace r1 := rd_same r1 sp4
      replace r2 := rd_same r2 sp4
      replace r3 := rd_same r3 sp4
      replace fr := fr.same sp4
      have hp4 : upd H3 p4 (.lst [vx, vy, .ref az]) p4 = some (.lst [vx, vy, .ref az]) := upd_same
      generalize upd H3 p4 (.lst [vx, vy, .ref az]) = H4 at sp4 r4 hp4 fr hn' r1 r2 r3
      clear sp4
      repeat (first | refine ⟨_, rfl, ?_⟩ | refine ⟨_, _, rfl, rfl, ?_⟩ | refine ⟨_, _, rfl, ?_⟩ | refine ⟨rfl, ?_⟩)
      refine ⟨lenk 2 rfl (by decide), fun p5 np5 => ?_⟩
      have sp5 : Same H4 (upd H4 p5 (.tup [vx, vy])) := Same.new np5
      have r5 : sDat.at M (upd H4 p5 (.tup [vx, vy])) (.ref p5) (.tuple [dx, dy]) := rd_new_t fr.al np5 (.cons fr.hx (.cons fr.hy .nil))
      replace hn' := rd_same hn' sp5
      replace r1 := rd_same r1 sp5
      replace r2 := rd_same r2 sp5
      replace r3 := rd_same r3 sp5
      replace r4 := rd_same r4 sp5
      replace fr := fr.same sp5
      have hp5 : upd H4 p5 (.tup [vx, vy]) p5 = some (.tup [vx, vy]) := upd_same
      generalize upd H4 p5 (.tup [vx, vy]) = H5 at sp5 r5 hp5 fr hn' r1 r2 r3 r4
      clear sp5
      repeat (first | refine ⟨_, rfl, ?_⟩ | refine ⟨_, _, rfl, rfl, ?_⟩ | refine ⟨_, _, rfl, ?_⟩ | refine ⟨rfl, ?_⟩)
      refine ⟨lenk 1 rfl (by decide), fun p6 np6 => ?_⟩
      have sp6 : Same H5 (upd H5 p6 (.tup [.int 0])) := Same.new np6
      have r6 : sDat.at M (upd H5 p6 (.tup [.int 0])) (.ref p6) (.tuple [.int 0]) := rd_new_t fr.al np6 (.cons (.int 0) .nil)
      replace hn' := rd_same hn' sp6
      replace r1 := rd_same r1 sp6
      replace r2 := rd_same r2 sp6
      replace r3 := rd_same r3 sp6
      replace r4 := rd_same r4 sp6
      replace r5 := rd_same r5 sp6
      replace fr := fr.same sp6
      have hp6 : upd H5 p6 (.tup [.int 0]) p6 = some (.tup [.int 0]) := upd_same
      generalize upd H5 p6 (.tup [.int 0]) = H6 at sp6 r6 hp6 fr hn' r1 r2 r3 r4 r5
      clear sp6
      repeat (first | refine ⟨_, rfl, ?_⟩ | refine ⟨_, _, rfl, rfl, ?_⟩ | refine ⟨_, _, rfl, ?_⟩ | refine ⟨rfl, ?_⟩)
      refine catA_rd fr.hb r6 fr.al (by simp <;> omega) fun p7 H7 sp7 r7 => ?_
      replace hn' := rd_same hn' sp7
      replace r1 := rd_same r1 sp7
      replace r2 := rd_same r2 sp7
      replace r3 := rd_same r3 sp7
      replace r4 := rd_same r4 sp7
      replace r5 := rd_same r5 sp7
      replace r6 := rd_same r6 sp7
      replace fr := fr.same sp7
      clear sp7
      repeat (first | refine ⟨_, rfl, ?_⟩ | refine ⟨_, _, rfl, rfl, ?_⟩ | refine ⟨_, _, rfl, ?_⟩ | refine ⟨rfl, ?_⟩)
      refine ⟨lenk 6 rfl (by decide), fun p8 np8 => ?_⟩
      have sp8 : Same H7 (upd H7 p8 (.lst [.ref ab, .ref p1, .ref p3, .ref p4, .ref p5, .ref p7])) := Same.new np8
      have r8 : sDat.at M (upd H7 p8 (.lst [.ref ab, .ref p1, .ref p3, .ref p4, .ref p5, .ref p7])) (.ref p8) (.list [.tuple [dx, dy, tupD ns], .tuple [dy, dx, tupD ns], .tuple [dx, dy, .list (ns.map PyData.int)], .list [dx, dy, tupD ns], .tuple [dx, dy], .tuple ([dx, dy, tupD ns] ++ [.int 0])]) := rd_new_l fr.al np8 (.cons fr.hb (.cons r1 (.cons r3 (.cons r4 (.cons r5 (.cons r7 .nil))))))
      replace hn' := rd_same hn' sp8
      replace r1 := rd_same r1 sp8
      replace r2 := rd_same r2 sp8
      replace r3 := rd_same r3 sp8
      replace r4 := rd_same r4 sp8
      replace r5 := rd_same r5 sp8
      replace r6 := rd_same r6 sp8
      replace r7 := rd_same r7 sp8
      replace fr := fr.same sp8
      have hp8 : upd H7 p8 (.lst [.ref ab, .ref p1, .ref p3, .ref p4, .ref p5, .ref p7]) p8 = some (.lst [.ref ab, .ref p1, .ref p3, .ref p4, .ref p5, .ref p7]) := upd_same
      generalize upd H7 p8 (.lst [.ref ab, .ref p1, .ref p3, .ref p4, .ref p5, .ref p7]) = H8 at sp8 r8 hp8 fr hn' r1 r2 r3 r4 r5 r6 r7
      clear sp8
      repeat (first | refine ⟨_, rfl, ?_⟩ | refine ⟨_, _, rfl, rfl, ?_⟩ | refine ⟨_, _, rfl, ?_⟩ | refine ⟨rfl, ?_⟩)
      refine ⟨p8, _, rfl, fr, hn', r8, by simp, allC (f_three ox oy rowz) (allC (f_three oy ox rowz) (allC (f_three ox oy rowl) (allC (f_kind ((okd_list (B := 6000) (k := 1) (m := 3) (allC (big ox) (allC (big oy) (all1 rowz.1))) (Nat.le_refl _)).mono (by decide) (by decide)) (by show "list" ≠ "tuple"; decide)) (allC (f_len ((okd_tuple (B := 6000) (k := 1) (m := 2) (allC (big ox) (all1 (big oy))) (Nat.le_refl _)).mono (by decide) (by decide)) (by simp) (by simp)) (all1 (f_len ((okd_tuple (B := 6000) (k := 1) (m := 4) (allC (big ox) (allC (big oy) (allC rowz.1 (all1 (big o0))))) (Nat.le_refl _)).mono (by decide) (by decide)) (by simp) (by simp)))))))⟩
    --]]
    clear fr hn'
    rintro σ G ⟨aS, ds, rfl, fr, hn', hS, lds, okS⟩
    refine ⟨fun σ G => ∃ (aS : Addr) (ds : List PyData), σ = [some (.ref b), some (.ref za), some (.ref ya), some f, some (.ref az), some (.ref a5), some (.ref ab), some vx, some vy, some (.int (at' : Nat)), some vn, some (.ref aS)] ∧ Frg M b H vx vy dx dy az ns ab G (n + 3) ∧ sDat.at M G vn dn ∧ sDat.at M G (.ref aS) (.list ds) ∧ ds.length ≤ 13 ∧ ∀ d ∈ ds, FOk L R d, ?_, ?_⟩
    --[[
    · skip
      repeat (first | refine ⟨_, rfl, ?_⟩ | refine ⟨_, _, rfl, rfl, ?_⟩ | refine ⟨_, _, rfl, ?_⟩ | refine ⟨rfl, ?_⟩)
      refine ⟨lenk 3 rfl (by decide), fun p9 np9 => ?_⟩
      have sp9 : Same G (upd G p9 (.tup [vn, vy, .ref az])) := Same.new np9
      have r9 : sDat.at M (upd G p9 (.tup [vn, vy, .ref az])) (.ref p9) (.tuple [dn, dy, tupD ns]) := rd_new_t fr.al np9 (.cons hn' (.cons fr.hy (.cons fr.hz .nil)))
      replace hn' := rd_same hn' sp9
      replace hS := rd_same hS sp9
      replace fr := fr.same sp9
      have hp9 : upd G p9 (.tup [vn, vy, .ref az]) p9 = some (.tup [vn, vy, .ref az]) := upd_same
      generalize upd G p9 (.tup [vn, vy, .ref az]) = H9 at sp9 r9 hp9 fr hn' hS
      clear sp9
      repeat (first | refine ⟨_, rfl, ?_⟩ | refine ⟨_, _, rfl, rfl, ?_⟩ | refine ⟨_, _, rfl, ?_⟩ | refine ⟨rfl, ?_⟩)
      refine ⟨lenk 3 rfl (by decide), fun p10 np10 => ?_⟩
      have sp10 : Same H9 (upd H9 p10 (.tup [vx, vn, .ref az])) := Same.new np10
      have r10 : sDat.at M (upd H9 p10 (.tup [vx, vn, .ref az])) (.ref p10) (.tuple [dx, dn, tupD ns]) := rd_new_t fr.al np10 (.cons fr.hx (.cons hn' (.cons fr.hz .nil)))
      replace hn' := rd_same hn' sp10
      replace hS := rd_same hS sp10
      replace r9 := rd_same r9 sp10
      replace fr := fr.same sp10
      have hp10 : upd H9 p10 (.tup [vx, vn, .ref az]) p10 = some (.tup [vx, vn, .ref az]) := upd_same
      generalize upd H9 p10 (.tup [vx, vn, .ref az]) = H10 at sp10 r10 hp10 fr hn' hS r9
      clear sp10
      repeat (first | refine ⟨_, rfl, ?_⟩ | refine ⟨_, _, rfl, rfl, ?_⟩ | refine ⟨_, _, rfl, ?_⟩ | refine ⟨rfl, ?_⟩)
      refine ⟨lenk 3 rfl (by decide), fun p11 np11 => ?_⟩
      have sp11 : Same H10 (upd H10 p11 (.tup [vx, vx, .ref az])) := Same.new np11
      have r11 : sDat.at M (upd H10 p11 (.tup [vx, vx, .ref az])) (.ref p11) (.tuple [dx, dx, tupD ns]) := rd_new_t fr.al np11 (.cons fr.hx (.cons fr.hx (.cons fr.hz .nil)))
      replace hn' := rd_same hn' sp11
      replace hS := rd_same hS sp11
      replace r9 := rd_same r9 sp11
      replace r10 := rd_same r10 sp11
      replace fr := fr.same sp11
      have hp11 : upd H10 p11 (.tup [vx, vx, .ref az]) p11 = some (.tup [vx, vx, .ref az]) := upd_same
      generalize upd H10 p11 (.tup [vx, vx, .ref az]) = H11 at sp11 r11 hp11 fr hn' hS r9 r10
      clear sp11
      repeat (first | refine ⟨_, rfl, ?_⟩ | refine ⟨_, _, rfl, rfl, ?_⟩ | refine ⟨_, _, rfl, ?_⟩ | refine ⟨rfl, ?_⟩)
      try dsimp only [tNoPart]
      refine slA_rd (es := ((ns.map PyData.int).take ((ns.map PyData.int).length - 1))) fr.hz fr.al (fun vs lvs r => ?_) fun p12 H12 sp12 r12 => ?_
      · rw [show (-1 : Int) = -((1 : Nat) : Int) from rfl, cut_less 1 (by decide), lvs]; exact r.take
      replace hn' := rd_same hn' sp12
      replace hS := rd_same hS sp12
      replace r9 := rd_same r9 sp12
      replace r10 := rd_same r10 sp12
      replace r11 := rd_same r11 sp12
      replace fr := fr.same sp12
      clear sp12
      repeat (first | refine ⟨_, rfl, ?_⟩ | refine ⟨_, _, rfl, rfl, ?_⟩ | refine ⟨_, _, rfl, ?_⟩ | refine ⟨rfl, ?_⟩)
      refine ⟨lenk 3 rfl (by decide), fun p13 np13 => ?_⟩
      have sp13 : Same H12 (upd H12 p13 (.tup [vx, vy, .ref p12])) := Same.new np13
      have r13 : sDat.at M (upd H12 p13 (.tup [vx, vy, .ref p12])) (.ref p13) (.tuple [dx, dy, .tuple ((ns.map PyData.int).take ((ns.map PyData.int).length - 1))]) := rd_new_t fr.al np13 (.cons fr.hx (.cons fr.hy (.cons r12 .nil)))
      replace hn' := rd_same hn' sp13
      replace hS := rd_same hS sp13
      replace r9 := rd_same r9 sp13
      replace r10 := rd_same r10 sp13
      replace r11 := rd_same r11 sp13
      replace r12 := rd_same r12 sp13
      replace fr := fr.same sp13
      have hp13 : upd H12 p13 (.tup [vx, vy, .ref p12]) p13 = some (.tup [vx, vy, .ref p12]) := upd_same
      generalize upd H12 p13 (.tup [vx, vy, .ref p12]) = H13 at sp13 r13 hp13 fr hn' hS r9 r10 r11 r12
      clear sp13
      repeat (first | refine ⟨_, rfl, ?_⟩ | refine ⟨_, _, rfl, rfl, ?_⟩ | refine ⟨_, _, rfl, ?_⟩ | refine ⟨rfl, ?_⟩)
      intro p14 np14
      have sp14 : Same H13 (upd H13 p14 (.dK [])) := Same.new np14
      have r14 : sDat.at M (upd H13 p14 (.dK [])) (.ref p14) (.dict []) := RD.dic (fr.al.off np14) upd_same
      replace hn' := rd_same hn' sp14
      replace hS := rd_same hS sp14
      replace r9 := rd_same r9 sp14
      replace r10 := rd_same r10 sp14
      replace r11 := rd_same r11 sp14
      replace r12 := rd_same r12 sp14
      replace r13 := rd_same r13 sp14
      replace fr := fr.same sp14
      generalize upd H13 p14 (.dK []) = H14 at sp14 r14 fr hn' hS r9 r10 r11 r12 r13
      clear sp14
      repeat (first | refine ⟨_, rfl, ?_⟩ | refine ⟨_, _, rfl, rfl, ?_⟩ | refine ⟨_, _, rfl, ?_⟩ | refine ⟨rfl, ?_⟩)
      refine ⟨lenk 7 rfl (by decide), fun p15 np15 => ?_⟩
      have sp15 : Same H14 (upd H14 p15 (.lst [.ref p9, .ref p10, .ref p11, .ref p13, .non, .ref p14, .int 7])) := Same.new np15
      have r15 : sDat.at M (upd H14 p15 (.lst [.ref p9, .ref p10, .ref p11, .ref p13, .non, .ref p14, .int 7])) (.ref p15) (.list [.tuple [dn, dy, tupD ns], .tuple [dx, dn, tupD ns], .tuple [dx, dx, tupD ns], .tuple [dx, dy, .tuple ((ns.map PyData.int).take ((ns.map PyData.int).length - 1))], .none, .dict [], .int 7]) := rd_new_l fr.al np15 (.cons r9 (.cons r10 (.cons r11 (.cons r13 (.cons .non (.cons r14 (.cons (.int 7) .nil)))))))
      replace hn' := rd_same hn' sp15
      replace hS := rd_same hS sp15
      replace r9 := rd_same r9 sp15
      replace r10 := rd_same r10 sp15
      replace r11 := rd_same r11 sp15
      replace r12 := rd_same r12 sp15
      replace r13 := rd_same r13 sp15
      replace r14 := rd_same r14 sp15
      replace fr := fr.same sp15
      have hp15 : upd H14 p15 (.lst [.ref p9, .ref p10, .ref p11, .ref p13, .non, .ref p14, .int 7]) p15 = some (.lst [.ref p9, .ref p10, .ref p11, .ref p13, .non, .ref p14, .int 7]) := upd_same
      generalize upd H14 p15 (.lst [.ref p9, .ref p10, .ref p11, .ref p13, .non, .ref p14, .int 7]) = H15 at sp15 r15 hp15 fr hn' hS r9 r10 r11 r12 r13 r14
      clear sp15
      repeat (first | refine ⟨_, rfl, ?_⟩ | refine ⟨_, _, rfl, rfl, ?_⟩ | refine ⟨_, _, rfl, ?_⟩ | refine ⟨rfl, ?_⟩)
      obtain ⟨_, vsA16, eA, -, hA, rA16⟩ := rd_inv_l hS
      cases eA
      obtain ⟨_, vsC16, eA, -, hC, rC16⟩ := rd_inv_l r15
      cases eA
      repeat (first | refine ⟨_, rfl, ?_⟩ | refine ⟨_, _, rfl, rfl, ?_⟩ | refine ⟨_, _, rfl, ?_⟩ | refine ⟨rfl, ?_⟩)
      refine ⟨aS, p15, _, _, rfl, rfl, hA, hC, by rw [rA16.len, rC16.len, sizeLine_eq]; simp <;> omega, fun p16 np16 => ?_⟩
      have sp16 : Same H15 (upd H15 p16 (.lst (vsA16 ++ vsC16))) := Same.new np16
      have r16 : sDat.at M (upd H15 p16 (.lst (vsA16 ++ vsC16))) (.ref p16) (.list (ds ++ [.tuple [dn, dy, tupD ns], .tuple [dx, dn, tupD ns], .tuple [dx, dx, tupD ns], .tuple [dx, dy, .tuple ((ns.map PyData.int).take ((ns.map PyData.int).length - 1))], .none, .dict [], .int 7])) := rd_new_l fr.al np16 (rA16.app rC16)
      replace hn' := rd_same hn' sp16
      replace hS := rd_same hS sp16
      replace r9 := rd_same r9 sp16
      replace r10 := rd_same r10 sp16
      replace r11 := rd_same r11 sp16
      replace r12 := rd_same r12 sp16
      replace r13 := rd_same r13 sp16
      replace r14 := rd_same r14 sp16
      replace r15 := rd_same r15 sp16
      replace fr := fr.same sp16
      have hp16 : upd H15 p16 (.lst (vsA16 ++ vsC16)) p16 = some (.lst (vsA16 ++ vsC16)) := upd_same
      generalize upd H15 p16 (.lst (vsA16 ++ vsC16)) = H16 at sp16 r16 hp16 fr hn' hS r9 r10 r11 r12 r13 r14 r15
      clear sp16
      have rowt : RowO (.tuple ((ns.map PyData.int).take ((ns.map PyData.int).length - 1))) := row_o (by rw [List.length_take, List.length_map]; omega) fun e he => hsm e (List.mem_of_mem_take he)
      repeat (first | refine ⟨_, rfl, ?_⟩ | refine ⟨_, _, rfl, rfl, ?_⟩ | refine ⟨_, _, rfl, ?_⟩ | refine ⟨rfl, ?_⟩)
      refine ⟨p16, _, rfl, fr, hn', r16, by simp <;> omega, fun d hd => (List.mem_append.mp hd).elim (okS d) ((allC (f_three on oy rowz) (allC (f_three ox on rowz) (allC (f_three ox ox rowz) (allC (f_three ox oy rowt) (allC (f_kind (oN.mono (by decide) (by decide)) (by show "NoneType" ≠ "tuple"; decide)) (allC (f_kind (oD.mono (by decide) (by decide)) (by show "dict" ≠ "tuple"; decide)) (all1 (f_kind (((okd_int (i := 7) (by decide +kernel))).mono (by decide) (by decide)) (by show "int" ≠ "tuple"; decide))))))))) d)⟩
    --]]
    clear fr hn' hS okS lds
    rintro σ G ⟨aS, ds, rfl, fr, hn', hS, lds, okS⟩
    refine ⟨fun σ G => ∃ (aS : Addr) (ds : List PyData), σ = [some (.ref b), some (.ref za), some (.ref ya), some f, some (.ref az), some (.ref a5), some (.ref ab), some vx, some vy, some (.int (at' : Nat)), some vn, some (.ref aS)] ∧ Frg M b H vx vy dx dy az ns ab G (n + 4) ∧ sDat.at M G vn dn ∧ sDat.at M G (.ref aS) (.list ds) ∧ ds.length ≤ 15 ∧ ∀ d ∈ ds, FOk L R d, ?_, ?_⟩
    --[[
    · skip
      repeat (first | refine ⟨_, rfl, ?_⟩ | refine ⟨_, _, rfl, rfl, ?_⟩ | refine ⟨_, _, rfl, ?_⟩ | refine ⟨rfl, ?_⟩)
      try dsimp only [tNoPart]
      refine slA_rd (es := ((ns.map PyData.int).take at')) fr.hz fr.al (fun vs lvs r => ?_) fun p17 H17 sp17 r17 => ?_
      · rw [cut_to]; exact r.take
      replace hn' := rd_same hn' sp17
      replace hS := rd_same hS sp17
      replace fr := fr.same sp17
      clear sp17
      repeat (first | refine ⟨_, rfl, ?_⟩ | refine ⟨_, _, rfl, rfl, ?_⟩ | refine ⟨_, _, rfl, ?_⟩ | refine ⟨rfl, ?_⟩)
      refine ⟨b, _, 7, rfl, fr.bag, by omega, by decide, by decide, fun i7 H18 fH18 bH18 x0 x1 => ?_⟩
      replace hn' := Sh.go hn' (fH18.stp bH18.some) (Sb.one hb) Sb.refl
      replace hS := Sh.go hS (fH18.stp bH18.some) (Sb.one hb) Sb.refl
      replace r17 := Sh.go r17 (fH18.stp bH18.some) (Sb.one hb) Sb.refl
      replace fr := fr.step hb (fH18.stp bH18.some) bH18
      repeat (first | refine ⟨_, rfl, ?_⟩ | refine ⟨_, _, rfl, rfl, ?_⟩ | refine ⟨_, _, rfl, ?_⟩ | refine ⟨rfl, ?_⟩)
      refine ⟨lenk 1 rfl (by decide), fun p18 np18 => ?_⟩
      have sp18 : Same H18 (upd H18 p18 (.tup [.int i7])) := Same.new np18
      have r18 : sDat.at M (upd H18 p18 (.tup [.int i7])) (.ref p18) (.tuple [.int i7]) := rd_new_t fr.al np18 (.cons (.int i7) .nil)
      replace hn' := rd_same hn' sp18
      replace hS := rd_same hS sp18
      replace r17 := rd_same r17 sp18
      replace fr := fr.same sp18
      have hp18 : upd H18 p18 (.tup [.int i7]) p18 = some (.tup [.int i7]) := upd_same
      generalize upd H18 p18 (.tup [.int i7]) = H19 at sp18 r18 hp18 fr hn' hS r17
      clear sp18
      repeat (first | refine ⟨_, rfl, ?_⟩ | refine ⟨_, _, rfl, rfl, ?_⟩ | refine ⟨_, _, rfl, ?_⟩ | refine ⟨rfl, ?_⟩)
      refine catA_rd r17 r18 fr.al (by simp <;> omega) fun p19 H20 sp19 r19 => ?_
      replace hn' := rd_same hn' sp19
      replace hS := rd_same hS sp19
      replace r17 := rd_same r17 sp19
      replace r18 := rd_same r18 sp19
      replace fr := fr.same sp19
      clear sp19
      repeat (first | refine ⟨_, rfl, ?_⟩ | refine ⟨_, _, rfl, rfl, ?_⟩ | refine ⟨_, _, rfl, ?_⟩ | refine ⟨rfl, ?_⟩)
      try dsimp only [tNoPart]
      refine slA_rd (es := ((ns.map PyData.int).drop (at' + 1))) fr.hz fr.al (fun vs lvs r => ?_) fun p20 H21 sp20 r20 => ?_
      · rw [cutV1]; exact r.drop
      replace hn' := rd_same hn' sp20
      replace hS := rd_same hS sp20
      replace r17 := rd_same r17 sp20
      replace r18 := rd_same r18 sp20
      replace r19 := rd_same r19 sp20
      replace fr := fr.same sp20
      clear sp20
      repeat (first | refine ⟨_, rfl, ?_⟩ | refine ⟨_, _, rfl, rfl, ?_⟩ | refine ⟨_, _, rfl, ?_⟩ | refine ⟨rfl, ?_⟩)
      refine catA_rd r19 r20 fr.al (by simp <;> omega) fun p21 H22 sp21 r21 => ?_
      replace hn' := rd_same hn' sp21
      replace hS := rd_same hS sp21
      replace r17 := rd_same r17 sp21
      replace r18 := rd_same r18 sp21
      replace r19 := rd_same r19 sp21
      replace r20 := rd_same r20 sp21
      replace fr := fr.same sp21
      clear sp21
      repeat (first | refine ⟨_, rfl, ?_⟩ | refine ⟨_, _, rfl, rfl, ?_⟩ | refine ⟨_, _, rfl, ?_⟩ | refine ⟨rfl, ?_⟩)
      refine ⟨lenk 3 rfl (by decide), fun p22 np22 => ?_⟩
      have sp22 : Same H22 (upd H22 p22 (.tup [vx, vy, .ref p21])) := Same.new np22
      have r22 : sDat.at M (upd H22 p22 (.tup [vx, vy, .ref p21])) (.ref p22) (.tuple [dx, dy, .tuple ((ns.map PyData.int).take at' ++ [.int i7] ++ (ns.map PyData.int).drop (at' + 1))]) := rd_new_t fr.al np22 (.cons fr.hx (.cons fr.hy (.cons r21 .nil)))
      replace hn' := rd_same hn' sp22
      replace hS := rd_same hS sp22
      replace r17 := rd_same r17 sp22
      replace r18 := rd_same r18 sp22
      replace r19 := rd_same r19 sp22
      replace r20 := rd_same r20 sp22
      replace r21 := rd_same r21 sp22
      replace fr := fr.same sp22
      have hp22 : upd H22 p22 (.tup [vx, vy, .ref p21]) p22 = some (.tup [vx, vy, .ref p21]) := upd_same
      generalize upd H22 p22 (.tup [vx, vy, .ref p21]) = H23 at sp22 r22 hp22 fr hn' hS r17 r18 r19 r20 r21
      clear sp22
      repeat (first | refine ⟨_, rfl, ?_⟩ | refine ⟨_, _, rfl, rfl, ?_⟩ | refine ⟨_, _, rfl, ?_⟩ | refine ⟨rfl, ?_⟩)
      refine ⟨lenk 1 rfl (by decide), fun p23 np23 => ?_⟩
      have sp23 : Same H23 (upd H23 p23 (.tup [.int 0])) := Same.new np23
      have r23 : sDat.at M (upd H23 p23 (.tup [.int 0])) (.ref p23) (.tuple [.int 0]) := rd_new_t fr.al np23 (.cons (.int 0) .nil)
      replace hn' := rd_same hn' sp23
      replace hS := rd_same hS sp23
      replace r17 := rd_same r17 sp23
      replace r18 := rd_same r18 sp23
      replace r19 := rd_same r19 sp23
      replace r20 := rd_same r20 sp23
      replace r21 := rd_same r21 sp23
      replace r22 := rd_same r22 sp23
      replace fr := fr.same sp23
      have hp23 : upd H23 p23 (.tup [.int 0]) p23 = some (.tup [.int 0]) := upd_same
      generalize upd H23 p23 (.tup [.int 0]) = H24 at sp23 r23 hp23 fr hn' hS r17 r18 r19 r20 r21 r22
      clear sp23
      repeat (first | refine ⟨_, rfl, ?_⟩ | refine ⟨_, _, rfl, rfl, ?_⟩ | refine ⟨_, _, rfl, ?_⟩ | refine ⟨rfl, ?_⟩)
      refine catA_rd fr.hz r23 fr.al (by simp <;> omega) fun p24 H25 sp24 r24 => ?_
      replace hn' := rd_same hn' sp24
      replace hS := rd_same hS sp24
      replace r17 := rd_same r17 sp24
      replace r18 := rd_same r18 sp24
      replace r19 := rd_same r19 sp24
      replace r20 := rd_same r20 sp24
      replace r21 := rd_same r21 sp24
      replace r22 := rd_same r22 sp24
      replace r23 := rd_same r23 sp24
      replace fr := fr.same sp24
      clear sp24
      repeat (first | refine ⟨_, rfl, ?_⟩ | refine ⟨_, _, rfl, rfl, ?_⟩ | refine ⟨_, _, rfl, ?_⟩ | refine ⟨rfl, ?_⟩)
      refine ⟨lenk 3 rfl (by decide), fun p25 np25 => ?_⟩
      have sp25 : Same H25 (upd H25 p25 (.tup [vx, vy, .ref p24])) := Same.new np25
      have r25 : sDat.at M (upd H25 p25 (.tup [vx, vy, .ref p24])) (.ref p25) (.tuple [dx, dy, .tuple ((ns.map PyData.int) ++ [.int 0])]) := rd_new_t fr.al np25 (.cons fr.hx (.cons fr.hy (.cons r24 .nil)))
      replace hn' := rd_same hn' sp25
      replace hS := rd_same hS sp25
      replace r17 := rd_same r17 sp25
      replace r18 := rd_same r18 sp25
      replace r19 := rd_same r19 sp25
      replace r20 := rd_same r20 sp25
      replace r21 := rd_same r21 sp25
      replace r22 := rd_same r22 sp25
      replace r23 := rd_same r23 sp25
      replace r24 := rd_same r24 sp25
      replace fr := fr.same sp25
      have hp25 : upd H25 p25 (.tup [vx, vy, .ref p24]) p25 = some (.tup [vx, vy, .ref p24]) := upd_same
      generalize upd H25 p25 (.tup [vx, vy, .ref p24]) = H26 at sp25 r25 hp25 fr hn' hS r17 r18 r19 r20 r21 r22 r23 r24
      clear sp25
      repeat (first | refine ⟨_, rfl, ?_⟩ | refine ⟨_, _, rfl, rfl, ?_⟩ | refine ⟨_, _, rfl, ?_⟩ | refine ⟨rfl, ?_⟩)
      refine ⟨lenk 2 rfl (by decide), fun p26 np26 => ?_⟩
      have sp26 : Same H26 (upd H26 p26 (.lst [.ref p22, .ref p25])) := Same.new np26
      have r26 : sDat.at M (upd H26 p26 (.lst [.ref p22, .ref p25])) (.ref p26) (.list [.tuple [dx, dy, .tuple ((ns.map PyData.int).take at' ++ [.int i7] ++ (ns.map PyData.int).drop (at' + 1))], .tuple [dx, dy, .tuple ((ns.map PyData.int) ++ [.int 0])]]) := rd_new_l fr.al np26 (.cons r22 (.cons r25 .nil))
      replace hn' := rd_same hn' sp26
      replace hS := rd_same hS sp26
      replace r17 := rd_same r17 sp26
      replace r18 := rd_same r18 sp26
      replace r19 := rd_same r19 sp26
      replace r20 := rd_same r20 sp26
      replace r21 := rd_same r21 sp26
      replace r22 := rd_same r22 sp26
      replace r23 := rd_same r23 sp26
      replace r24 := rd_same r24 sp26
      replace r25 := rd_same r25 sp26
      replace fr := fr.same sp26
      have hp26 : upd H26 p26 (.lst [.ref p22, .ref p25]) p26 = some (.lst [.ref p22, .ref p25]) := upd_same
      generalize upd H26 p26 (.lst [.ref p22, .ref p25]) = H27 at sp26 r26 hp26 fr hn' hS r17 r18 r19 r20 r21 r22 r23 r24 r25
      clear sp26
      repeat (first | refine ⟨_, rfl, ?_⟩ | refine ⟨_, _, rfl, rfl, ?_⟩ | refine ⟨_, _, rfl, ?_⟩ | refine ⟨rfl, ?_⟩)
      obtain ⟨_, vsA27, eA, -, hA, rA27⟩ := rd_inv_l hS
      cases eA
      obtain ⟨_, vsC27, eA, -, hC, rC27⟩ := rd_inv_l r26
      cases eA
      repeat (first | refine ⟨_, rfl, ?_⟩ | refine ⟨_, _, rfl, rfl, ?_⟩ | refine ⟨_, _, rfl, ?_⟩ | refine ⟨rfl, ?_⟩)
      refine ⟨aS, p26, _, _, rfl, rfl, hA, hC, by rw [rA27.len, rC27.len, sizeLine_eq]; simp <;> omega, fun p27 np27 => ?_⟩
      have sp27 : Same H27 (upd H27 p27 (.lst (vsA27 ++ vsC27))) := Same.new np27
      have r27 : sDat.at M (upd H27 p27 (.lst (vsA27 ++ vsC27))) (.ref p27) (.list (ds ++ [.tuple [dx, dy, .tuple ((ns.map PyData.int).take at' ++ [.int i7] ++ (ns.map PyData.int).drop (at' + 1))], .tuple [dx, dy, .tuple ((ns.map PyData.int) ++ [.int 0])]])) := rd_new_l fr.al np27 (rA27.app rC27)
      replace hn' := rd_same hn' sp27
      replace hS := rd_same hS sp27
      replace r17 := rd_same r17 sp27
      replace r18 := rd_same r18 sp27
      replace r19 := rd_same r19 sp27
      replace r20 := rd_same r20 sp27
      replace r21 := rd_same r21 sp27
      replace r22 := rd_same r22 sp27
      replace r23 := rd_same r23 sp27
      replace r24 := rd_same r24 sp27
      replace r25 := rd_same r25 sp27
      replace r26 := rd_same r26 sp27
      replace fr := fr.same sp27
      have hp27 : upd H27 p27 (.lst (vsA27 ++ vsC27)) p27 = some (.lst (vsA27 ++ vsC27)) := upd_same
      generalize upd H27 p27 (.lst (vsA27 ++ vsC27)) = H28 at sp27 r27 hp27 fr hn' hS r17 r18 r19 r20 r21 r22 r23 r24 r25 r26
      clear sp27
      have rowa : RowO (.tuple ((ns.map PyData.int).take at' ++ [.int i7] ++ (ns.map PyData.int).drop (at' + 1))) := row_o (by simp <;> omega) fun e he => by
        rcases List.mem_append.mp he with he | he
        · rcases List.mem_append.mp he with he | he
          · exact hsm e (List.mem_of_mem_take he)
          · rw [List.mem_singleton.mp he]; exact .inl ⟨i7, rfl, x0, by omega⟩
        · exact hsm e (List.mem_of_mem_drop he)
      have rowb : RowO (.tuple ((ns.map PyData.int) ++ [.int 0])) := row_o (by simp <;> omega) fun e he => by
        rcases List.mem_append.mp he with he | he
        · exact hsm e he
        · rw [List.mem_singleton.mp he]; exact .inl ⟨0, rfl, by omega, by omega⟩
      repeat (first | refine ⟨_, rfl, ?_⟩ | refine ⟨_, _, rfl, rfl, ?_⟩ | refine ⟨_, _, rfl, ?_⟩ | refine ⟨rfl, ?_⟩)
      refine ⟨p27, _, rfl, fr, hn', r27, by simp <;> omega, fun d hd => (List.mem_append.mp hd).elim (okS d) ((allC (f_three ox oy rowa) (all1 (f_three ox oy rowb))) d)⟩
    --]]
    clear fr hn' hS okS lds
    rintro σ G ⟨aS, ds, rfl, fr, hn', hS, lds, okS⟩
    refine ⟨fun σ G => ∃ (aS : Addr) (ds : List PyData), σ = [some (.ref b), some (.ref za), some (.ref ya), some f, some (.ref az), some (.ref a5), some (.ref ab), some vx, some vy, some (.int (at' : Nat)), some vn, some (.ref aS)] ∧ Frg M b H vx vy dx dy az ns ab G (n + 4) ∧ sDat.at M G vn dn ∧ sDat.at M G (.ref aS) (.list ds) ∧ ds.length ≤ 20 ∧ ∀ d ∈ ds, FOk L R d, ?_, ?_⟩
    --[[
    · skip
      repeat (first | refine ⟨_, rfl, ?_⟩ | refine ⟨_, _, rfl, rfl, ?_⟩ | refine ⟨_, _, rfl, ?_⟩ | refine ⟨rfl, ?_⟩)
      refine ⟨lenk 0 rfl (by decide), fun p28 np28 => ?_⟩
      have sp28 : Same G (upd G p28 (.lst [])) := Same.new np28
      have r28 : sDat.at M (upd G p28 (.lst [])) (.ref p28) (.list []) := rd_new_l fr.al np28 .nil
      replace hn' := rd_same hn' sp28
      replace hS := rd_same hS sp28
      replace fr := fr.same sp28
      have hp28 : upd G p28 (.lst []) p28 = some (.lst []) := upd_same
      generalize upd G p28 (.lst []) = H29 at sp28 r28 hp28 fr hn' hS
      clear sp28
      repeat (first | refine ⟨_, rfl, ?_⟩ | refine ⟨_, _, rfl, rfl, ?_⟩ | refine ⟨_, _, rfl, ?_⟩ | refine ⟨rfl, ?_⟩)
      refine ⟨lenk 3 rfl (by decide), fun p29 np29 => ?_⟩
      have sp29 : Same H29 (upd H29 p29 (.tup [vx, .ref p28, .ref az])) := Same.new np29
      have r29 : sDat.at M (upd H29 p29 (.tup [vx, .ref p28, .ref az])) (.ref p29) (.tuple [dx, .list [], tupD ns]) := rd_new_t fr.al np29 (.cons fr.hx (.cons r28 (.cons fr.hz .nil)))
      replace hn' := rd_same hn' sp29
      replace hS := rd_same hS sp29
      replace r28 := rd_same r28 sp29
      replace fr := fr.same sp29
      have hp29 : upd H29 p29 (.tup [vx, .ref p28, .ref az]) p29 = some (.tup [vx, .ref p28, .ref az]) := upd_same
      generalize upd H29 p29 (.tup [vx, .ref p28, .ref az]) = H30 at sp29 r29 hp29 fr hn' hS r28
      clear sp29
      repeat (first | refine ⟨_, rfl, ?_⟩ | refine ⟨_, _, rfl, rfl, ?_⟩ | refine ⟨_, _, rfl, ?_⟩ | refine ⟨rfl, ?_⟩)
      refine ⟨lenk 0 rfl (by decide), fun p30 np30 => ?_⟩
      have sp30 : Same H30 (upd H30 p30 (.lst [])) := Same.new np30
      have r30 : sDat.at M (upd H30 p30 (.lst [])) (.ref p30) (.list []) := rd_new_l fr.al np30 .nil
      replace hn' := rd_same hn' sp30
      replace hS := rd_same hS sp30
      replace r28 := rd_same r28 sp30
      replace r29 := rd_same r29 sp30
      replace fr := fr.same sp30
      have hp30 : upd H30 p30 (.lst []) p30 = some (.lst []) := upd_same
      generalize upd H30 p30 (.lst []) = H31 at sp30 r30 hp30 fr hn' hS r28 r29
      clear sp30
      repeat (first | refine ⟨_, rfl, ?_⟩ | refine ⟨_, _, rfl, rfl, ?_⟩ | refine ⟨_, _, rfl, ?_⟩ | refine ⟨rfl, ?_⟩)
      refine ⟨lenk 3 rfl (by decide), fun p31 np31 => ?_⟩
      have sp31 : Same H31 (upd H31 p31 (.tup [.ref p30, vy, .ref az])) := Same.new np31
      have r31 : sDat.at M (upd H31 p31 (.tup [.ref p30, vy, .ref az])) (.ref p31) (.tuple [.list [], dy, tupD ns]) := rd_new_t fr.al np31 (.cons r30 (.cons fr.hy (.cons fr.hz .nil)))
      replace hn' := rd_same hn' sp31
      replace hS := rd_same hS sp31
      replace r28 := rd_same r28 sp31
      replace r29 := rd_same r29 sp31
      replace r30 := rd_same r30 sp31
      replace fr := fr.same sp31
      have hp31 : upd H31 p31 (.tup [.ref p30, vy, .ref az]) p31 = some (.tup [.ref p30, vy, .ref az]) := upd_same
      generalize upd H31 p31 (.tup [.ref p30, vy, .ref az]) = H32 at sp31 r31 hp31 fr hn' hS r28 r29 r30
      clear sp31
      repeat (first | refine ⟨_, rfl, ?_⟩ | refine ⟨_, _, rfl, rfl, ?_⟩ | refine ⟨_, _, rfl, ?_⟩ | refine ⟨rfl, ?_⟩)
      intro p32 np32
      have sp32 : Same H32 (upd H32 p32 (.dK [])) := Same.new np32
      have r32 : sDat.at M (upd H32 p32 (.dK [])) (.ref p32) (.dict []) := RD.dic (fr.al.off np32) upd_same
      replace hn' := rd_same hn' sp32
      replace hS := rd_same hS sp32
      replace r28 := rd_same r28 sp32
      replace r29 := rd_same r29 sp32
      replace r30 := rd_same r30 sp32
      replace r31 := rd_same r31 sp32
      replace fr := fr.same sp32
      generalize upd H32 p32 (.dK []) = H33 at sp32 r32 fr hn' hS r28 r29 r30 r31
      clear sp32
      repeat (first | refine ⟨_, rfl, ?_⟩ | refine ⟨_, _, rfl, rfl, ?_⟩ | refine ⟨_, _, rfl, ?_⟩ | refine ⟨rfl, ?_⟩)
      refine ⟨lenk 3 rfl (by decide), fun p33 np33 => ?_⟩
      have sp33 : Same H33 (upd H33 p33 (.tup [.ref p32, vy, .ref az])) := Same.new np33
      have r33 : sDat.at M (upd H33 p33 (.tup [.ref p32, vy, .ref az])) (.ref p33) (.tuple [.dict [], dy, tupD ns]) := rd_new_t fr.al np33 (.cons r32 (.cons fr.hy (.cons fr.hz .nil)))
      replace hn' := rd_same hn' sp33
      replace hS := rd_same hS sp33
      replace r28 := rd_same r28 sp33
      replace r29 := rd_same r29 sp33
      replace r30 := rd_same r30 sp33
      replace r31 := rd_same r31 sp33
      replace r32 := rd_same r32 sp33
      replace fr := fr.same sp33
      have hp33 : upd H33 p33 (.tup [.ref p32, vy, .ref az]) p33 = some (.tup [.ref p32, vy, .ref az]) := upd_same
      generalize upd H33 p33 (.tup [.ref p32, vy, .ref az]) = H34 at sp33 r33 hp33 fr hn' hS r28 r29 r30 r31 r32
      clear sp33
      repeat (first | refine ⟨_, rfl, ?_⟩ | refine ⟨_, _, rfl, rfl, ?_⟩ | refine ⟨_, _, rfl, ?_⟩ | refine ⟨rfl, ?_⟩)
      intro p34 np34
      have sp34 : Same H34 (upd H34 p34 (.dK [])) := Same.new np34
      have r34 : sDat.at M (upd H34 p34 (.dK [])) (.ref p34) (.dict []) := RD.dic (fr.al.off np34) upd_same
      replace hn' := rd_same hn' sp34
      replace hS := rd_same hS sp34
      replace r28 := rd_same r28 sp34
      replace r29 := rd_same r29 sp34
      replace r30 := rd_same r30 sp34
      replace r31 := rd_same r31 sp34
      replace r32 := rd_same r32 sp34
      replace r33 := rd_same r33 sp34
      replace fr := fr.same sp34
      generalize upd H34 p34 (.dK []) = H35 at sp34 r34 fr hn' hS r28 r29 r30 r31 r32 r33
      clear sp34
      repeat (first | refine ⟨_, rfl, ?_⟩ | refine ⟨_, _, rfl, rfl, ?_⟩ | refine ⟨_, _, rfl, ?_⟩ | refine ⟨rfl, ?_⟩)
      refine ⟨lenk 3 rfl (by decide), fun p35 np35 => ?_⟩
      have sp35 : Same H35 (upd H35 p35 (.tup [vx, .ref p34, .ref az])) := Same.new np35
      have r35 : sDat.at M (upd H35 p35 (.tup [vx, .ref p34, .ref az])) (.ref p35) (.tuple [dx, .dict [], tupD ns]) := rd_new_t fr.al np35 (.cons fr.hx (.cons r34 (.cons fr.hz .nil)))
      replace hn' := rd_same hn' sp35
      replace hS := rd_same hS sp35
      replace r28 := rd_same r28 sp35
      replace r29 := rd_same r29 sp35
      replace r30 := rd_same r30 sp35
      replace r31 := rd_same r31 sp35
      replace r32 := rd_same r32 sp35
      replace r33 := rd_same r33 sp35
      replace r34 := rd_same r34 sp35
      replace fr := fr.same sp35
      have hp35 : upd H35 p35 (.tup [vx, .ref p34, .ref az]) p35 = some (.tup [vx, .ref p34, .ref az]) := upd_same
      generalize upd H35 p35 (.tup [vx, .ref p34, .ref az]) = H36 at sp35 r35 hp35 fr hn' hS r28 r29 r30 r31 r32 r33 r34
      clear sp35
      repeat (first | refine ⟨_, rfl, ?_⟩ | refine ⟨_, _, rfl, rfl, ?_⟩ | refine ⟨_, _, rfl, ?_⟩ | refine ⟨rfl, ?_⟩)
      refine ⟨lenk 0 rfl (by decide), fun p36 np36 => ?_⟩
      have sp36 : Same H36 (upd H36 p36 (.tup [])) := Same.new np36
      have r36 : sDat.at M (upd H36 p36 (.tup [])) (.ref p36) (.tuple []) := rd_new_t fr.al np36 .nil
      replace hn' := rd_same hn' sp36
      replace hS := rd_same hS sp36
      replace r28 := rd_same r28 sp36
      replace r29 := rd_same r29 sp36
      replace r30 := rd_same r30 sp36
      replace r31 := rd_same r31 sp36
      replace r32 := rd_same r32 sp36
      replace r33 := rd_same r33 sp36
      replace r34 := rd_same r34 sp36
      replace r35 := rd_same r35 sp36
      replace fr := fr.same sp36
      have hp36 : upd H36 p36 (.tup []) p36 = some (.tup []) := upd_same
      generalize upd H36 p36 (.tup []) = H37 at sp36 r36 hp36 fr hn' hS r28 r29 r30 r31 r32 r33 r34 r35
      clear sp36
      repeat (first | refine ⟨_, rfl, ?_⟩ | refine ⟨_, _, rfl, rfl, ?_⟩ | refine ⟨_, _, rfl, ?_⟩ | refine ⟨rfl, ?_⟩)
      refine ⟨lenk 3 rfl (by decide), fun p37 np37 => ?_⟩
      have sp37 : Same H37 (upd H37 p37 (.tup [.ref p36, vx, .ref az])) := Same.new np37
      have r37 : sDat.at M (upd H37 p37 (.tup [.ref p36, vx, .ref az])) (.ref p37) (.tuple [.tuple [], dx, tupD ns]) := rd_new_t fr.al np37 (.cons r36 (.cons fr.hx (.cons fr.hz .nil)))
      replace hn' := rd_same hn' sp37
      replace hS := rd_same hS sp37
      replace r28 := rd_same r28 sp37
      replace r29 := rd_same r29 sp37
      replace r30 := rd_same r30 sp37
      replace r31 := rd_same r31 sp37
      replace r32 := rd_same r32 sp37
      replace r33 := rd_same r33 sp37
      replace r34 := rd_same r34 sp37
      replace r35 := rd_same r35 sp37
      replace r36 := rd_same r36 sp37
      replace fr := fr.same sp37
      have hp37 : upd H37 p37 (.tup [.ref p36, vx, .ref az]) p37 = some (.tup [.ref p36, vx, .ref az]) := upd_same
      generalize upd H37 p37 (.tup [.ref p36, vx, .ref az]) = H38 at sp37 r37 hp37 fr hn' hS r28 r29 r30 r31 r32 r33 r34 r35 r36
      clear sp37
      repeat (first | refine ⟨_, rfl, ?_⟩ | refine ⟨_, _, rfl, rfl, ?_⟩ | refine ⟨_, _, rfl, ?_⟩ | refine ⟨rfl, ?_⟩)
      refine ⟨lenk 5 rfl (by decide), fun p38 np38 => ?_⟩
      have sp38 : Same H38 (upd H38 p38 (.lst [.ref p29, .ref p31, .ref p33, .ref p35, .ref p37])) := Same.new np38
      have r38 : sDat.at M (upd H38 p38 (.lst [.ref p29, .ref p31, .ref p33, .ref p35, .ref p37])) (.ref p38) (.list [.tuple [dx, .list [], tupD ns], .tuple [.list [], dy, tupD ns], .tuple [.dict [], dy, tupD ns], .tuple [dx, .dict [], tupD ns], .tuple [.tuple [], dx, tupD ns]]) := rd_new_l fr.al np38 (.cons r29 (.cons r31 (.cons r33 (.cons r35 (.cons r37 .nil)))))
      replace hn' := rd_same hn' sp38
      replace hS := rd_same hS sp38
      replace r28 := rd_same r28 sp38
      replace r29 := rd_same r29 sp38
      replace r30 := rd_same r30 sp38
      replace r31 := rd_same r31 sp38
      replace r32 := rd_same r32 sp38
      replace r33 := rd_same r33 sp38
      replace r34 := rd_same r34 sp38
      replace r35 := rd_same r35 sp38
      replace r36 := rd_same r36 sp38
      replace r37 := rd_same r37 sp38
      replace fr := fr.same sp38
      have hp38 : upd H38 p38 (.lst [.ref p29, .ref p31, .ref p33, .ref p35, .ref p37]) p38 = some (.lst [.ref p29, .ref p31, .ref p33, .ref p35, .ref p37]) := upd_same
      generalize upd H38 p38 (.lst [.ref p29, .ref p31, .ref p33, .ref p35, .ref p37]) = H39 at sp38 r38 hp38 fr hn' hS r28 r29 r30 r31 r32 r33 r34 r35 r36 r37
      clear sp38
      repeat (first | refine ⟨_, rfl, ?_⟩ | refine ⟨_, _, rfl, rfl, ?_⟩ | refine ⟨_, _, rfl, ?_⟩ | refine ⟨rfl, ?_⟩)
      obtain ⟨_, vsA39, eA, -, hA, rA39⟩ := rd_inv_l hS
      cases eA
      obtain ⟨_, vsC39, eA, -, hC, rC39⟩ := rd_inv_l r38
      cases eA
      repeat (first | refine ⟨_, rfl, ?_⟩ | refine ⟨_, _, rfl, rfl, ?_⟩ | refine ⟨_, _, rfl, ?_⟩ | refine ⟨rfl, ?_⟩)
      refine ⟨aS, p38, _, _, rfl, rfl, hA, hC, by rw [rA39.len, rC39.len, sizeLine_eq]; simp <;> omega, fun p39 np39 => ?_⟩
      have sp39 : Same H39 (upd H39 p39 (.lst (vsA39 ++ vsC39))) := Same.new np39
      have r39 : sDat.at M (upd H39 p39 (.lst (vsA39 ++ vsC39))) (.ref p39) (.list (ds ++ [.tuple [dx, .list [], tupD ns], .tuple [.list [], dy, tupD ns], .tuple [.dict [], dy, tupD ns], .tuple [dx, .dict [], tupD ns], .tuple [.tuple [], dx, tupD ns]])) := rd_new_l fr.al np39 (rA39.app rC39)
      replace hn' := rd_same hn' sp39
      replace hS := rd_same hS sp39
      replace r28 := rd_same r28 sp39
      replace r29 := rd_same r29 sp39
      replace r30 := rd_same r30 sp39
      replace r31 := rd_same r31 sp39
      replace r32 := rd_same r32 sp39
      replace r33 := rd_same r33 sp39
      replace r34 := rd_same r34 sp39
      replace r35 := rd_same r35 sp39
      replace r36 := rd_same r36 sp39
      replace r37 := rd_same r37 sp39
      replace r38 := rd_same r38 sp39
      replace fr := fr.same sp39
      have hp39 : upd H39 p39 (.lst (vsA39 ++ vsC39)) p39 = some (.lst (vsA39 ++ vsC39)) := upd_same
      generalize upd H39 p39 (.lst (vsA39 ++ vsC39)) = H40 at sp39 r39 hp39 fr hn' hS r28 r29 r30 r31 r32 r33 r34 r35 r36 r37 r38
      clear sp39
      repeat (first | refine ⟨_, rfl, ?_⟩ | refine ⟨_, _, rfl, rfl, ?_⟩ | refine ⟨_, _, rfl, ?_⟩ | refine ⟨rfl, ?_⟩)
      refine ⟨p39, _, rfl, fr, hn', r39, by simp <;> omega, fun d hd => (List.mem_append.mp hd).elim (okS d) ((allC (f_three ox oL rowz) (allC (f_three oL oy rowz) (allC (f_three oD oy rowz) (allC (f_three ox oD rowz) (all1 (f_three oT ox rowz)))))) d)⟩
    --]]
    clear fr hn' hS okS lds
    rintro σ G ⟨aS, ds, rfl, fr, hn', hS, lds, okS⟩
    repeat (first | refine ⟨_, rfl, ?_⟩ | refine ⟨_, _, rfl, rfl, ?_⟩ | refine ⟨_, _, rfl, ?_⟩ | refine ⟨rfl, ?_⟩)
    try dsimp only [tNoPart]
    refine slA_rd (es := ((ns.map PyData.int).take at')) fr.hz fr.al (fun vs lvs r => ?_) fun p40 H41 sp40 r40 => ?_
    · rw [cut_to]; exact r.take
    replace hn' := rd_same hn' sp40
    replace hS := rd_same hS sp40
    replace fr := fr.same sp40
    clear sp40
    repeat (first | refine ⟨_, rfl, ?_⟩ | refine ⟨_, _, rfl, rfl, ?_⟩ | refine ⟨_, _, rfl, ?_⟩ | refine ⟨rfl, ?_⟩)
    have hat : atI (ns.map V.int) (at' : Int) = some (.int ns[at']) := atI_nat (by rw [List.getElem?_map, List.getElem?_eq_getElem lat]; rfl)
    refine ⟨az, _, (at' : Int), _, rfl, rfl, .inl (.inl fr.rz), hat, ?_⟩
    repeat (first | refine ⟨_, rfl, ?_⟩ | refine ⟨_, _, rfl, rfl, ?_⟩ | refine ⟨_, _, rfl, ?_⟩ | refine ⟨rfl, ?_⟩)
    refine ⟨lenk 1 rfl (by decide), fun p41 np41 => ?_⟩
    have sp41 : Same H41 (upd H41 p41 (.tup [.bl (decide (V.int ns[at'] = V.int 1))])) := Same.new np41
    have r41 : sDat.at M (upd H41 p41 (.tup [.bl (decide (V.int ns[at'] = V.int 1))])) (.ref p41) (.tuple [.bool (decide (V.int ns[at'] = V.int 1))]) := rd_new_t fr.al np41 (.cons (.bl _) .nil)
    replace hn' := rd_same hn' sp41
    replace hS := rd_same hS sp41
    replace r40 := rd_same r40 sp41
    replace fr := fr.same sp41
    have hp41 : upd H41 p41 (.tup [.bl (decide (V.int ns[at'] = V.int 1))]) p41 = some (.tup [.bl (decide (V.int ns[at'] = V.int 1))]) := upd_same
    generalize upd H41 p41 (.tup [.bl (decide (V.int ns[at'] = V.int 1))]) = H42 at sp41 r41 hp41 fr hn' hS r40
    clear sp41
    repeat (first | refine ⟨_, rfl, ?_⟩ | refine ⟨_, _, rfl, rfl, ?_⟩ | refine ⟨_, _, rfl, ?_⟩ | refine ⟨rfl, ?_⟩)
    refine catA_rd r40 r41 fr.al (by simp <;> omega) fun p42 H43 sp42 r42 => ?_
    replace hn' := rd_same hn' sp42
    replace hS := rd_same hS sp42
    replace r40 := rd_same r40 sp42
    replace r41 := rd_same r41 sp42
    replace fr := fr.same sp42
    clear sp42
    repeat (first | refine ⟨_, rfl, ?_⟩ | refine ⟨_, _, rfl, rfl, ?_⟩ | refine ⟨_, _, rfl, ?_⟩ | refine ⟨rfl, ?_⟩)
    try dsimp only [tNoPart]
    refine slA_rd (es := ((ns.map PyData.int).drop (at' + 1))) fr.hz fr.al (fun vs lvs r => ?_) fun p43 H44 sp43 r43 => ?_
    · rw [cutV1]; exact r.drop
    replace hn' := rd_same hn' sp43
    replace hS := rd_same hS sp43
    replace r40 := rd_same r40 sp43
    replace r41 := rd_same r41 sp43
    replace r42 := rd_same r42 sp43
    replace fr := fr.same sp43
    clear sp43
    repeat (first | refine ⟨_, rfl, ?_⟩ | refine ⟨_, _, rfl, rfl, ?_⟩ | refine ⟨_, _, rfl, ?_⟩ | refine ⟨rfl, ?_⟩)
    refine catA_rd r42 r43 fr.al (by simp <;> omega) fun p44 H45 sp44 r44 => ?_
    replace hn' := rd_same hn' sp44
    replace hS := rd_same hS sp44
    replace r40 := rd_same r40 sp44
    replace r41 := rd_same r41 sp44
    replace r42 := rd_same r42 sp44
    replace r43 := rd_same r43 sp44
    replace fr := fr.same sp44
    clear sp44
    repeat (first | refine ⟨_, rfl, ?_⟩ | refine ⟨_, _, rfl, rfl, ?_⟩ | refine ⟨_, _, rfl, ?_⟩ | refine ⟨rfl, ?_⟩)
    refine ⟨lenk 3 rfl (by decide), fun p45 np45 => ?_⟩
    have sp45 : Same H45 (upd H45 p45 (.tup [vx, vy, .ref p44])) := Same.new np45
    have r45 : sDat.at M (upd H45 p45 (.tup [vx, vy, .ref p44])) (.ref p45) (.tuple [dx, dy, .tuple ((ns.map PyData.int).take at' ++ [.bool (decide (V.int ns[at'] = V.int 1))] ++ (ns.map PyData.int).drop (at' + 1))]) := rd_new_t fr.al np45 (.cons fr.hx (.cons fr.hy (.cons r44 .nil)))
    replace hn' := rd_same hn' sp45
    replace hS := rd_same hS sp45
    replace r40 := rd_same r40 sp45
    replace r41 := rd_same r41 sp45
    replace r42 := rd_same r42 sp45
    replace r43 := rd_same r43 sp45
    replace r44 := rd_same r44 sp45
    replace fr := fr.same sp45
    have hp45 : upd H45 p45 (.tup [vx, vy, .ref p44]) p45 = some (.tup [vx, vy, .ref p44]) := upd_same
    generalize upd H45 p45 (.tup [vx, vy, .ref p44]) = H46 at sp45 r45 hp45 fr hn' hS r40 r41 r42 r43 r44
    clear sp45
    repeat (first | refine ⟨_, rfl, ?_⟩ | refine ⟨_, _, rfl, rfl, ?_⟩ | refine ⟨_, _, rfl, ?_⟩ | refine ⟨rfl, ?_⟩)
    refine ⟨lenk 0 rfl (by decide), fun p46 np46 => ?_⟩
    have sp46 : Same H46 (upd H46 p46 (.lst [])) := Same.new np46
    have r46 : sDat.at M (upd H46 p46 (.lst [])) (.ref p46) (.list []) := rd_new_l fr.al np46 .nil
    replace hn' := rd_same hn' sp46
    replace hS := rd_same hS sp46
    replace r40 := rd_same r40 sp46
    replace r41 := rd_same r41 sp46
    replace r42 := rd_same r42 sp46
    replace r43 := rd_same r43 sp46
    replace r44 := rd_same r44 sp46
    replace r45 := rd_same r45 sp46
    replace fr := fr.same sp46
    have hp46 : upd H46 p46 (.lst []) p46 = some (.lst []) := upd_same
    generalize upd H46 p46 (.lst []) = H47 at sp46 r46 hp46 fr hn' hS r40 r41 r42 r43 r44 r45
    clear sp46
    repeat (first | refine ⟨_, rfl, ?_⟩ | refine ⟨_, _, rfl, rfl, ?_⟩ | refine ⟨_, _, rfl, ?_⟩ | refine ⟨rfl, ?_⟩)
    refine ⟨lenk 3 rfl (by decide), fun p47 np47 => ?_⟩
    have sp47 : Same H47 (upd H47 p47 (.tup [.non, .ref p46, .ref az])) := Same.new np47
    have r47 : sDat.at M (upd H47 p47 (.tup [.non, .ref p46, .ref az])) (.ref p47) (.tuple [.none, .list [], tupD ns]) := rd_new_t fr.al np47 (.cons .non (.cons r46 (.cons fr.hz .nil)))
    replace hn' := rd_same hn' sp47
    replace hS := rd_same hS sp47
    replace r40 := rd_same r40 sp47
    replace r41 := rd_same r41 sp47
    replace r42 := rd_same r42 sp47
    replace r43 := rd_same r43 sp47
    replace r44 := rd_same r44 sp47
    replace r45 := rd_same r45 sp47
    replace r46 := rd_same r46 sp47
    replace fr := fr.same sp47
    have hp47 : upd H47 p47 (.tup [.non, .ref p46, .ref az]) p47 = some (.tup [.non, .ref p46, .ref az]) := upd_same
    generalize upd H47 p47 (.tup [.non, .ref p46, .ref az]) = H48 at sp47 r47 hp47 fr hn' hS r40 r41 r42 r43 r44 r45 r46
    clear sp47
    repeat (first | refine ⟨_, rfl, ?_⟩ | refine ⟨_, _, rfl, rfl, ?_⟩ | refine ⟨_, _, rfl, ?_⟩ | refine ⟨rfl, ?_⟩)
    refine ⟨lenk 3 rfl (by decide), fun p48 np48 => ?_⟩
    have sp48 : Same H48 (upd H48 p48 (.tup [vx, vy, .non])) := Same.new np48
    have r48 : sDat.at M (upd H48 p48 (.tup [vx, vy, .non])) (.ref p48) (.tuple [dx, dy, .none]) := rd_new_t fr.al np48 (.cons fr.hx (.cons fr.hy (.cons .non .nil)))
    replace hn' := rd_same hn' sp48
    replace hS := rd_same hS sp48
    replace r40 := rd_same r40 sp48
    replace r41 := rd_same r41 sp48
    replace r42 := rd_same r42 sp48
    replace r43 := rd_same r43 sp48
    replace r44 := rd_same r44 sp48
    replace r45 := rd_same r45 sp48
    replace r46 := rd_same r46 sp48
    replace r47 := rd_same r47 sp48
    replace fr := fr.same sp48
    have hp48 : upd H48 p48 (.tup [vx, vy, .non]) p48 = some (.tup [vx, vy, .non]) := upd_same
    generalize upd H48 p48 (.tup [vx, vy, .non]) = H49 at sp48 r48 hp48 fr hn' hS r40 r41 r42 r43 r44 r45 r46 r47
    clear sp48
    repeat (first | refine ⟨_, rfl, ?_⟩ | refine ⟨_, _, rfl, rfl, ?_⟩ | refine ⟨_, _, rfl, ?_⟩ | refine ⟨rfl, ?_⟩)
    refine ⟨lenk 3 rfl (by decide), fun p49 np49 => ?_⟩
    have sp49 : Same H49 (upd H49 p49 (.lst [.ref p45, .ref p47, .ref p48])) := Same.new np49
    have r49 : sDat.at M (upd H49 p49 (.lst [.ref p45, .ref p47, .ref p48])) (.ref p49) (.list [.tuple [dx, dy, .tuple ((ns.map PyData.int).take at' ++ [.bool (decide (V.int ns[at'] = V.int 1))] ++ (ns.map PyData.int).drop (at' + 1))], .tuple [.none, .list [], tupD ns], .tuple [dx, dy, .none]]) := rd_new_l fr.al np49 (.cons r45 (.cons r47 (.cons r48 .nil)))
    replace hn' := rd_same hn' sp49
    replace hS := rd_same hS sp49
    replace r40 := rd_same r40 sp49
    replace r41 := rd_same r41 sp49
    replace r42 := rd_same r42 sp49
    replace r43 := rd_same r43 sp49
    replace r44 := rd_same r44 sp49
    replace r45 := rd_same r45 sp49
    replace r46 := rd_same r46 sp49
    replace r47 := rd_same r47 sp49
    replace r48 := rd_same r48 sp49
    replace fr := fr.same sp49
    have hp49 : upd H49 p49 (.lst [.ref p45, .ref p47, .ref p48]) p49 = some (.lst [.ref p45, .ref p47, .ref p48]) := upd_same
    generalize upd H49 p49 (.lst [.ref p45, .ref p47, .ref p48]) = H50 at sp49 r49 hp49 fr hn' hS r40 r41 r42 r43 r44 r45 r46 r47 r48
    clear sp49
    repeat (first | refine ⟨_, rfl, ?_⟩ | refine ⟨_, _, rfl, rfl, ?_⟩ | refine ⟨_, _, rfl, ?_⟩ | refine ⟨rfl, ?_⟩)
    obtain ⟨_, vsA50, eA, -, hA, rA50⟩ := rd_inv_l hS
    cases eA
    obtain ⟨_, vsC50, eA, -, hC, rC50⟩ := rd_inv_l r49
    cases eA
    repeat (first | refine ⟨_, rfl, ?_⟩ | refine ⟨_, _, rfl, rfl, ?_⟩ | refine ⟨_, _, rfl, ?_⟩ | refine ⟨rfl, ?_⟩)
    refine ⟨aS, p49, _, _, rfl, rfl, hA, hC, by rw [rA50.len, rC50.len, sizeLine_eq]; simp <;> omega, fun p50 np50 => ?_⟩
    have sp50 : Same H50 (upd H50 p50 (.lst (vsA50 ++ vsC50))) := Same.new np50
    have r50 : sDat.at M (upd H50 p50 (.lst (vsA50 ++ vsC50))) (.ref p50) (.list (ds ++ [.tuple [dx, dy, .tuple ((ns.map PyData.int).take at' ++ [.bool (decide (V.int ns[at'] = V.int 1))] ++ (ns.map PyData.int).drop (at' + 1))], .tuple [.none, .list [], tupD ns], .tuple [dx, dy, .none]])) := rd_new_l fr.al np50 (rA50.app rC50)
    replace hn' := rd_same hn' sp50
    replace hS := rd_same hS sp50
    replace r40 := rd_same r40 sp50
    replace r41 := rd_same r41 sp50
    replace r42 := rd_same r42 sp50
    replace r43 := rd_same r43 sp50
    replace r44 := rd_same r44 sp50
    replace r45 := rd_same r45 sp50
    replace r46 := rd_same r46 sp50
    replace r47 := rd_same r47 sp50
    replace r48 := rd_same r48 sp50
    replace r49 := rd_same r49 sp50
    replace fr := fr.same sp50
    have hp50 : upd H50 p50 (.lst (vsA50 ++ vsC50)) p50 = some (.lst (vsA50 ++ vsC50)) := upd_same
    generalize upd H50 p50 (.lst (vsA50 ++ vsC50)) = H51 at sp50 r50 hp50 fr hn' hS r40 r41 r42 r43 r44 r45 r46 r47 r48 r49
    clear sp50
    have rowa : RowO (.tuple ((ns.map PyData.int).take at' ++ [.bool (decide (V.int ns[at'] = V.int 1))] ++ (ns.map PyData.int).drop (at' + 1))) := row_o (by simp <;> omega) fun e he => by
      rcases List.mem_append.mp he with he | he
      · rcases List.mem_append.mp he with he | he
        · exact hsm e (List.mem_of_mem_take he)
        · rw [List.mem_singleton.mp he]; exact .inr ⟨_, rfl⟩
      · exact hsm e (List.mem_of_mem_drop he)
    repeat (first | refine ⟨_, rfl, ?_⟩ | refine ⟨_, _, rfl, rfl, ?_⟩ | refine ⟨_, _, rfl, ?_⟩ | refine ⟨rfl, ?_⟩)
    exact q _ _ _ fr.st fr.bag r50 (by simp <;> omega) fun d hd => (List.mem_append.mp hd).elim (okS d) ((allC (f_three ox oy rowa) (allC (f_three oN oL rowz) (all1 (f_three ox oy row_n)))) d)

end K13
namespace K13
open PySem PySem.Spec PyProof.Rows L2 TL
/-! ### bounds -/
theorem okd_nm {s : Str} (h : NameOk s) : OkD 82 0 (.str s) := okd_name h
theorem okd_nms {l : List Str} {m : Nat} (h : ∀ s ∈ l, NameOk s) (hm : l.length ≤ m) : OkD (m * 84 + 3) 1 (.list (l.map PyData.str)) := okd_list (B := 82) (fun d hd => by
  obtain ⟨s, hs, rfl⟩ := List.mem_map.mp hd; exact okd_nm (h s hs)) (by rw [List.length_map]; exact hm)
theorem okd_nmt {l : List Str} {m : Nat} (h : ∀ s ∈ l, NameOk s) (hm : l.length ≤ m) : OkD (m * 84 + 3) 1 (.tuple (l.map PyData.str)) := okd_tuple (B := 82) (fun d hd => by
  obtain ⟨s, hs, rfl⟩ := List.mem_map.mp hd; exact okd_nm (h s hs)) (by rw [List.length_map]; exact hm)
theorem okd_tup {ns : List Int} {m : Nat} (h : ∀ v ∈ ns, v.natAbs < 10 ^ 500) (hm : ns.length ≤ m) : OkD (m * 503 + 3) 1 (tupD ns) := okd_tuple (B := 501) (fun d hd => by
  obtain ⟨s, hs, rfl⟩ := List.mem_map.mp hd; exact okd_int (h s hs)) (by rw [List.length_map]; exact hm)
theorem small500 {v : Int} (h : 0 ≤ v ∧ v ≤ 100) : v.natAbs < 10 ^ 500 := Nat.lt_of_lt_of_le (show v.natAbs < 10 ^ 3 by show _ < 1000; omega) (Nat.pow_le_pow_right (by decide) (by decide))
theorem okd_pair {q : Str × Int} (h : NameOk q.1) (h2 : 1 ≤ q.2 ∧ q.2 ≤ 6) : OkD 1009 1 (pairD q) := okd_tuple (B := 501) (m := 2) (allC ((okd_nm h).mono (by decide) (by decide)) (all1 (okd_int (small500 (by omega))))) (Nat.le_refl 2)
theorem okd_vars {L : List (Str × Int)} (h : VarsOk L) : OkD 8091 2 (.list (L.map pairD)) := okd_list (B := 1009) (m := 8) (fun d hd => by
  obtain ⟨q, hq, rfl⟩ := List.mem_map.mp hd; exact okd_pair (h.nm q hq) (h.sz q hq)) (by rw [List.length_map]; exact h.few)
theorem okd_row {L : List (Str × Int)} (hL : VarsOk L) {r : Row} (h : RowOk L r) : OkD 72630 3 (rowD r) := by
  have e1 : OkD 24207 2 (.str r.1) := (okd_nm h.nm).mono (by decide) (by decide)
  have e2 : OkD 24207 2 (.list (r.2.1.map PyData.str)) := (okd_nms (fun s hs => by
    obtain ⟨w, hw, e⟩ := List.mem_map.mp (h.sub s hs)
    exact e ▸ hL.nm w hw) h.few).mono (by decide) (by decide)
  have e3 : OkD 24207 2 (.list (r.2.2.map tupD)) := okd_list (B := 2015) (m := 12) (fun d hd => by
    obtain ⟨ns, hn, rfl⟩ := List.mem_map.mp hd
    have l4 := h.bl ns hn
    have f4 := h.few
    refine okd_tup (m := 4) (fun v hv => ?_) (by omega)
    obtain ⟨i, hi⟩ := List.mem_iff_getElem?.mp hv
    obtain ⟨li, _⟩ := List.getElem?_eq_some_iff.mp hi
    have hx : r.2.1[i]? = some (r.2.1[i]'(by omega)) := List.getElem?_eq_getElem (by omega)
    have := h.bv ns hn i _ v hx hi
    have s6 := (sizes_val hL (h.sub _ (List.mem_of_getElem? hx))).2.2
    exact small500 (by omega)) (by rw [List.length_map]; exact h.bfew)
  exact okd_tuple (B := 24207) (m := 3) (allC e1 (allC e2 (all1 e3))) (Nat.le_refl 3)
theorem okd_rows {L : List (Str × Int)} (hL : VarsOk L) {R : List Row} (h : EvsOk L R) : OkD 581059 4 (.list (R.map rowD)) := okd_list (B := 72630) (m := 8) (fun d hd => by
  obtain ⟨q, hq, rfl⟩ := List.mem_map.mp hd; exact okd_row hL (h.ok q hq)) (by rw [List.length_map]; exact h.few)

theorem vars_to {b D : Addr} {H0 H : Hp} {L : List (Str × Int)} {xs : List V} (n : D ≠ b) (h : H D = some (.lst xs)) (pd : Paired (isPair H (NewTo H0 b)) xs L) : (sL sVar).at [b] H (.ref D) L :=
  ⟨D, xs, rfl, mem1.mpr n, h, Paired.mono (fun x q ⟨t, e, n, h⟩ => ⟨t, .str q.1, .int q.2, e, mem1.mpr n.2, h, rfl, rfl⟩) pd⟩
theorem rows_to {b r : Addr} {H0 H : Hp} {R : List Row} {xs : List V} (n : r ≠ b) (h : H r = some (.lst xs)) (pd : Paired (isRowS H (NewTo H0 b) (NewTo H0 b)) xs R) : (sL sRow).at [b] H (.ref r) R :=
  ⟨r, xs, rfl, mem1.mpr n, h, Paired.mono (fun x q ⟨t, a, c, ys, e, n, h, ⟨na, ha⟩, ⟨nc, hc⟩, p⟩ => ⟨t, .str q.1, .ref a, .ref c, e, mem1.mpr n.2, h, rfl, ⟨a, _, rfl, mem1.mpr na.2, ha, pd_strs⟩,
    ⟨c, ys, rfl, mem1.mpr nc.2, hc, Paired.mono (fun x q ⟨t, e, n, h⟩ => ⟨t, _, e, mem1.mpr n.2, h, pd_ints⟩) p⟩⟩) pd⟩
theorem rd_ints {M : List Addr} {H : Hp} {v : V} {ns : List Int} (h : (sT sInt).at M H v ns) : sDat.at M H v (tupD ns) := by
  obtain ⟨a, rfl, n, h⟩ := Sh.tints h
  exact RD.tup n h (RDs.ints ns)
theorem rd_vars {M : List Addr} {H : Hp} {v : V} {L : List (Str × Int)} (h : (sL sVar).at M H v L) : sDat.at M H v (.list (L.map pairD)) := by
  obtain ⟨a, xs, rfl, n, h, pd⟩ := h
  refine RD.lst n h (RDs.of (F := fun v x => sVar.at M H v x) (fun v q z => ?_) pd)
  obtain ⟨t, _, _, rfl, n, h, rfl, rfl⟩ := z
  exact RD.tup n h (.cons (.str _) (.cons (.int _) .nil))
theorem rd_strs {W : Addr → Prop} {H : Hp} : ∀ l : List Str, RDs W H (l.map V.str) (l.map PyData.str)
  | [] => .nil
  | x :: l => .cons (.str x) (rd_strs l)
theorem rd_rows {M : List Addr} {H : Hp} {v : V} {R : List Row} (h : (sL sRow).at M H v R) : sDat.at M H v (.list (R.map rowD)) := by
  obtain ⟨a, xs, rfl, n, h, pd⟩ := h
  refine RD.lst n h (RDs.of (F := fun v x => sRow.at M H v x) (fun v q z => ?_) pd)
  obtain ⟨t, _, _, _, rfl, n, h, rfl, hs, ⟨c, ys, rfl, nc, hc, pc⟩⟩ := z
  obtain ⟨a, rfl, na, ha⟩ := Sh.strs hs
  exact RD.tup n h (.cons (.str _) (.cons (RD.lst na ha (rd_strs _)) (.cons (RD.lst nc hc (RDs.of (F := fun v x => (sT sInt).at M H v x) (fun v q z => rd_ints z) pc)) .nil)))
theorem getP_mem (l : List (Str × Int)) (x : Str) (d : Int) : getP l x d = d ∨ ∃ q, q ∈ l ∧ getP l x d = q.2 := by
  unfold getP
  cases e : l.find? fun q => decide (q.1 = x) with
  | none => exact .inl rfl
  | some q => exact .inr ⟨q, List.mem_of_find?_eq_some e, rfl⟩
theorem joint_ok {L : List (Str × Int)} {r s : Row} {o1 o2 : List (List Int)} {ns : List Int} (h : joint L r s o1 o2 = some ns) (b1 : ∀ v ∈ o1, TS.Bd 6 v) (b2 : ∀ v ∈ o2, TS.Bd 6 v) : ns.length = L.length ∧ ∀ i ∈ ns, 0 ≤ i ∧ i < 100000 := by
  unfold joint at h
  split at h
  · obtain ⟨v, hv, h⟩ := List.exists_of_findSome?_eq_some h
    obtain ⟨m, hm, rfl⟩ := Option.map_eq_some_iff.mp h
    have hm := List.mem_of_find?_eq_some hm
    refine ⟨by unfold jn; rw [List.length_map], fun i hi => ?_⟩
    unfold jn at hi
    obtain ⟨q, hq, rfl⟩ := List.mem_map.mp hi
    have in_of : ∀ (sc : List Str) (v : List Int) (q : Str × Int), q ∈ sc.zip v → q.2 ∈ v := fun sc v q h => (List.of_mem_zip (show (q.1, q.2) ∈ _ from h)).2
    rcases getP_mem (s.2.1.zip m) q.1 (getP (r.2.1.zip v) q.1 0) with e | ⟨z, hz, e⟩
    · rw [e]
      rcases getP_mem (r.2.1.zip v) q.1 0 with e | ⟨z, hz, e⟩
      · rw [e]; omega
      · rw [e]
        have := b1 v hv z.2 (in_of _ _ _ hz)
        omega
    · rw [e]
      have := b2 m hm z.2 (in_of _ _ _ hz)
      omega
  · cases h
theorem ovl_ok {L : List (Str × Int)} : ∀ {S : List Row} {x y : Str} {ns : List Int}, (∀ r ∈ S, NameOk r.1 ∧ ∀ v ∈ r.2.2, TS.Bd 6 v) → ovl L S = some (x, y, ns) → NameOk x ∧ NameOk y ∧ ns.length = L.length ∧ ∀ i ∈ ns, 0 ≤ i ∧ i < 100000
  | [], _, _, _, _, h => by cases h
  | r :: S, x, y, ns, ok, h => by
    unfold ovl at h
    have okS := fun s (hs : s ∈ S) => ok s (List.mem_cons_of_mem _ hs)
    cases e : S.findSome? fun s => (joint L r s r.2.2 s.2.2).map fun ns => (r.1, s.1, ns) with
    | none =>
      rw [e, Option.none_or] at h
      exact ovl_ok okS h
    | some z =>
      rw [e, Option.some_or] at h
      cases h
      obtain ⟨s, hs, h⟩ := List.exists_of_findSome?_eq_some e
      obtain ⟨ns', hj, e⟩ := Option.map_eq_some_iff.mp h
      cases e
      obtain ⟨l, b⟩ := joint_ok hj (ok r List.mem_cons_self).2 (okS s hs).2
      exact ⟨(ok r List.mem_cons_self).1, (okS s hs).1, l, b⟩
theorem srt_ok {L : List (Str × Int)} {R S : List Row} (okL : VarsOk L) (okR : EvsOk L R) (pS : Paired SrtR R S) : ∀ r ∈ S, NameOk r.1 ∧ ∀ v ∈ r.2.2, TS.Bd 6 v := fun r hr => by
  obtain ⟨i, hi⟩ := List.getElem?_of_mem hr
  obtain ⟨w, hw, e1, e2, e3⟩ := pget pS hi
  have rok := okR.ok w (List.mem_of_getElem? hw)
  exact ⟨by rw [e1]; exact rok.nm, fun v hv => (row_bd okL rok v (e3.1.mem_iff.mp hv)).2⟩
def ovD (o : Str × Str × List Int) : PyData := .tuple [.str o.1, .str o.2.1, tupD o.2.2]
theorem okd_ov {L : List (Str × Int)} {o : Str × Str × List Int} (okL : VarsOk L) (h : NameOk o.1 ∧ NameOk o.2.1 ∧ o.2.2.length = L.length ∧ ∀ i ∈ o.2.2, 0 ≤ i ∧ i < 100000) : OkD 60000 3 (ovD o) := by
  have l8 := okL.few
  obtain ⟨h1, h2, h3, h4⟩ := h
  exact (okd_tuple (B := 6000) (k := 1) (m := 3) (allC ((okd_name h1).mono (by decide) (by decide)) (allC ((okd_name h2).mono (by decide) (by decide)) (all1 ((okd_tup (m := 8) (fun v hv => by
    have := h4 v hv
    exact Nat.lt_of_lt_of_le (show v.natAbs < 10 ^ 6 by omega) (by decide +kernel)) (by omega)).mono (by decide) (by decide))))) (Nat.le_refl _)).mono (by decide) (by decide)
def prD (d : PyData) : PyData := .list [.str (Str.ofString "problem"), d]
theorem fine_pr {d : PyData} (h : OkD 2000000 10 d) : Fine (prD d) := by
  have e : OkD 2000000 10 (.str (Str.ofString "problem")) := (okd_str (n := 7) (cpOk_of _) (by decide)).mono (by decide) (by decide)
  exact (okd_list (B := 2000000) (k := 10) (m := 2) (allC e (all1 h)) (Nat.le_refl _)).fine (by decide) (by decide)

end K13
namespace K13
open PySem PySem.Spec PyProof.Rows L2 TL
/-! ### the law -/
theorem shows_ask {K : PySem.W.Frag} {C p : Addr} {H : Hp} {F G : Addr → Prop} {L : List (Str × Int)} {R : List Row} {M : List Addr} {v : V} {d : PyData} {B : Bool} {Q : VK} {E : XK} (hP : IsP C H F G p L R) (okL : VarsOk L) (okR : EvsOk L R) (h : sDat.at M H v d) (s : ShwD L R d B) (q : ∀ H', Same H H' → Q (.bl B) H') : sp_shows K C [.ref p, v] H Q E :=
  ⟨p, F, G, L, R, v, rfl, hP, okL, okR, RD.shows h s q⟩
theorem ok_law {P : Program} {w : World} {K : PySem.W.Frag} {mg : Str → Option Value} {base : Heap} (T : Txt P K mg) : FnG P w K mg base CX0 9 T.f_law T.fd_law ["_law_script"] (sp_law K) := by
  refine T.F_law.okG sc_law (fun vs H Q E h => ?_) (fun cdv A outer s H vs Q E hr hG h => ?_)
  · obtain ⟨_, _, rfl, _⟩ := h; rfl
  · obtain ⟨l, ns, rfl, hS, hlen, q⟩ := h
    refine ⟨_, PSs.nox (pss_cons (ps_for PassesOwn.never rfl (pi_range1 (by rfl) T.n_range (pa_cons (pe_callB (call_max2 rfl) (by rfl) T.n_max (by decide +kernel) (pa_cons pe_int (pa_cons (pe_callB (call_min2 rfl) (by rfl) T.n_min (by decide +kernel) (pa_cons pe_int (pa_cons (pe_callB (show CallR _ _ (rLenSeq K) from call_len_seq) (by rfl) T.n_len (by decide +kernel) (pa_cons (pv 0) pa_nil)) pa_nil))) pa_nil))) pa_nil)) (pg_name (i := 1) sc_law.nd rfl (Or.inl rfl)) (Evl.pss_cut (ps_set (i := 2) sc_law.nd rfl (Or.inl rfl) (pe_call (ok_l_bag T) (hr.mono (by decide)) (by rfl) T.g_l_bag T.F_l_bag.kp (b_l_bag T) .nil pass0 (pa_cons (pe_call (ok_l_cell T) (hr.mono (by decide)) (by rfl) T.g_l_cell T.F_l_cell.kp (b_l_cell T) .nil pass0 (pa_cons (pv 0) (pa_cons (pv 1) pa_nil))) pa_nil)))
      (Evl.pss_cut (ps_asg (pe_call (ok_l_parts T) (hr.mono (by decide)) (by rfl) T.g_l_parts T.F_l_parts.kp (b_l_parts T) .nil pass0 (pa_cons (pv 2) pa_nil)) (pg_tup rfl (pgs_cons (pg_name (i := 3) sc_law.nd rfl (Or.inl rfl)) (pgs_cons (pg_name (i := 4) sc_law.nd rfl (Or.inl rfl)) pgs_nil))))
      (Evl.pss_cut (ps_set (i := 5) sc_law.nd rfl (Or.inl rfl) (pe_makeS T.mk_Problem (ok_Problem_init T) (hr.mono (by decide)) (by rfl) T.g_Problem (b_Problem_init T) .nil passS0 (pa_cons (pv 3) (pa_cons (pv 4) pa_nil))))
      (Evl.pss_cut (ps_set (i := 6) sc_law.nd rfl (Or.inl rfl) (pe_call (ok_l_overlap T) (hr.mono (by decide)) (by rfl) T.g_l_overlap T.F_l_overlap.kp (b_l_overlap T) .nil pass0 (pa_cons (pv 3) (pa_cons (pv 4) pa_nil))))
      (Evl.pss_cut (ps_for PassesOwn.never rfl (pi_range1 (by rfl) T.n_range (pa_cons pe_int pa_nil)) (pg_name (i := 7) sc_law.nd rfl (Or.inl rfl)) (pss_one (ps_if (PW.pt (pw_or (pt_cmpR op_ne (pe_callB (show CallR _ _ (rReprD K) from call_reprD hG hr.units T.sm) (by rfl) T.n_repr (by decide +kernel) (pa_cons (pe_call (ok_find_overlap T) (hr.mono (by decide)) (by rfl) T.g_find_overlap T.F_find_overlap.kp (b_find_overlap T) .nil pass0 (pa_cons (pv 5) pa_nil)) pa_nil)) (pe_callB (show CallR _ _ (rReprD K) from call_reprD hG hr.units T.sm) (by rfl) T.n_repr (by decide +kernel) (pa_cons (pv 6) pa_nil)) (nomark _)) (pw_or1 (pt_cmpR op_ne (pe_callB (show CallR _ _ (rReprD K) from call_reprD hG hr.units T.sm) (by rfl) T.n_repr (by decide +kernel) (pa_cons (pe_call (ok_is_exclusive T) (hr.mono (by decide)) (by rfl) T.g_is_exclusive T.F_is_exclusive.kp (b_is_exclusive T) .nil pass0 (pa_cons (pv 5) pa_nil)) pa_nil)) (pe_callB (show CallR _ _ (rReprD K) from call_reprD hG hr.units T.sm) (by rfl) T.n_repr (by decide +kernel) (pa_cons (pe_cmpR op_isN (pv 6) pe_non (nomark _)) pa_nil)) (nomark _))))) (pss_one (ps_ret pe_bl)) pss_nil)))
      (Evl.pss_cut (ps_for PassesOwn.never rfl (pi_list (pe_call (ok_l_forged T) (hr.mono (by decide)) (by rfl) T.g_l_forged T.F_l_forged.kp (b_l_forged T) .nil pass0 (pa_cons (pv 2) (pa_cons (pv 3) (pa_cons (pv 4) (pa_cons (pv 6) pa_nil)))))) (pg_name (i := 8) sc_law.nd rfl (Or.inl rfl)) (pss_cons (ps_set (i := 9) sc_law.nd rfl (Or.inl rfl) (pe_callB (show CallR _ _ (rReprD K) from call_reprD hG hr.units T.sm) (by rfl) T.n_repr (by decide +kernel) (pa_cons (pv 8) pa_nil)))
      (pss_one (ps_if (PW.pt (pw_or (pt_cmpR op_ne (pe_callB (show CallR _ _ (rReprD K) from call_reprD hG hr.units T.sm) (by rfl) T.n_repr (by decide +kernel) (pa_cons (pe_call (ok_shows_overlap T) (hr.mono (by decide)) (by rfl) T.g_shows_overlap T.F_shows_overlap.kp (b_shows_overlap T) .nil pass0 (pa_cons (pv 5) (pa_cons (pv 8) pa_nil))) pa_nil)) (pe_callB (show CallR _ _ (rReprD K) from call_reprD hG hr.units T.sm) (by rfl) T.n_repr (by decide +kernel) (pa_cons (pe_call (ok_l_shows T) (hr.mono (by decide)) (by rfl) T.g_l_shows T.F_l_shows.kp (b_l_shows T) .nil pass0 (pa_cons (pv 3) (pa_cons (pv 4) (pa_cons (pv 8) pa_nil)))) pa_nil)) (nomark _)) (pw_or1 (pt_cmpR op_ne (pe_callB (show CallR _ _ (rReprD K) from call_reprD hG hr.units T.sm) (by rfl) T.n_repr (by decide +kernel) (pa_cons (pv 8) pa_nil)) (pv 9) (nomark _))))) (pss_one (ps_ret pe_bl)) pss_nil))))
      (Evl.pss_cut (ps_for PassesOwn.never rfl (pi_list (pe_lst (pa_cons pe_non (pa_cons (pe_lst pa_nil) (pa_cons pe_dnewK (pa_cons pe_str (pa_cons (pv 3) (pa_cons (pe_tup (pa_cons (pv 3) (pa_cons (pv 4) pa_nil))) (pa_cons pe_int (pa_cons pe_bl pa_nil)))))))))) (pg_name (i := 8) sc_law.nd rfl (Or.inl rfl)) (pss_one (ps_for PassesOwn.never rfl (pi_range1 (by rfl) T.n_range (pa_cons pe_int pa_nil)) (pg_name (i := 10) sc_law.nd rfl (Or.inl rfl)) (pss_one (ps_if (pt_cmpR op_ne (pe_callB (show CallR _ _ (rReprD K) from call_reprD hG hr.units T.sm) (by rfl) T.n_repr (by decide +kernel) (pa_cons (pe_call (ok_l_caught T) (hr.mono (by decide)) (by rfl) T.g_l_caught T.F_l_caught.kp (b_l_caught T) .nil pass0 (pa_cons (pv 10) (pa_cons (pv 8) pa_nil))) pa_nil)) (pe_callB (show CallR _ _ (rReprD K) from call_reprD hG hr.units T.sm) (by rfl) T.n_repr (by decide +kernel) (pa_cons (pe_lst (pa_cons pe_str (pa_cons (pv 8) pa_nil))) pa_nil)) (nomark _)) (pss_one (ps_ret pe_bl)) pss_nil)))))
      (Evl.pss_cut (ps_for PassesOwn.never rfl (pi_list (pe_lst (pa_cons (pe_makeS T.mk_Ratio (ok_Ratio_init T) (hr.mono (by decide)) (by rfl) T.g_Ratio (b_Ratio_init_1 T).choose_spec.2 (b_Ratio_init_1 T).choose_spec.1 passS0 (pa_cons pe_int pa_nil)) pa_nil))) (pg_name (i := 8) sc_law.nd rfl (Or.inl rfl)) (pss_cons (ps_for PassesOwn.never rfl (pi_range1 (by rfl) T.n_range (pa_cons pe_int pa_nil)) (pg_name (i := 10) sc_law.nd rfl (Or.inl rfl)) (pss_one (ps_if (pt_cmpR (show OpR _ (compareOp .NotEq) (rNeSm K) from op_neSm hr.units) (pe_call (ok_l_caught T) (hr.mono (by decide)) (by rfl) T.g_l_caught T.F_l_caught.kp (b_l_caught T) .nil pass0 (pa_cons (pv 10) (pa_cons (pv 8) pa_nil))) (pe_lst (pa_cons pe_str (pa_cons (pv 8) pa_nil))) (nomark _)) (pss_one (ps_ret pe_bl)) pss_nil)))
      (pss_one (ps_if (pt_cmpR op_ne (pe_callB (show CallR _ _ (rReprD K) from call_reprD hG hr.units T.sm) (by rfl) T.n_repr (by decide +kernel) (pa_cons (pe_call (ok_shows_overlap T) (hr.mono (by decide)) (by rfl) T.g_shows_overlap T.F_shows_overlap.kp (b_shows_overlap T) .nil pass0 (pa_cons (pv 5) (pa_cons (pv 8) pa_nil))) pa_nil)) pe_str (nomark _)) (pss_one (ps_ret pe_bl)) pss_nil))))
      (pss_one (ps_if (pt_cmpR (show OpR _ (compareOp .NotEq) (rNeX K T.C_Problem _ E0) from op_neX (ok_Problem_eq T) (hr.mono (by decide)) (b_Problem_eq T) pass0 T.ow_Problem.ne T.ow_Problem.ob T.m_Problem_eq.found T.m_Problem_eq.fn) (pv 5) (pe_makeS T.mk_Problem (ok_Problem_init T) (hr.mono (by decide)) (by rfl) T.g_Problem (b_Problem_init T) .nil passS0 (pa_cons (pv 3) (pa_cons (pv 4) pa_nil))) (nomark _)) (pss_one (ps_ret pe_bl)) pss_nil)))))))))))
      (pss_one (ps_ret pe_bl))), ?_⟩
    refine ⟨_, rfl, l, _, rfl, .inl hS, _, _, rfl, _, _, rfl, _, rfl, ?_, ?_, for_it walk_range (fun i σ H' => Same H H' ∧ ∃ x1 x2 x3 x4 x5 x6 x7 x8 x9 x10 : Option V, σ = [some (.ref l), x1, x2, x3, x4, x5, x6, x7, x8, x9, x10]) ⟨Same.refl H, _, _, _, _, _, _, _, _, _, _, rfl⟩ (fun _ _ _ _ _ => trivial) (fun i x σ H' H'' hi' pp yy => ?_) fun σ H' pp => ?_⟩
    · split <;> omega
    · rw [List.length_map]; split <;> split <;> omega
    rotate_left
    · obtain ⟨S0, x1, x2, x3, x4, x5, x6, x7, x8, x9, x10, rfl⟩ := pp
      exact q _
    obtain ⟨S0, x1, x2, x3, x4, x5, x6, x7, x8, x9, x10, rfl⟩ := pp
    obtain ⟨rfl, rfl⟩ := yy
    refine ⟨fun σ G => ∃ b : Addr, σ = [some (.ref l), some (.int (0 + (i : Int))), some (.ref b), x3, x4, x5, x6, x7, x8, x9, x10] ∧ Same H G ∧ H b = none ∧ Bag G b 0, ?_, ?_⟩
    --[[
    · refine ⟨_, rfl, _, rfl, l, ns, _, rfl, (Kp.at fun o e => S0 l o e).1 _ hS, by omega, fun cv => ?_⟩
      refine ⟨_, rfl, fun b H1 s1 nb hB => ?_⟩
      exact ⟨b, rfl, S0.trans s1, Same.none S0 nb, hB⟩
    --]]
    rintro σ G ⟨b, rfl, S1, nbH, hB⟩
    have bst : ∀ {G G' : Hp}, Same H G → Stp [b] G G' → Same H G' := fun {G G'} z st a o e => st.at (z a o e) fun m => ne_of_none e nbH (List.mem_singleton.mp m)
    have mb : b ∈ [b] := List.mem_singleton.mpr rfl
    have albag : ∀ {G : Hp} {n : Nat}, Bag G b n → Alv [b] G := fun {G n} z => Alv.cons z.some.choose_spec Alv.nil
    refine ⟨fun σ G => ∃ (v1 v2 : V) (L : List (Str × Int)) (R : List Row), σ = [some (.ref l), some (.int (0 + (i : Int))), some (.ref b), some v1, some v2, x5, x6, x7, x8, x9, x10] ∧ Same H G ∧ Bag G b 900 ∧ (sL sVar).at [b] G v1 L ∧ (sL sRow).at [b] G v2 R ∧ VarsOk L ∧ EvsOk L R, ?_, ?_⟩
    --[[
    · repeat (first | refine ⟨_, rfl, ?_⟩ | refine ⟨_, _, rfl, rfl, ?_⟩ | refine ⟨_, _, rfl, ?_⟩ | refine ⟨rfl, ?_⟩)
      refine ⟨b, 0, rfl, hB, by omega, fun p D r xs ys L R H2 f2 hp2 nD nr hD pdL hr' pdR okL okR b2 => ?_⟩
      refine ⟨p, _, rfl, .inl (.inl hp2), rfl, _, _, rfl, _, _, rfl, rfl, ?_⟩
      exact ⟨.ref D, .ref r, L, R, rfl, bst S1 (f2.stp b2.some), b2.mono (by omega), vars_to nD.2 hD pdL, rows_to nr.2 hr' pdR, okL, okR⟩
    --]]
    rintro σ G ⟨v1, v2, L, R, rfl, S2, b3, hV, hE, okL, okR⟩
    refine ⟨fun σ G => ∃ (p : Addr), σ = [some (.ref l), some (.int (0 + (i : Int))), some (.ref b), some v1, some v2, some (.ref p), x6, x7, x8, x9, x10] ∧ Same H G ∧ Bag G b 900 ∧ (sL sVar).at [b] G v1 L ∧ (sL sRow).at [b] G v2 R ∧ (sProb T.C_Problem).at [b] G (.ref p) (L, R), ?_, ?_⟩
    --[[
    · repeat (first | refine ⟨_, rfl, ?_⟩ | refine ⟨_, _, rfl, rfl, ?_⟩ | refine ⟨_, _, rfl, ?_⟩ | refine ⟨rfl, ?_⟩)
      have alb : AlvL [b] G := by
        obtain ⟨x, y, z, e, _⟩ := id b3
        exact AlvL.cons e AlvL.nil
      refine mkPs (M := [b]) alb (Sh.sq hV) okL (Sh.rowsQ hE) okR fun p H4 s4 np hP => ?_
      have s4' : Stp [] G H4 := Stp.of_same s4
      repeat (first | refine ⟨_, rfl, ?_⟩ | refine ⟨_, _, rfl, rfl, ?_⟩ | refine ⟨_, _, rfl, ?_⟩ | refine ⟨rfl, ?_⟩)
      exact ⟨S2.trans s4, b3.same s4, Sh.go hV s4' Sb.nil Sb.refl, Sh.go hE s4' Sb.nil Sb.refl, hP⟩
    --]]
    clear hV hE b3 S2
    rintro σ G ⟨p, rfl, S2, b3, hV, hE, hP⟩
    obtain ⟨S, pS⟩ : ∃ S : List Row, Paired SrtR R S := by
      obtain ⟨p', e, h⟩ := id hP
      exact h.srt
    have okO : ∀ x y ns, ovl L S = some (x, y, ns) → NameOk x ∧ NameOk y ∧ ns.length = L.length ∧ ∀ i ∈ ns, 0 ≤ i ∧ i < 100000 := fun x y ns e => ovl_ok (srt_ok okL okR pS) e
    obtain ⟨o, eo⟩ : ∃ o, ovl L S = o := ⟨_, rfl⟩
    rw [eo] at okO
    refine ⟨fun σ G => ∃ (f : V), σ = [some (.ref l), some (.int (0 + (i : Int))), some (.ref b), some v1, some v2, some (.ref p), some f, x7, x8, x9, x10] ∧ Same H G ∧ Bag G b 900 ∧ (sL sVar).at [b] G v1 L ∧ (sL sRow).at [b] G v2 R ∧ (sProb T.C_Problem).at [b] G (.ref p) (L, R) ∧ (sO (s3 sStr sStr (sT sInt))).at [b] G f o, ?_, ?_⟩
    --[[
    · repeat (first | refine ⟨_, rfl, ?_⟩ | refine ⟨_, _, rfl, rfl, ?_⟩ | refine ⟨_, _, rfl, ?_⟩ | refine ⟨rfl, ?_⟩)
      refine ⟨v1, v2, L, R, S, rfl, Sh.all hV, Sh.all hE, okL, okR, pS, fun G' s' => ⟨fun en => ?_, fun x y ns t u en nt nu hu ht => ?_⟩⟩
      · have st : Stp [] G G' := Stp.of_same s'
        repeat (first | refine ⟨_, rfl, ?_⟩ | refine ⟨_, _, rfl, rfl, ?_⟩ | refine ⟨_, _, rfl, ?_⟩ | refine ⟨rfl, ?_⟩)
        exact ⟨S2.trans s', b3.same s', Sh.go hV st Sb.nil Sb.refl, Sh.go hE st Sb.nil Sb.refl, Sh.go hP st Sb.nil Sb.refl, .inl ⟨by rw [← eo]; exact en, rfl⟩⟩
      · have st : Stp [] G G' := Stp.of_same s'
        repeat (first | refine ⟨_, rfl, ?_⟩ | refine ⟨_, _, rfl, rfl, ?_⟩ | refine ⟨_, _, rfl, ?_⟩ | refine ⟨rfl, ?_⟩)
        refine ⟨S2.trans s', b3.same s', Sh.go hV st Sb.nil Sb.refl, Sh.go hE st Sb.nil Sb.refl, Sh.go hP st Sb.nil Sb.refl, .inr ⟨(x, y, ns), by rw [← eo]; exact en, t, .str x, .str y, .ref u, rfl, (albag b3).off nt, ht, rfl, rfl, u, _, rfl, (albag b3).off nu, hu, pd_ints⟩⟩
    --]]
    clear hV hE hP b3 S2
    rintro σ G ⟨f, rfl, S2, b3, hV, hE, hP, hF⟩
    obtain ⟨p', ep, hPi⟩ := id hP
    cases ep
    refine ⟨fun σ G' => ∃ x7, σ = [some (.ref l), some (.int (0 + (i : Int))), some (.ref b), some v1, some v2, some (.ref p), some f, x7, x8, x9, x10] ∧ Same G G', ?_, ?_⟩
    · repeat (first | refine ⟨_, rfl, ?_⟩ | refine ⟨_, _, rfl, rfl, ?_⟩ | refine ⟨_, _, rfl, ?_⟩ | refine ⟨rfl, ?_⟩)
      refine ⟨by decide, by decide, for_it walk_range (fun k σ G' => ∃ x7, σ = [some (.ref l), some (.int (0 + (i : Int))), some (.ref b), some v1, some v2, some (.ref p), some f, x7, x8, x9, x10] ∧ Same G G') ⟨_, rfl, Same.refl _⟩ (fun _ _ _ _ _ => trivial) (fun k x σ G1 G2 hk pp yy => ?_) fun σ G1 pp => ?_⟩
      rotate_left
      · obtain ⟨x7, rfl, s1⟩ := pp
        exact ⟨_, rfl, s1⟩
      obtain ⟨x7, rfl, s1⟩ := pp
      obtain ⟨rfl, rfl⟩ := yy
      (repeat (refine ⟨_, rfl, ?_⟩))
      refine ⟨p, _, _, L, R, S, rfl, hPi.same s1, okL, okR, pS, fun G3 s3 => ?_⟩
      have s13 := s1.trans s3
      cases o with
      | none =>
        obtain ⟨_, rfl⟩ | ⟨_, e, _⟩ := hF
        rotate_left
        · cases e
        have hfd : ∀ G', Same G G' → Dx K G' V.non .none := fun _ _ => .non
        obtain ⟨d0, ed0⟩ : ∃ d0, d0 = PyData.none := ⟨_, rfl⟩
        rw [← ed0] at hfd
        have fd : Fine d0 := by rw [ed0]; exact okd_none.fine (by decide) (by decide)
        refine ⟨fun en => ?_, fun x y ns t u en => by rw [eo] at en; cases en⟩
        have hw : Dx K G3 V.non d0 := hfd G3 s13
        have hd := hfd G3 s13
        (repeat (refine ⟨_, rfl, ?_⟩))
        refine ⟨_, d0, rfl, hw, fd, ?_⟩
        generalize hsh : PyData.shown d0 = tx
        (repeat (refine ⟨_, rfl, ?_⟩))
        refine ⟨_, d0, rfl, hd, fd, ?_⟩
        rw [hsh]
        refine ⟨rfl, _, rfl, ?_⟩
        rw [decide_eq_true rfl]
        refine ite2 (fun z => by simp at z) (fun _ => ?_)
        (repeat (refine ⟨_, rfl, ?_⟩))
        refine ⟨p, _, _, L, R, S, rfl, hPi.same s13, okL, okR, pS, fun G4 s4 => ?_⟩
        have s14 := s13.trans s4
        (repeat (refine ⟨_, rfl, ?_⟩))
        refine ⟨_, .bool (ovl L S).isNone, rfl, .bl _, (okd_bool _).fine (by decide) (by decide), ?_⟩
        rw [eo]
        rw [show Option.isNone (none : Option (Str × Str × List Int)) = true from rfl]
        generalize hsh2 : PyData.shown (.bool true) = t2
        (repeat (refine ⟨_, rfl, ?_⟩))
        refine ⟨rfl, ?_⟩
        rw [decide_eq_true (show V.non = V.non from rfl)]
        refine ⟨_, .bool true, rfl, .bl true, (okd_bool true).fine (by decide) (by decide), ?_⟩
        rw [hsh2]
        refine ⟨rfl, _, rfl, ?_⟩
        rw [decide_eq_true rfl]
        refine ite2 (fun z => by simp at z) (fun _ => ?_)
        exact ⟨_, rfl, s14⟩
      | some o =>
        obtain ⟨e, _⟩ | ⟨o', e, hF⟩ := hF
        · cases e
        cases e
        obtain ⟨x0, y0, ns0⟩ := o
        obtain ⟨ft, _, _, _, rfl, -, hft, rfl, rfl, hft2⟩ := hF
        obtain ⟨fu, rfl, -, hfu⟩ := Sh.tints hft2
        have fd0 : OkD 60000 3 (ovD (x0, y0, ns0)) := okd_ov okL (okO x0 y0 ns0 rfl)
        have hfd : ∀ G', Same G G' → Dx K G' (V.ref ft) (ovD (x0, y0, ns0)) := fun G' s => .tup (.inl (.inl (s _ _ hft))) (.cons (.str _) (.cons (.str _) (.cons (RD.dx (rd_ints (M := []) ⟨fu, _, rfl, by simp, s _ _ hfu, pd_ints⟩)) .nil)))
        have hwd : ∀ (t u : Addr) (G' : Hp), G' u = some (.tup (ns0.map V.int)) → G' t = some (.tup [.str x0, .str y0, .ref u]) → Dx K G' (V.ref t) (ovD (x0, y0, ns0)) := fun t u G' h1 h2 => .tup (.inl (.inl h2)) (.cons (.str _) (.cons (.str _) (.cons (RD.dx (rd_ints (M := []) ⟨u, _, rfl, by simp, h1, pd_ints⟩)) .nil)))
        obtain ⟨d0, ed0⟩ : ∃ d0, d0 = ovD (x0, y0, ns0) := ⟨_, rfl⟩
        rw [← ed0] at hfd hwd fd0
        have fd : Fine d0 := fd0.fine (by decide) (by decide)
        refine ⟨fun en => (by rw [eo] at en; cases en), fun x y ns t u en nt nu hu ht => ?_⟩
        rw [eo] at en
        cases en
        have hw : Dx K G3 (V.ref t) d0 := hwd t u G3 hu ht
        have hd := hfd G3 s13
        (repeat (refine ⟨_, rfl, ?_⟩))
        refine ⟨_, d0, rfl, hw, fd, ?_⟩
        generalize hsh : PyData.shown d0 = tx
        (repeat (refine ⟨_, rfl, ?_⟩))
        refine ⟨_, d0, rfl, hd, fd, ?_⟩
        rw [hsh]
        refine ⟨rfl, _, rfl, ?_⟩
        rw [decide_eq_true rfl]
        refine ite2 (fun z => by simp at z) (fun _ => ?_)
        (repeat (refine ⟨_, rfl, ?_⟩))
        refine ⟨p, _, _, L, R, S, rfl, hPi.same s13, okL, okR, pS, fun G4 s4 => ?_⟩
        have s14 := s13.trans s4
        (repeat (refine ⟨_, rfl, ?_⟩))
        refine ⟨_, .bool (ovl L S).isNone, rfl, .bl _, (okd_bool _).fine (by decide) (by decide), ?_⟩
        rw [eo]
        rw [show Option.isNone (some (x0, y0, ns0)) = false from rfl]
        generalize hsh2 : PyData.shown (.bool false) = t2
        (repeat (refine ⟨_, rfl, ?_⟩))
        refine ⟨rfl, ?_⟩
        rw [decide_eq_false (show ¬ V.ref ft = V.non from fun e => nomatch e)]
        refine ⟨_, .bool false, rfl, .bl false, (okd_bool false).fine (by decide) (by decide), ?_⟩
        rw [hsh2]
        refine ⟨rfl, _, rfl, ?_⟩
        rw [decide_eq_true rfl]
        refine ite2 (fun z => by simp at z) (fun _ => ?_)
        exact ⟨_, rfl, s14⟩
    rintro σ G5 ⟨x7, rfl, s5⟩
    have st5 : Stp [] G G5 := Stp.of_same s5
    replace hV := Sh.go hV st5 Sb.nil Sb.refl
    replace hE := Sh.go hE st5 Sb.nil Sb.refl
    replace hF := Sh.go hF st5 Sb.nil Sb.refl
    replace hP := Sh.go hP st5 Sb.nil Sb.refl
    replace b3 := b3.same s5
    replace S2 := S2.trans s5
    clear hPi st5 s5
    refine ⟨fun σ G => ∃ x8 x9, σ = [some (.ref l), some (.int (0 + (i : Int))), some (.ref b), some v1, some v2, some (.ref p), some f, x7, x8, x9, x10] ∧ Same H G ∧ Bag G b 904 ∧ (sL sVar).at [b] G v1 L ∧ (sL sRow).at [b] G v2 R ∧ (sProb T.C_Problem).at [b] G (.ref p) (L, R), ?_, ?_⟩
    · repeat (first | refine ⟨_, rfl, ?_⟩ | refine ⟨_, _, rfl, rfl, ?_⟩ | refine ⟨_, _, rfl, ?_⟩ | refine ⟨rfl, ?_⟩)
      refine ⟨[b], b, _, v1, v2, f, L, R, o, rfl, mb, albag b3, b3, by omega, hV, hE, okL, okR, hF, okO, fun w ds G1 st1 b4 hw l40 okd => ?_⟩
      obtain ⟨W, vs, rfl, nW, hW, rW⟩ := rd_inv_l hw
      have hV1 := Sh.go hV st1 (Sb.one mb) Sb.refl
      have hE1 := Sh.go hE st1 (Sb.one mb) Sb.refl
      have hP1 := Sh.go hP st1 (Sb.one mb) Sb.refl
      have S3 := bst S2 st1
      refine ⟨W, rfl, ⟨_, SqL.of hW⟩, for_it (walk_list (K := K) (a := W) (xs := vs)) (fun k σ G => ∃ x8 x9, σ = [some (.ref l), some (.int (0 + (i : Int))), some (.ref b), some v1, some v2, some (.ref p), some f, x7, x8, x9, x10] ∧ Same G1 G) ⟨_, _, rfl, Same.refl _⟩ (fun k σ G _ ⟨_, _, _, k⟩ => SqL.of (k _ _ hW)) ?_ ?_⟩
      rotate_left
      · rintro σ G' ⟨x8, x9, rfl, s'⟩
        have st : Stp [] G1 G' := Stp.of_same s'
        exact ⟨x8, x9, rfl, S3.trans s', b4.same s', Sh.go hV1 st Sb.nil Sb.refl, Sh.go hE1 st Sb.nil Sb.refl, Sh.go hP1 st Sb.nil Sb.refl⟩
      rintro k x σ Hx G2 hk ⟨x8, x9, rfl, s2⟩ ⟨rfl, hx⟩
      obtain ⟨d, hd, rd⟩ := rW.get hx
      obtain ⟨od, B, hB⟩ := okd d (List.mem_of_getElem? hd)
      have fd := od.fine (by decide) (by decide)
      have rd2 : sDat.at [b] G2 x d := rd_same rd s2
      obtain ⟨p', ep, hPi⟩ := id hP1
      cases ep
      (repeat (refine ⟨_, rfl, ?_⟩))
      refine ⟨x, d, rfl, RD.dx rd2, fd, ?_⟩
      generalize hsh : PyData.shown d = tx
      (repeat (refine ⟨_, rfl, ?_⟩))
      dsimp only [tNil]
      refine shows_ask (hPi.same s2) okL okR rd2 hB fun G3 s3 => ?_
      have s13 := s2.trans s3
      have st3 : Stp [] G1 G3 := Stp.of_same s13
      (repeat (refine ⟨_, rfl, ?_⟩))
      refine ⟨_, .bool B, rfl, .bl B, (okd_bool B).fine (by decide) (by decide), ?_⟩
      generalize hb : PyData.shown (.bool B) = tb
      (repeat (refine ⟨_, rfl, ?_⟩))
      refine ⟨v1, v2, x, L, R, d, B, rfl, Sh.all (Sh.go hV1 st3 Sb.nil Sb.refl), Sh.all (Sh.go hE1 st3 Sb.nil Sb.refl), okL, okR, Sh.all (rd_same rd2 s3), hB, fun G4 s4 => ?_⟩
      have s14 := s13.trans s4
      (repeat (refine ⟨_, rfl, ?_⟩))
      refine ⟨_, .bool B, rfl, .bl B, (okd_bool B).fine (by decide) (by decide), ?_⟩
      rw [hb]
      refine ⟨rfl, _, rfl, ?_⟩
      rw [decide_eq_true rfl]
      refine ite2 (fun z => by simp at z) (fun _ => ?_)
      (repeat (refine ⟨_, rfl, ?_⟩))
      refine ⟨x, d, rfl, RD.dx (rd_same rd2 (s3.trans s4)), fd, ?_⟩
      rw [hsh]
      (repeat (refine ⟨_, rfl, ?_⟩))
      refine ⟨rfl, _, rfl, ?_⟩
      rw [decide_eq_true rfl]
      refine ite2 (fun z => by simp at z) (fun _ => ?_)
      exact ⟨_, _, rfl, s14⟩
    clear hV hE hP b3 S2
    rintro σ G ⟨x8, x9, rfl, S2, b3, hV, hE, hP⟩
    refine ⟨fun σ G => ∃ x8 x10, σ = [some (.ref l), some (.int (0 + (i : Int))), some (.ref b), some v1, some v2, some (.ref p), some f, x7, x8, x9, x10] ∧ Same H G ∧ Bag G b 904 ∧ (sL sVar).at [b] G v1 L ∧ (sL sRow).at [b] G v2 R ∧ (sProb T.C_Problem).at [b] G (.ref p) (L, R), ?_, ?_⟩
    · have stx : Stp [] G G := Stp.refl
      have al1 := albag b3
      repeat (first | refine ⟨_, rfl, ?_⟩ | refine ⟨_, _, rfl, rfl, ?_⟩ | refine ⟨_, _, rfl, ?_⟩ | refine ⟨rfl, ?_⟩)
      refine ⟨lenk 0 rfl (by decide), fun e1 n1 => ?_⟩
      have nb_e1 := Ne.symm (b3.ne n1)
      have r1 : sDat.at [b] (upd G e1 (.lst [])) (.ref e1) (.list []) := rd_new_l al1 n1 .nil
      replace hV := Sh.go hV (Stp.new (m := []) (o := .lst []) n1) (by first | exact Sb.nil | exact Sb.refl | exact Sb.one (by simp [*])) Sb.refl
      replace hE := Sh.go hE (Stp.new (m := []) (o := .lst []) n1) (by first | exact Sb.nil | exact Sb.refl | exact Sb.one (by simp [*])) Sb.refl
      replace hP := Sh.go hP (Stp.new (m := []) (o := .lst []) n1) (by first | exact Sb.nil | exact Sb.refl | exact Sb.one (by simp [*])) Sb.refl
      replace stx := Stp.trans stx (Stp.new (o := .lst []) n1)
      replace b3 := Bag.upd (o := .lst []) b3 (b3.ne n1)
      replace al1 := Alv.go al1 (Stp.new (m := []) (o := .lst []) n1)
      have h_e1 : upd G e1 (.lst []) e1 = some (.lst []) := upd_same
      generalize upd G e1 (.lst []) = G1 at r1 hV hE hP stx b3 al1 h_e1
      repeat (first | refine ⟨_, rfl, ?_⟩ | refine ⟨_, _, rfl, rfl, ?_⟩ | refine ⟨_, _, rfl, ?_⟩ | refine ⟨rfl, ?_⟩)
      intro e2 n2
      have nb_e2 := Ne.symm (b3.ne n2)
      have r2 : sDat.at [b] (upd G1 e2 (.dK [])) (.ref e2) (.dict []) := RD.dic (al1.off n2) upd_same
      replace hV := Sh.go hV (Stp.new (m := []) (o := .dK []) n2) (by first | exact Sb.nil | exact Sb.refl | exact Sb.one (by simp [*])) Sb.refl
      replace hE := Sh.go hE (Stp.new (m := []) (o := .dK []) n2) (by first | exact Sb.nil | exact Sb.refl | exact Sb.one (by simp [*])) Sb.refl
      replace hP := Sh.go hP (Stp.new (m := []) (o := .dK []) n2) (by first | exact Sb.nil | exact Sb.refl | exact Sb.one (by simp [*])) Sb.refl
      replace r1 := Sh.go r1 (Stp.new (m := []) (o := .dK []) n2) (by first | exact Sb.nil | exact Sb.refl | exact Sb.one (by simp [*])) Sb.refl
      replace stx := Stp.trans stx (Stp.new (o := .dK []) n2)
      replace b3 := Bag.upd (o := .dK []) b3 (b3.ne n2)
      replace al1 := Alv.go al1 (Stp.new (m := []) (o := .dK []) n2)
      have h_e2 : upd G1 e2 (.dK []) e2 = some (.dK []) := upd_same
      generalize upd G1 e2 (.dK []) = G2 at r2 hV hE hP r1 stx b3 al1 h_e2
      repeat (first | refine ⟨_, rfl, ?_⟩ | refine ⟨_, _, rfl, rfl, ?_⟩ | refine ⟨_, _, rfl, ?_⟩ | refine ⟨rfl, ?_⟩)
      refine ⟨lenk 2 rfl (by decide), fun e3 n3 => ?_⟩
      have nb_e3 := Ne.symm (b3.ne n3)
      have r3 : sDat.at [b] (upd G2 e3 (.tup [v1, v2])) (.ref e3) (.tuple [.list (L.map pairD), .list (R.map rowD)]) := rd_new_t al1 n3 (.cons (rd_vars hV) (.cons (rd_rows hE) .nil))
      replace hV := Sh.go hV (Stp.new (m := []) (o := .tup [v1, v2]) n3) (by first | exact Sb.nil | exact Sb.refl | exact Sb.one (by simp [*])) Sb.refl
      replace hE := Sh.go hE (Stp.new (m := []) (o := .tup [v1, v2]) n3) (by first | exact Sb.nil | exact Sb.refl | exact Sb.one (by simp [*])) Sb.refl
      replace hP := Sh.go hP (Stp.new (m := []) (o := .tup [v1, v2]) n3) (by first | exact Sb.nil | exact Sb.refl | exact Sb.one (by simp [*])) Sb.refl
      replace r1 := Sh.go r1 (Stp.new (m := []) (o := .tup [v1, v2]) n3) (by first | exact Sb.nil | exact Sb.refl | exact Sb.one (by simp [*])) Sb.refl
      replace r2 := Sh.go r2 (Stp.new (m := []) (o := .tup [v1, v2]) n3) (by first | exact Sb.nil | exact Sb.refl | exact Sb.one (by simp [*])) Sb.refl
      replace stx := Stp.trans stx (Stp.new (o := .tup [v1, v2]) n3)
      replace b3 := Bag.upd (o := .tup [v1, v2]) b3 (b3.ne n3)
      replace al1 := Alv.go al1 (Stp.new (m := []) (o := .tup [v1, v2]) n3)
      have h_e3 : upd G2 e3 (.tup [v1, v2]) e3 = some (.tup [v1, v2]) := upd_same
      generalize upd G2 e3 (.tup [v1, v2]) = G3 at r3 hV hE hP r1 r2 stx b3 al1 h_e3
      repeat (first | refine ⟨_, rfl, ?_⟩ | refine ⟨_, _, rfl, rfl, ?_⟩ | refine ⟨_, _, rfl, ?_⟩ | refine ⟨rfl, ?_⟩)
      refine ⟨lenk 8 rfl (by decide), fun W nW => ?_⟩
      have nb_W := Ne.symm (b3.ne nW)
      have r4 : sDat.at [b] (upd G3 W (.lst [.non, .ref e1, .ref e2, .str (Str.ofString "problem"), v1, .ref e3, .int 0, .bl true])) (.ref W) (.list [.none, .list [], .dict [], .str (Str.ofString "problem"), .list (L.map pairD), .tuple [.list (L.map pairD), .list (R.map rowD)], .int 0, .bool true]) := rd_new_l al1 nW (.cons .non (.cons r1 (.cons r2 (.cons (.str _) (.cons (rd_vars hV) (.cons r3 (.cons (.int 0) (.cons (.bl true) .nil))))))))
      replace hV := Sh.go hV (Stp.new (m := []) (o := .lst [.non, .ref e1, .ref e2, .str (Str.ofString "problem"), v1, .ref e3, .int 0, .bl true]) nW) (by first | exact Sb.nil | exact Sb.refl | exact Sb.one (by simp [*])) Sb.refl
      replace hE := Sh.go hE (Stp.new (m := []) (o := .lst [.non, .ref e1, .ref e2, .str (Str.ofString "problem"), v1, .ref e3, .int 0, .bl true]) nW) (by first | exact Sb.nil | exact Sb.refl | exact Sb.one (by simp [*])) Sb.refl
      replace hP := Sh.go hP (Stp.new (m := []) (o := .lst [.non, .ref e1, .ref e2, .str (Str.ofString "problem"), v1, .ref e3, .int 0, .bl true]) nW) (by first | exact Sb.nil | exact Sb.refl | exact Sb.one (by simp [*])) Sb.refl
      replace stx := Stp.trans stx (Stp.new (o := .lst [.non, .ref e1, .ref e2, .str (Str.ofString "problem"), v1, .ref e3, .int 0, .bl true]) nW)
      replace b3 := Bag.upd (o := .lst [.non, .ref e1, .ref e2, .str (Str.ofString "problem"), v1, .ref e3, .int 0, .bl true]) b3 (b3.ne nW)
      replace al1 := Alv.go al1 (Stp.new (m := []) (o := .lst [.non, .ref e1, .ref e2, .str (Str.ofString "problem"), v1, .ref e3, .int 0, .bl true]) nW)
      have h_W : upd G3 W (.lst [.non, .ref e1, .ref e2, .str (Str.ofString "problem"), v1, .ref e3, .int 0, .bl true]) W = some (.lst [.non, .ref e1, .ref e2, .str (Str.ofString "problem"), v1, .ref e3, .int 0, .bl true]) := upd_same
      generalize upd G3 W (.lst [.non, .ref e1, .ref e2, .str (Str.ofString "problem"), v1, .ref e3, .int 0, .bl true]) = G4 at r4 hV hE hP stx b3 al1 h_W
      clear r1 r2 r3
      have S3 := S2.trans stx.same
      obtain ⟨_, vs, eW, nWb, hW, rW⟩ := rd_inv_l r4
      cases eW
      rw [h_W] at hW
      cases hW
      have okW : ∀ d ∈ ([.none, .list [], .dict [], .str (Str.ofString "problem"), .list (L.map pairD), .tuple [.list (L.map pairD), .list (R.map rowD)], .int 0, .bool true] : List PyData), OkD 2000000 10 d := by
        have o1 := (okd_vars okL).mono (B' := 600000) (k' := 9) (by decide) (by decide)
        have o2 := (okd_rows okL okR).mono (B' := 600000) (k' := 9) (by decide) (by decide)
        refine allC (okd_none.mono (by decide) (by decide)) (allC ((okd_list (B := 0) (k := 0) (m := 0) all0 (Nat.le_refl _)).mono (by decide) (by decide)) (allC ⟨rfl, by decide, by decide⟩ (allC ((okd_str (n := 7) (cpOk_of _) (by decide)).mono (by decide) (by decide)) (allC (o1.mono (by decide) (by decide)) (allC ((okd_tuple (B := 600000) (k := 9) (m := 2) (allC o1 (all1 o2)) (Nat.le_refl _)).mono (by decide) (by decide)) (allC ((okd_int (i := 0) (by decide +kernel)).mono (by decide) (by decide)) (all1 ((okd_bool true).mono (by decide) (by decide)))))))))
      refine ⟨W, rfl, ⟨_, SqL.of h_W⟩, for_it (walk_list (K := K) (a := W) (xs := [.non, .ref e1, .ref e2, .str (Str.ofString "problem"), v1, .ref e3, .int 0, .bl true])) (fun k σ G => ∃ x8 x10, σ = [some (.ref l), some (.int (0 + (i : Int))), some (.ref b), some v1, some v2, some (.ref p), some f, x7, x8, x9, x10] ∧ Same G4 G) ⟨_, _, rfl, Same.refl _⟩ (fun k σ G _ ⟨_, _, _, k⟩ => SqL.of (k _ _ h_W)) ?_ ?_⟩
      rotate_left
      · rintro σ G' ⟨x8, x10, rfl, s'⟩
        have st : Stp [] G4 G' := Stp.of_same s'
        exact ⟨x8, x10, rfl, S3.trans s', b3.same s', Sh.go hV st Sb.nil Sb.refl, Sh.go hE st Sb.nil Sb.refl, Sh.go hP st Sb.nil Sb.refl⟩
      rintro k x σ Hx G5 hk ⟨x8, x10, rfl, s5⟩ ⟨rfl, hx⟩
      obtain ⟨d, hd, rd⟩ := rW.get hx
      have od := okW d (List.mem_of_getElem? hd)
      have fp := fine_pr od
      (repeat (refine ⟨_, rfl, ?_⟩))
      refine ⟨by decide, by decide, for_it walk_range (fun j σ G => ∃ x10, σ = [some (.ref l), some (.int (0 + (i : Int))), some (.ref b), some v1, some v2, some (.ref p), some f, x7, some x, x9, x10] ∧ Same G4 G) ⟨_, rfl, s5⟩ (fun _ _ _ _ _ => trivial) (fun j y σ G1 G2 hj pp yy => ?_) fun σ G1 pp => ?_⟩
      rotate_left
      · obtain ⟨x10, rfl, s1⟩ := pp
        exact ⟨_, _, rfl, s1⟩
      obtain ⟨x10, rfl, s6⟩ := pp
      obtain ⟨rfl, rfl⟩ := yy
      have hj3 : j < 3 := hj
      have rd6 : sDat.at [b] _ x d := rd_same rd s6
      (repeat (refine ⟨_, rfl, ?_⟩))
      refine ⟨0 + (j : Int), x, rfl, by omega, ⟨_, RD.ty rd6, T.ow_Problem.fr (kindD d) (kind_mem d)⟩, fun t G7 s7 nt ht => ?_⟩
      (repeat (refine ⟨_, rfl, ?_⟩))
      refine ⟨.ref t, prD d, rfl, .lst (SqL.of ht) (.cons (.str _) (.cons (RD.dx (rd_same rd6 s7)) .nil)), fp, ?_⟩
      generalize hsh : PyData.shown (prD d) = tx
      (repeat (refine ⟨_, rfl, ?_⟩))
      refine ⟨lenk 2 rfl (by decide), fun t2 nt2 => ?_⟩
      have s8 : Same G7 (upd G7 t2 (.lst [.str (Str.ofString "problem"), x])) := Same.new nt2
      have h8 : upd G7 t2 (.lst [.str (Str.ofString "problem"), x]) t2 = some (.lst [.str (Str.ofString "problem"), x]) := upd_same
      generalize upd G7 t2 (.lst [.str (Str.ofString "problem"), x]) = G8 at s8 h8
      (repeat (refine ⟨_, rfl, ?_⟩))
      refine ⟨.ref t2, prD d, rfl, .lst (SqL.of h8) (.cons (.str _) (.cons (RD.dx (rd_same rd6 (s7.trans s8))) .nil)), fp, ?_⟩
      rw [hsh]
      refine ⟨rfl, _, rfl, ?_⟩
      rw [decide_eq_true rfl]
      refine ite2 (fun z => by simp at z) (fun _ => ?_)
      exact ⟨_, rfl, s6.trans (s7.trans s8)⟩
    clear hV hE hP b3 S2
    rintro σ G ⟨x8, x10, rfl, S2, b3, hV, hE, hP⟩
    refine ⟨fun σ G => ∃ x8 x10, σ = [some (.ref l), some (.int (0 + (i : Int))), some (.ref b), some v1, some v2, some (.ref p), some f, x7, x8, x9, x10] ∧ Same H G ∧ Bag G b 904 ∧ (sL sVar).at [b] G v1 L ∧ (sL sRow).at [b] G v2 R ∧ (sProb T.C_Problem).at [b] G (.ref p) (L, R), ?_, ?_⟩
    · repeat (first | refine ⟨_, rfl, ?_⟩ | refine ⟨_, _, rfl, rfl, ?_⟩ | refine ⟨_, _, rfl, ?_⟩ | refine ⟨rfl, ?_⟩)
      intro x dx nx ndx ne
      refine ⟨x, dx, rfl, upd_same, fun fs => ⟨rfl, ?_⟩⟩
      have twice : upd (upd (upd G dx (.own x)) x (.ins T.C_Ratio dx [])) x (.ins T.C_Ratio dx fs) = upd (upd G dx (.own x)) x (.ins T.C_Ratio dx fs) := by
        funext b
        by_cases hb : b = x
        · rw [hb, upd_same, upd_same]
        · rw [upd_ne hb, upd_ne hb, upd_ne hb]
      rw [twice]
      have s1 : Same G (upd (upd G dx (.own x)) x (.ins T.C_Ratio dx fs)) := Same.upd_p (Same.new ndx) nx
      have hx : upd (upd G dx (.own x)) x (.ins T.C_Ratio dx fs) x = some (.ins T.C_Ratio dx fs) := upd_same
      generalize upd (upd G dx (.own x)) x (.ins T.C_Ratio dx fs) = G1 at s1 hx
      repeat (first | refine ⟨_, rfl, ?_⟩ | refine ⟨_, _, rfl, rfl, ?_⟩ | refine ⟨_, _, rfl, ?_⟩ | refine ⟨rfl, ?_⟩)
      refine ⟨lenk 1 rfl (by decide), fun W nW => ?_⟩
      have s2 : Same G1 (upd G1 W (.lst [.ref x])) := Same.new nW
      have hW : upd G1 W (.lst [.ref x]) W = some (.lst [.ref x]) := upd_same
      generalize upd G1 W (.lst [.ref x]) = G2 at s2 hW
      have s12 := s1.trans s2
      have st : Stp [] G G2 := Stp.of_same s12
      replace hV := Sh.go hV st Sb.nil Sb.refl
      replace hE := Sh.go hE st Sb.nil Sb.refl
      replace hP := Sh.go hP st Sb.nil Sb.refl
      replace b3 := b3.same s12
      replace S2 := S2.trans s12
      replace hx := s2 _ _ hx
      clear s1 s2 s12 st
      obtain ⟨p', ep, hPi⟩ := id hP
      cases ep
      refine ⟨W, rfl, ⟨_, SqL.of hW⟩, for_it (walk_list (K := K) (a := W) (xs := [.ref x])) (fun k σ G => ∃ x8 x10, σ = [some (.ref l), some (.int (0 + (i : Int))), some (.ref b), some v1, some v2, some (.ref p), some f, x7, x8, x9, x10] ∧ Same G2 G) ⟨_, _, rfl, Same.refl _⟩ (fun k σ G _ ⟨_, _, _, k⟩ => SqL.of (k _ _ hW)) ?_ ?_⟩
      rotate_left
      · rintro σ G' ⟨x8, x10, rfl, s'⟩
        have st : Stp [] G2 G' := Stp.of_same s'
        exact ⟨x8, x10, rfl, S2.trans s', b3.same s', Sh.go hV st Sb.nil Sb.refl, Sh.go hE st Sb.nil Sb.refl, Sh.go hP st Sb.nil Sb.refl⟩
      rintro k y σ Hx G5 hk ⟨x8, x10, rfl, s5⟩ ⟨rfl, hy⟩
      obtain rfl : k = 0 := by have : k < 1 := hk; omega
      cases hy
      (repeat (refine ⟨_, rfl, ?_⟩))
      refine ⟨by decide, by decide, for_it walk_range (fun j σ G => ∃ x10, σ = [some (.ref l), some (.int (0 + (i : Int))), some (.ref b), some v1, some v2, some (.ref p), some f, x7, some (.ref x), x9, x10] ∧ Same G2 G) ⟨_, rfl, s5⟩ (fun _ _ _ _ _ => trivial) (fun j y σ G1 G2 hj pp yy => ?_) fun σ G1 pp => ?_⟩
      · obtain ⟨x10, rfl, s6⟩ := pp
        obtain ⟨rfl, rfl⟩ := yy
        have hj3 : j < 3 := hj
        (repeat (refine ⟨_, rfl, ?_⟩))
        refine ⟨0 + (j : Int), .ref x, rfl, by omega, ⟨_, T.ow_Ratio.ty (s6 _ _ hx), T.kit_Ratio_Problem⟩, fun t G7 s7 nt ht => ?_⟩
        (repeat (refine ⟨_, rfl, ?_⟩))
        refine ⟨lenk 2 rfl (by decide), fun t2 nt2 => ?_⟩
        have s8 : Same G7 (upd G7 t2 (.lst [.str (Str.ofString "problem"), .ref x])) := Same.new nt2
        have h8 : upd G7 t2 (.lst [.str (Str.ofString "problem"), .ref x]) t2 = some (.lst [.str (Str.ofString "problem"), .ref x]) := upd_same
        generalize upd G7 t2 (.lst [.str (Str.ofString "problem"), .ref x]) = G8 at s8 h8
        (repeat (refine ⟨_, rfl, ?_⟩))
        refine ⟨t, t2, [.str (Str.ofString "problem"), .ref x], rfl, rfl, SqL.of (s8 _ _ ht), SqL.of h8, fun v hv => ?_, ?_⟩
        · rcases List.mem_cons.mp hv with rfl | hv
          · exact .inl rfl
          · rw [List.mem_singleton.mp hv]; exact .inr ⟨_, rfl⟩
        (repeat (refine ⟨_, rfl, ?_⟩))
        exact s6.trans (s7.trans s8)
      · obtain ⟨x10, rfl, s6⟩ := pp
        (repeat (refine ⟨_, rfl, ?_⟩))
        refine ⟨p, _, _, L, R, .ref x, rfl, hPi.same s6, okL, okR, .inl ⟨⟨_, T.ow_Ratio.ty (s6 _ _ hx), T.ow_Ratio.to "tuple" (by simp)⟩, ?_⟩⟩
        (repeat (refine ⟨_, rfl, ?_⟩))
        refine ⟨_, .bool false, rfl, .bl false, (okd_bool false).fine (by decide) (by decide), ?_⟩
        rw [show PyData.shown (.bool false) = Str.ofString "False" from by decide +kernel]
        refine ⟨rfl, _, rfl, ?_⟩
        rw [decide_eq_true rfl]
        refine ite2 (fun z => by simp at z) (fun _ => ?_)
        exact ⟨_, _, rfl, s6⟩
    clear hV hE hP b3 S2
    rintro σ G ⟨x8, x10, rfl, S2, b3, hV, hE, hP⟩
    repeat (first | refine ⟨_, rfl, ?_⟩ | refine ⟨_, _, rfl, rfl, ?_⟩ | refine ⟨_, _, rfl, ?_⟩ | refine ⟨rfl, ?_⟩)
    have alb : AlvL [b] G := by
      obtain ⟨x, y, z, e, _⟩ := id b3
      exact AlvL.cons e AlvL.nil
    refine mkPs (M := [b]) alb (Sh.sq hV) okL (Sh.rowsQ hE) okR fun p2 H4 s4 np hP2 => ?_
    obtain ⟨p', ep, hPi⟩ := id hP
    cases ep
    obtain ⟨p', ep, hPi2⟩ := id hP2
    cases ep
    obtain ⟨dx, fs, hp, _⟩ := (hPi.same s4).at'
    obtain ⟨dx2, fs2, hp2, _⟩ := hPi2.at'
    refine ⟨p, dx, fs, _, rfl, hp, T.ow_Problem.ty hp2, T.ow_Problem.nm, p, .ref p2, _, _, L, R, S, rfl, hPi.same s4, okL, okR, pS, .inl ⟨p2, _, _, L, R, S, rfl, hPi2, okL, okR, pS, ?_⟩⟩
    refine ⟨_, rfl, ?_⟩
    rw [decide_eq_true (show L = L from rfl), decide_eq_true (show S = S from rfl)]
    repeat (first | refine ⟨_, rfl, ?_⟩ | refine ⟨_, _, rfl, rfl, ?_⟩ | refine ⟨_, _, rfl, ?_⟩ | refine ⟨rfl, ?_⟩)
    exact ⟨S2.trans s4, _, _, _, _, _, _, _, _, _, _, rfl⟩

end K13
namespace K13
open PySem PySem.Spec PyProof.Rows L2 TL
theorem facts {w : World} {K : PySem.W.Frag} {h : Heap} {mg : Str → Option Value} {f : Addr} (X : K.In h) (G : h.Ns mainGlobals mg) (hfa : mg ("law" : Str) = some (.ref f)) (c : PySem.EXV.SaysX file tests fa fn exs K) :
    ∃ fd : FuncData, (∀ (s : Shared) (v : Value), BindsTo s fd ⟨[v], []⟩ [("_law_script", v)]) ∧ ∀ base : Heap, K.In base → base.Ns mainGlobals mg → FnG R.prog w K mg base CX0 9 f fd ["_law_script"] (sp_law K) := by
  obtain ⟨fd0, F0⟩ := c.def_ 0 (d := d_is_list) rfl
  obtain ⟨fd1, F1⟩ := c.def_ 1 (d := d_check_distinct) rfl
  obtain ⟨fd2, F2⟩ := c.def_ 2 (d := d_is_name) rfl
  obtain ⟨fd3, F3⟩ := c.def_ 3 (d := d_is_any_integer) rfl
  obtain ⟨fd4, F4⟩ := c.def_ 4 (d := d_is_integer) rfl
  obtain ⟨fd5, F5⟩ := c.def_ 5 (d := d_Ratio_init) rfl
  obtain ⟨fd6, F6⟩ := c.def_ 6 (d := d_Problem_init) rfl
  obtain ⟨fd7, F7⟩ := c.def_ 7 (d := d_Problem_eq) rfl
  obtain ⟨fd8, F8⟩ := c.def_ 8 (d := d_Problem_variables) rfl
  obtain ⟨fd9, F9⟩ := c.def_ 9 (d := d_Problem_events) rfl
  obtain ⟨fd10, F10⟩ := c.def_ 10 (d := d_Problem_scope) rfl
  obtain ⟨fd11, F11⟩ := c.def_ 11 (d := d_Problem_bad_tuples) rfl
  obtain ⟨fd12, F12⟩ := c.def_ 12 (d := d_Problem_are_adjacent) rfl
  obtain ⟨fd13, F13⟩ := c.def_ 13 (d := d_Problem_is_assignment) rfl
  obtain ⟨fd14, F14⟩ := c.def_ 14 (d := d_Problem_occurs) rfl
  obtain ⟨fd15, F15⟩ := c.def_ 15 (d := d_Problem_is_event) rfl
  obtain ⟨fd16, F16⟩ := c.def_ 16 (d := d_Problem_check_event) rfl
  obtain ⟨fd17, F17⟩ := c.def_ 17 (d := d_Problem_check_assignment) rfl
  obtain ⟨fd18, F18⟩ := c.def_ 18 (d := d_Problem_is_bad) rfl
  obtain ⟨fd19, F19⟩ := c.def_ 19 (d := d_check_problem) rfl
  obtain ⟨fd20, F20⟩ := c.def_ 20 (d := d_find_overlap) rfl
  obtain ⟨fd21, F21⟩ := c.def_ 21 (d := d_is_exclusive) rfl
  obtain ⟨fd22, F22⟩ := c.def_ 22 (d := d_shows_overlap) rfl
  obtain ⟨fd23, F23⟩ := c.def_ 23 (d := d__neighbors_of) rfl
  obtain ⟨fd24, F24⟩ := c.def_ 24 (d := d__joint_assignment) rfl
  obtain ⟨fd25, F25⟩ := c.def_ 25 (d := d__are_values) rfl
  obtain ⟨fd26, F26⟩ := c.def_ 26 (d := d__check_variables) rfl
  obtain ⟨fd27, F27⟩ := c.def_ 27 (d := d__is_variable_row) rfl
  obtain ⟨fd28, F28⟩ := c.def_ 28 (d := d__check_events) rfl
  obtain ⟨fd29, F29⟩ := c.def_ 29 (d := d__is_event_row) rfl
  obtain ⟨fd30, F30⟩ := c.def_ 30 (d := d__check_scope) rfl
  obtain ⟨fd31, F31⟩ := c.def_ 31 (d := d__check_variable) rfl
  obtain ⟨fd32, F32⟩ := c.def_ 32 (d := d__are_bad_tuples) rfl
  obtain ⟨fd33, F33⟩ := c.def_ 33 (d := d_l_cell) rfl
  obtain ⟨fd34, F34⟩ := c.def_ 34 (d := d_l_bag) rfl
  obtain ⟨fd35, F35⟩ := c.def_ 35 (d := d_l_take) rfl
  obtain ⟨fd36, F36⟩ := c.def_ 36 (d := d_l_names) rfl
  obtain ⟨fd37, F37⟩ := c.def_ 37 (d := d_l_scope) rfl
  obtain ⟨fd38, F38⟩ := c.def_ 38 (d := d_l_tuples) rfl
  obtain ⟨fd39, F39⟩ := c.def_ 39 (d := d_l_parts) rfl
  obtain ⟨fd40, F40⟩ := c.def_ 40 (d := d_l_agree) rfl
  obtain ⟨fd41, F41⟩ := c.def_ 41 (d := d_l_overlap) rfl
  obtain ⟨fd42, F42⟩ := c.def_ 42 (d := d_l_shows) rfl
  obtain ⟨fd43, F43⟩ := c.def_ 43 (d := d_l_forged) rfl
  obtain ⟨fd44, F44⟩ := c.def_ 44 (d := d_l_caught) rfl
  obtain ⟨fd45, F45⟩ := c.def_ 45 (d := d_law) rfl
  have e := hfa.symm.trans (He.glo_ok X G (c.fact 31 (f := .glo "law") rfl))
  cases e
  have b := FunD.bindsA (ps := ["_law_script"]) F45 fun _ _ _ _ _ _ us hl => match us, hl with | [_], _ => rfl
  let T : Txt R.prog K mg := {
    C_Ratio := _, g_Ratio := He.glo_ok X G (c.fact 32 (f := .glo "Ratio") rfl),
    C_Problem := _, g_Problem := He.glo_ok X G (c.fact 33 (f := .glo "Problem") rfl),
    C_InvalidProblem := _, I_InvalidProblem := _, x_InvalidProblem := c.exc X G rfl (by kernel_rfl) 0 (d := x_InvalidProblem) rfl (fun _ _ _ _ _ _ _ _ => rfl),
    f_is_list := _, fd_is_list := fd0, F_is_list := F0, g_is_list := He.glo_ok X G (c.fact 0 (f := .glo "is_list") rfl),
    f_check_distinct := _, fd_check_distinct := fd1, F_check_distinct := F1, g_check_distinct := He.glo_ok X G (c.fact 1 (f := .glo "check_distinct") rfl),
    f_is_name := _, fd_is_name := fd2, F_is_name := F2, g_is_name := He.glo_ok X G (c.fact 2 (f := .glo "is_name") rfl),
    f_is_any_integer := _, fd_is_any_integer := fd3, F_is_any_integer := F3, g_is_any_integer := He.glo_ok X G (c.fact 3 (f := .glo "is_any_integer") rfl),
    f_is_integer := _, fd_is_integer := fd4, F_is_integer := F4, g_is_integer := He.glo_ok X G (c.fact 4 (f := .glo "is_integer") rfl),
    f_Ratio_init := _, fd_Ratio_init := fd5, F_Ratio_init := F5,
    f_Problem_init := _, fd_Problem_init := fd6, F_Problem_init := F6,
    f_Problem_eq := _, fd_Problem_eq := fd7, F_Problem_eq := F7, m_Problem_eq := He.meth_ok (c.fact 34 (f := .meth "Problem" "__eq__") rfl),
    f_Problem_variables := _, fd_Problem_variables := fd8, F_Problem_variables := F8, m_Problem_variables := He.meth_ok (c.fact 35 (f := .meth "Problem" "variables") rfl),
    f_Problem_events := _, fd_Problem_events := fd9, F_Problem_events := F9, m_Problem_events := He.meth_ok (c.fact 36 (f := .meth "Problem" "events") rfl),
    f_Problem_scope := _, fd_Problem_scope := fd10, F_Problem_scope := F10, m_Problem_scope := He.meth_ok (c.fact 37 (f := .meth "Problem" "scope") rfl),
    f_Problem_bad_tuples := _, fd_Problem_bad_tuples := fd11, F_Problem_bad_tuples := F11, m_Problem_bad_tuples := He.meth_ok (c.fact 38 (f := .meth "Problem" "bad_tuples") rfl),
    f_Problem_are_adjacent := _, fd_Problem_are_adjacent := fd12, F_Problem_are_adjacent := F12, m_Problem_are_adjacent := He.meth_ok (c.fact 39 (f := .meth "Problem" "are_adjacent") rfl),
    f_Problem_is_assignment := _, fd_Problem_is_assignment := fd13, F_Problem_is_assignment := F13, m_Problem_is_assignment := He.meth_ok (c.fact 40 (f := .meth "Problem" "is_assignment") rfl),
    f_Problem_occurs := _, fd_Problem_occurs := fd14, F_Problem_occurs := F14, m_Problem_occurs := He.meth_ok (c.fact 41 (f := .meth "Problem" "occurs") rfl),
    f_Problem_is_event := _, fd_Problem_is_event := fd15, F_Problem_is_event := F15, m_Problem_is_event := He.meth_ok (c.fact 42 (f := .meth "Problem" "is_event") rfl),
    f_Problem_check_event := _, fd_Problem_check_event := fd16, F_Problem_check_event := F16, m_Problem_check_event := He.meth_ok (c.fact 43 (f := .meth "Problem" "check_event") rfl),
    f_Problem_check_assignment := _, fd_Problem_check_assignment := fd17, F_Problem_check_assignment := F17, m_Problem_check_assignment := He.meth_ok (c.fact 44 (f := .meth "Problem" "_check_assignment") rfl),
    f_Problem_is_bad := _, fd_Problem_is_bad := fd18, F_Problem_is_bad := F18, m_Problem_is_bad := He.meth_ok (c.fact 45 (f := .meth "Problem" "_is_bad") rfl),
    f_check_problem := _, fd_check_problem := fd19, F_check_problem := F19, g_check_problem := He.glo_ok X G (c.fact 5 (f := .glo "check_problem") rfl),
    f_find_overlap := _, fd_find_overlap := fd20, F_find_overlap := F20, g_find_overlap := He.glo_ok X G (c.fact 6 (f := .glo "find_overlap") rfl),
    f_is_exclusive := _, fd_is_exclusive := fd21, F_is_exclusive := F21, g_is_exclusive := He.glo_ok X G (c.fact 7 (f := .glo "is_exclusive") rfl),
    f_shows_overlap := _, fd_shows_overlap := fd22, F_shows_overlap := F22, g_shows_overlap := He.glo_ok X G (c.fact 8 (f := .glo "shows_overlap") rfl),
    f__neighbors_of := _, fd__neighbors_of := fd23, F__neighbors_of := F23, g__neighbors_of := He.glo_ok X G (c.fact 9 (f := .glo "_neighbors_of") rfl),
    f__joint_assignment := _, fd__joint_assignment := fd24, F__joint_assignment := F24, g__joint_assignment := He.glo_ok X G (c.fact 10 (f := .glo "_joint_assignment") rfl),
    f__are_values := _, fd__are_values := fd25, F__are_values := F25, g__are_values := He.glo_ok X G (c.fact 11 (f := .glo "_are_values") rfl),
    f__check_variables := _, fd__check_variables := fd26, F__check_variables := F26, g__check_variables := He.glo_ok X G (c.fact 12 (f := .glo "_check_variables") rfl),
    f__is_variable_row := _, fd__is_variable_row := fd27, F__is_variable_row := F27, g__is_variable_row := He.glo_ok X G (c.fact 13 (f := .glo "_is_variable_row") rfl),
    f__check_events := _, fd__check_events := fd28, F__check_events := F28, g__check_events := He.glo_ok X G (c.fact 14 (f := .glo "_check_events") rfl),
    f__is_event_row := _, fd__is_event_row := fd29, F__is_event_row := F29, g__is_event_row := He.glo_ok X G (c.fact 15 (f := .glo "_is_event_row") rfl),
    f__check_scope := _, fd__check_scope := fd30, F__check_scope := F30, g__check_scope := He.glo_ok X G (c.fact 16 (f := .glo "_check_scope") rfl),
    f__check_variable := _, fd__check_variable := fd31, F__check_variable := F31, g__check_variable := He.glo_ok X G (c.fact 17 (f := .glo "_check_variable") rfl),
    f__are_bad_tuples := _, fd__are_bad_tuples := fd32, F__are_bad_tuples := F32, g__are_bad_tuples := He.glo_ok X G (c.fact 18 (f := .glo "_are_bad_tuples") rfl),
    f_l_cell := _, fd_l_cell := fd33, F_l_cell := F33, g_l_cell := He.glo_ok X G (c.fact 19 (f := .glo "_law_cell") rfl),
    f_l_bag := _, fd_l_bag := fd34, F_l_bag := F34, g_l_bag := He.glo_ok X G (c.fact 20 (f := .glo "_law_bag") rfl),
    f_l_take := _, fd_l_take := fd35, F_l_take := F35, g_l_take := He.glo_ok X G (c.fact 21 (f := .glo "_law_take") rfl),
    f_l_names := _, fd_l_names := fd36, F_l_names := F36, g_l_names := He.glo_ok X G (c.fact 22 (f := .glo "_law_names") rfl),
    f_l_scope := _, fd_l_scope := fd37, F_l_scope := F37, g_l_scope := He.glo_ok X G (c.fact 23 (f := .glo "_law_scope") rfl),
    f_l_tuples := _, fd_l_tuples := fd38, F_l_tuples := F38, g_l_tuples := He.glo_ok X G (c.fact 24 (f := .glo "_law_tuples") rfl),
    f_l_parts := _, fd_l_parts := fd39, F_l_parts := F39, g_l_parts := He.glo_ok X G (c.fact 25 (f := .glo "_law_parts") rfl),
    f_l_agree := _, fd_l_agree := fd40, F_l_agree := F40, g_l_agree := He.glo_ok X G (c.fact 26 (f := .glo "_law_agree") rfl),
    f_l_overlap := _, fd_l_overlap := fd41, F_l_overlap := F41, g_l_overlap := He.glo_ok X G (c.fact 27 (f := .glo "_law_overlap") rfl),
    f_l_shows := _, fd_l_shows := fd42, F_l_shows := F42, g_l_shows := He.glo_ok X G (c.fact 28 (f := .glo "_law_shows") rfl),
    f_l_forged := _, fd_l_forged := fd43, F_l_forged := F43, g_l_forged := He.glo_ok X G (c.fact 29 (f := .glo "_law_forged") rfl),
    f_l_caught := _, fd_l_caught := fd44, F_l_caught := F44, g_l_caught := He.glo_ok X G (c.fact 30 (f := .glo "_law_caught") rfl),
    f_law := _, fd_law := fd45, F_law := F45, g_law := He.glo_ok X G (c.fact 31 (f := .glo "law") rfl),
    cl_Ratio := He.cls_ok (c.fact 63 (f := .cls "Ratio") rfl),
    mk_Ratio := He.mkr_ok (c.fact 64 (f := .mkr "Ratio") rfl),
    na_Ratio__num := He.noat_ok (c.fact 65 (f := .noat "Ratio" "_num") rfl),
    na_Ratio__den := He.noat_ok (c.fact 66 (f := .noat "Ratio" "_den") rfl),
    cl_Problem := He.cls_ok (c.fact 67 (f := .cls "Problem") rfl),
    mk_Problem := He.mkr_ok (c.fact 68 (f := .mkr "Problem") rfl),
    na_Problem__variables := He.noat_ok (c.fact 69 (f := .noat "Problem" "_variables") rfl),
    na_Problem__sizes := He.noat_ok (c.fact 70 (f := .noat "Problem" "_sizes") rfl),
    na_Problem__places := He.noat_ok (c.fact 71 (f := .noat "Problem" "_places") rfl),
    na_Problem__events := He.noat_ok (c.fact 72 (f := .noat "Problem" "_events") rfl),
    na_Problem__scopes := He.noat_ok (c.fact 73 (f := .noat "Problem" "_scopes") rfl),
    na_Problem__bad_tuples := He.noat_ok (c.fact 74 (f := .noat "Problem" "_bad_tuples") rfl),
    na_Problem__neighbors := He.noat_ok (c.fact 75 (f := .noat "Problem" "_neighbors") rfl),
    ow_Problem := ownB_ok (c.test 0 (b := (fun K => ownB K "Problem")) rfl),
    ow_Ratio := ownB_ok (c.test 1 (b := (fun K => ownB K "Ratio")) rfl),
    exm_InvalidProblem_InvalidProblem := He.exm_ok (c.fact 76 (f := .exm "InvalidProblem" "InvalidProblem" true) rfl),
    g_gcd := PySem.W.mg_of X G (He.eqO_ok (c.test 2 (b := (fun K => He.eqO (PySem.W.nsIn K mainGlobals "gcd") (some (some (.builtin "math.gcd"))))) rfl)),
    sm := PySem.EXV.smB_ok (c.test 3 (b := PySem.EXV.smB) rfl),
    kit_Ratio_Problem := of_decide_eq_true (c.test 4 (b := (fun K => decide (PySem.W.kitOne K (.ref (He.ga K "Ratio")) (.ref (He.ga K "Problem")) = some false))) rfl),
    n_all := He.free_ok X G (c.fact 46 (f := .free "all") rfl),
    n_any := He.free_ok X G (c.fact 47 (f := .free "any") rfl),
    n_bool := He.free_ok X G (c.fact 48 (f := .free "bool") rfl),
    n_dict := He.free_ok X G (c.fact 49 (f := .free "dict") rfl),
    n_enumerate := He.free_ok X G (c.fact 50 (f := .free "enumerate") rfl),
    n_int := He.free_ok X G (c.fact 51 (f := .free "int") rfl),
    n_isinstance := He.free_ok X G (c.fact 52 (f := .free "isinstance") rfl),
    n_len := He.free_ok X G (c.fact 53 (f := .free "len") rfl),
    n_list := He.free_ok X G (c.fact 54 (f := .free "list") rfl),
    n_max := He.free_ok X G (c.fact 55 (f := .free "max") rfl),
    n_min := He.free_ok X G (c.fact 56 (f := .free "min") rfl),
    n_range := He.free_ok X G (c.fact 57 (f := .free "range") rfl),
    n_repr := He.free_ok X G (c.fact 58 (f := .free "repr") rfl),
    n_sorted := He.free_ok X G (c.fact 59 (f := .free "sorted") rfl),
    n_str := He.free_ok X G (c.fact 60 (f := .free "str") rfl),
    n_tuple := He.free_ok X G (c.fact 61 (f := .free "tuple") rfl),
    n_zip := He.free_ok X G (c.fact 62 (f := .free "zip") rfl),
    e0 := _, t_e0 := PySem.EXV.isEB_ok (c.test 7 (b := (fun K => PySem.EXV.isEB K (He.dflAt ("Problem", some "__init__") 0 K))) rfl),
    c_MOST_VARIABLES := PySem.EXV.conB_ok X G (c.test 5 (b := (PySem.EXV.conB "MOST_VARIABLES" 8)) rfl),
    c_MOST_EVENTS := PySem.EXV.conB_ok X G (c.test 6 (b := (PySem.EXV.conB "MOST_EVENTS" 8)) rfl) }
  exact ⟨fd45, fun s v => b s [v] rfl, fun base _ _ => ok_law T⟩

end K13
open PySem PySem.W PySem.Calls PyProof.Rows
set_option maxRecDepth 100000 in
set_option maxHeartbeats 0 in
theorem PySem.Challenge.cw_resampler_k13_overlaps_holds : PySem.Challenge.rw_resampler_k13_overlaps.Holds := by
  w_on; o_law
  refine HandSHeadRun.head_imp (r := OpenLaw.row PySem.Challenge.rw_resampler_k13_overlaps) (q := view (OpenLaw.row PySem.Challenge.rw_resampler_k13_overlaps).prog [0, 55]) (H := K13.hk) (ob := K13.ob) (M := 8000) (loose := K13.loose) (d := HandSHeadRun.topDef (OpenLaw.row PySem.Challenge.rw_resampler_k13_overlaps).prog 55) (kwd := []) K13.ob_eq
    K13.run (by kernel_rfl) (by kernel_rfl) (by kernel_rfl) (by rfl) (by first | assumption | decide +kernel) (by decide +kernel) ⟨rfl, rfl, rfl, rfl, rfl, by decide +kernel⟩ ?hw ?hc
  case hw => w_witness2
  case hc =>
    refine L2.walk_ofG (l := PySem.Challenge.rw_resampler_k13_overlaps) (n := 63) (k := 9) (x := "_law_script") (CX := L2.CX0) rfl (by decide) (by kernel_rfl) ⟨rfl, by decide, by decide⟩ ?F (fun _ _ _ _ z => z)
    intro w mg fa h Y G hmg0
    obtain ⟨K, KX, c⟩ := Y
    have hmg : mg ("law" : PySem.Str) = some (.ref fa) := by
      have e : (HandSHeadRun.topDef (OpenLaw.row PySem.Challenge.rw_resampler_k13_overlaps).prog 55).name = ("law" : PySem.Str) := by kernel_rfl
      rw [← e]
      exact hmg0
    obtain ⟨fd, hb, hF⟩ := K13.facts (w := w) KX G hmg c
    exact ⟨K, fd, K13.sp_law K, KX, hb, fun H a ns hl _ hS => ⟨a, ns, rfl, hS, hl, fun _ => rfl⟩, hF⟩

