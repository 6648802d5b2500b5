import PyProof.Rows.All
import Wide.All
import OpenK.AllK
import Wide.FinOn
import KE.KStateDown
import HandS.ForMost
import HandS.WordsExc
import HandS.Defaults
import HandS.MakeKwOnly
import HandS.IsInst
import HandS.StrMore
import HandS.Wide
import HandS.Walk
import HandS.Evl
import HandS.Head0
import HandS.Head1
import HandS.Head2
import HandS.HeadEnd
import HandS.HeadHook1
import HandS.HeadHook2
import HandS.Style
import HandS.DictComp
import HandS.Deep
import HandS.Gcd
import HandS.FStr
import HandS.OwnEq
import HandS.Small
import HandS.Head3
import PySem.Challenge.RW_resampler_k62_whole_trees_of_a_history_d
import KE.KExcSuper
import KE.KExcInit
import PyProof.ExcBaseAll.LookupError
import HandS.ForExc
import HandS.HeadWalk
import HandS.ExcField
import HandS.TryMany
import PyProof.Rows.FactsExc_KeyError
import HandS.Ends
import PyProof.ReprRoads
import PyProof.CallFns
import KE.KCallOwn
import KE.KFmtOwn
import PyProof.InstNe
import PyProof.ReprLen
import HandS.Iter
import KE.GoesMore
import HandS.TupSets
import PyProof.FactsLen
import KE.GoesZip
import HandS.Conv
import HandS.ExcOwn
import PyProof.EqKinds
import PyProof.FactsAll.dict_1
import HandS.List
import HandS.ListItems
import KE.KDictList
import HandS.TupAny
import HandS.Dict
import PyProof.DictUpdate
import KE.KDictZip
import PyProof.Rows.SetFrom
import PyProof.SetRoads
import HandS.Finally
import KE.KEqNest
import KE.DataMinMax
set_option Elab.async false
set_option linter.all false
set_option maxRecDepth 100000
set_option maxHeartbeats 0
/-! Own error classes over any base: own classes, then the base's mro. -/
namespace PySem
namespace EXV
open PySem.W PySem.Calls PyProof.Rows PySem.HandSPX Builtin Builtin.ObjectAttr
/-- own classes, then the list T -/
def refsT (T : List Value) : List Value → Bool
  | .ref c :: r => refsT T r || (Value.ref c :: r == T)
  | l => l == T
/-- the base: its facts, its tail -/
structure BaseX (B nw ini : String) (T : List Value) : Prop where
  own : ∀ {prog : Program} {w : World} {A : Around} {R : Result → Shared → Prop} {hp : Heap} {gs : Array GenState} {dr : Drawn} {tk : Nat} {os : OsState} {nm qn : Str} {C N fI : Addr} {bs bm sub rest : List Value}
    {hdct ab : Bool} {sn : List Str} {col : Option Bool} {dd : Option Addr} {k0 k1 k2 k3 k5 : Option Value}, (∀ X : String, bm.contains (.type X) = T.contains (.type X)) →
    hp.get? C = some (excClassObj nm qn C N bs bm hdct sn sub ab col dd k0 k1 k2 k3 k5 nw) → W.Looks (model prog w) hp (typeLookup (.ref C) "__init__") (some (.ref fI)) →
    (∀ self, W.Looks (model prog w) hp (bindSpecial (.ref fI) self) (.ref fI, [self])) → rest.length ≤ sizeLine →
    codeAny (model prog w) (A.under (.builtin "type.__call__" ⟨.ref C :: rest, []⟩)) (.call (.ref fI) ⟨.ref (hp.objs.size + 1) :: rest, []⟩) (W.InitBack (hp.objs.size + 1) R) ⟨(hp.push (W.kdv_tup rest)).push (excO C hp.objs.size), gs, dr, tk, os⟩ →
    codeAny (model prog w) A (.call (.ref C) ⟨rest, []⟩) R ⟨hp, gs, dr, tk, os⟩
  sup : ∀ {prog : Program} {w : World} {A : Around} {E : Value → Shared → Prop} {s : Shared} {h₀ : Heap} {L : Addr} {m : Str → Option Value} {news : List (Addr × Obj)} {K : Frag} {x C u t : Addr} {dv : Option Addr} {c2 : Value}
    {rest : List Value} {nws : Obj → List (Addr × Obj)} {Q : Value → Shared → Prop}, Fr h₀ L s.heap m → K.In h₀ → News h₀ L s.heap news → excInitIn K C T nw = true → (u, kxs_mw ini x) ∈ news → UpdF x (excObj C t dv c2) news nws →
    rest.length ≤ sizeLine → (∀ t' h', Fr h₀ L h' m → News h₀ L h' ((t', excTup rest) :: nws (excObj C t' dv c2)) → (∀ p ∈ news, p.1 < t') → Q .none { s with heap := h' }) → wpAny (model prog w) A (call (.ref u) rest) Q E s
  kx : KxsFacts B ini
  pass : ∀ self, refuseLoop self "__setattr__" T = pure ()
  obj : T.contains (.type "object") = true
  typ : ∀ c r, T ≠ .ref c :: r
  ne : T ≠ []
theorem refsT_cases {T : List Value} (ht : ∀ c r, T ≠ .ref c :: r) (hn : T ≠ []) : ∀ l : List Value, refsT T l = true → (∃ c r, l = .ref c :: r ∧ refsT T r = true) ∨ l = T := by
  intro l h
  cases l with
  | nil => exact .inr (beq_iff_eq.mp h)
  | cons a r =>
    cases a with
    | ref c =>
      rcases Bool.or_eq_true_iff.mp h with h | h
      · exact .inl ⟨c, r, rfl, h⟩
      · exact .inr (beq_iff_eq.mp h)
    | _ => exact .inr (beq_iff_eq.mp h)
theorem refsT_ne {T l : List Value} (hn : T ≠ []) (h : refsT T l = true) : l.isEmpty = false := by
  cases l with
  | nil => exact absurd (beq_iff_eq.mp h).symm hn
  | cons a r => rfl
section
variable {B nw ini : String} {T : List Value} (b : BaseX B nw ini T)
include b
theorem BaseX.passAll (self : Value) : ∀ l : List Value, refsT T l = true → refuseLoop self "__setattr__" l = pure ()
  | [], h => absurd (beq_iff_eq.mp h).symm b.ne
  | a :: r, h => by
    rcases refsT_cases b.typ b.ne (a :: r) h with ⟨c, r', q, h'⟩ | q
    · obtain ⟨rfl, rfl⟩ := List.cons.inj q
      rw [refuseLoop_ref]
      exact BaseX.passAll self r h'
    · rw [q]; exact b.pass self
theorem BaseX.contains (X : String) : ∀ l : List Value, refsT T l = true → l.contains (.type X) = T.contains (.type X)
  | [], h => absurd (beq_iff_eq.mp h).symm b.ne
  | a :: r, h => by
    rcases refsT_cases b.typ b.ne (a :: r) h with ⟨c, r', q, h'⟩ | q
    · obtain ⟨rfl, rfl⟩ := List.cons.inj q
      rw [List.contains_cons, BaseX.contains X r h']
      rfl
    · rw [q]
end
theorem base_ValueError : BaseX "ValueError" "ValueError.__new__" "ValueError.__init__" [.type "ValueError", .type "Exception", .type "BaseException", .type "object"] :=
  ⟨fun hT => call_own PySem.F.excBase_ValueError hT, fun F X N q => kxs_call F X N PySem.F.excBase_ValueError q, kxs_ValueError, PySem.F.store_ValueError.passes, by decide +kernel, (fun _ _ h => nomatch h), (fun h => nomatch h)⟩
theorem base_LookupError : BaseX "LookupError" "LookupError.__new__" "LookupError.__init__" [.type "LookupError", .type "Exception", .type "BaseException", .type "object"] :=
  ⟨fun hT => call_own PySem.F.excBase_LookupError hT, fun F X N q => kxs_call F X N PySem.F.excBase_LookupError q, kxs_LookupError, PySem.F.store_LookupError.passes, by decide +kernel, (fun _ _ h => nomatch h), (fun h => nomatch h)⟩
section
variable {prog : Program} {w : World} {A : Around} {E : Value → Shared → Prop} {R : Result → Shared → Prop} {hp : Heap} {g : Array GenState} {d : Drawn} {t : Nat} {os : OsState} {B nw ini : String} {T : List Value}
/-- x.name = v, x an own exception without a dict -/
theorem exc_osaT (b : BaseX B nw ini T) {K : W.Frag} {name : Str} {tk : Tok} {v : Value} {x C : Addr} {fv : Array Value} {cd : ClassData}
    (X : K.In hp) (hx : hp.get? x = some { cls := .ref C, data := .fields fv }) (hcd : W.clsIn K C = some cd) (hm : refsT T cd.mro = true) (hh : cd.hasDict = true) (ha : W.findIn K (.ref C) name = some none)
    (hq : ∀ h' tk' dx, (∀ b o, b ≠ x → hp.get? b = some o → h'.get? b = some o) → hp.objs.size ≤ dx → dx ≠ x → h'.get? x = some { cls := .ref C, dict := some dx, data := .fields fv } →
      h'.Ns1 dx (fun y => if y = name then some v else none) → R (.ok (.ret .none)) ⟨h', g, d, tk', os⟩) :
    codeAny (model prog w) A (.call (.builtin "object.__setattr__") ⟨[.ref x, .str name tk, v], []⟩) R ⟨hp, g, d, t, os⟩ := by
  have I : W.InstAt hp x { cls := .ref C, data := .fields fv } C none := ⟨hx, rfl, rfl, trivial⟩
  have SF := PySem.F.store_object
  have ne := refsT_ne b.ne hm
  have hob : cd.mro.contains (.type "object") = true := (b.contains "object" _ hm).trans b.obj
  have hxs : x ≠ hp.objs.size := Nat.ne_of_lt (Heap.lt_size hx)
  have sub : W.Looks (model prog w) hp (isInstance (.ref x) (.type "object")) true := I.type.andThen (W.looks_mroIn X (by unfold W.mroIn; rw [hcd, Option.bind_some, if_neg (by rw [ne]; decide), hob]))
  refine codeAny_call_builtin SF.slot.plain SF.entry (@W.check_slot (model prog w) _ _ ⟨hp, g, d, t, os⟩ "object.__setattr__" "object" "__setattr__" (.ref x) [.str name tk, v] [] _ SF.kind SF.split sub (SF.args (.ref x) (.str name tk) v) ?_)
  have hmr : W.Looks (model prog w) hp (mroOf (.ref C)) cd.mro := (W.looks_clsIn X hcd).andThen .now
  have L3 : W.Looks (model prog w) hp (storeTaker? none) none := .now
  have hcls : W.Looks (model prog w) hp (classData C) cd := W.looks_clsIn X hcd
  rw [W.osa_eq, refuse_eq]
  refine wpAny_bind (wpAny_bind (I.type.at (wpAny_bind (hmr.at ?_))))
  rw [b.passAll _ _ hm]
  refine wpAny_pure (wpAny_bind (I.type.at (wpAny_bind ((W.looks_findIn X ha).at (wpAny_bind (L3.at ?_))))))
  show wpAny _ _ (storeInOwnDict (.ref x) (.ref C) (.str name tk) name v false) _ _ _
  obtain ⟨nm, bs, mro, ns, qn, hd, sn, sb, ab, col, del⟩ := cd
  dsimp only at hh
  subst hh
  unfold storeInOwnDict ownDictForStores
  repeat (first | with_reducible refine store_in_new ?_ ?_ | with_reducible refine wpAny_loadPart_at hx ?_ | with_reducible refine hcls.at ?_ | wp_step)
  · exact ⟨_, #[], _, (Heap.get?_update_ne _ _ _ _ hxs.symm).trans (Heap.get?_push_at rfl rfl), rfl, fun e he => absurd he (by simp), fun _ => rfl⟩
  · intro h' tk' hn' hs
    have hx₁ : (hp.push { cls := .type "dict", data := .dict #[] }).get? x = some { cls := .ref C, data := .fields fv } := Heap.get?_push_of_some _ hx
    refine hq h' tk' hp.objs.size (fun b o hb ho => ?_) (Nat.le_refl _) hxs.symm ?_ hn'
    · exact (hs.2 b (Nat.ne_of_lt (Heap.lt_size ho))).trans ((Heap.get?_update_ne _ _ _ _ hb).trans (Heap.get?_push_of_some _ ho))
    · exact (hs.2 x hxs).trans (Heap.get?_update_self _ hx₁ rfl)
end
end EXV
end PySem

/-! An own error class (over own error classes over ValueError) whose __init__ says super().__init__(a text) and then self.FLD = FLD. -/
namespace PySem
namespace EXV
open PySem.W PySem.Calls PyProof.Rows PySem.HandSPX
/-- the text of such an __init__ -/
def xBody (fld txt : Str) (k : Nat) (p : Nat → Pos) : List Stmt :=
  [.Expr (.Call (.Attribute (.Call (.Name "super" (p 0)) [] [] (p 1)) "__init__" (p 2)) [.Constant (.str txt) k (p 3)] [] (p 4)) (p 5),
   .Assign [.Attribute (.Name "self" (p 6)) fld (p 7)] (.Name fld (p 8)) (p 9)]
def xArgs (fld : Str) (p1 p2 : Pos) : Arguments := { posonlyargs := [], args := [{ arg := "self", annotation := none, pos := p1 }, { arg := fld, annotation := none, pos := p2 }], vararg := none, kwonlyargs := [], kw_defaults := [], kwarg := none, defaults := [] }
def xScope (fld : Str) : Scope := { kind := .function, names := [(PySem.Str.ofString "self", .local), (fld, .local), (PySem.Str.ofString "__class__", .free), (PySem.Str.ofString "super", .globalImplicit)], isGenerator := false, isCoroutine := false }
/-- what the written part says of the class at C and its __init__ at fI -/
structure ExcTxt (P : Program) (K : Frag) (mg : Str → Option Value) (x q fld : Str) (C fI : Addr) : Prop where
  gC : mg x = some (.ref C)
  base : ∃ B nw ini T, BaseX B nw ini T ∧ (∃ nm q N bs bm sn sub ab col dd k0 k1 k2 k3 k5, K.lookup C = some (excClassObj nm q C N bs bm true sn sub ab col dd k0 k1 k2 k3 k5 nw) ∧ refsT T bm = true) ∧
    subIn K (.ref C) (.type B) = some true ∧ ks_superIn K C C "__init__" = some (some (.builtin ini)) ∧ excInitIn K C T nw = true
  sa : findIn K (.ref C) "__setattr__" = some (some (.builtin "object.__setattr__"))
  ga : findIn K (.ref C) "__getattribute__" = some (some (.builtin "BaseException.__getattribute__"))
  gg : findIn K (.ref C) "__getattr__" = some none
  noN : findIn K (.ref C) fld = some none
  iC : findIn K (.ref C) "__init__" = some (some (.ref fI))
  tC : typeIn K (.ref fI) = some (.type "function")
  kC : keepIn K (.ref C) = true
  exC : subIn K (.ref C) (.type "BaseException") = some true
  tyC : typeIn K (.ref C) = some (.type "type")
  hdC : hasDictIn K C = true
  self : mroIn K C (.ref C) = some true
  third : nsIn K cStatics "thirdparty.any" = some none
  noS : nsIn K mainGlobals "super" = some none
  fn : ∃ (oc : Value) (od : Option Addr) (doc pm : Value) (an : Option Addr) (cda : Addr) (ct : Value) (osl : Array (Option Value)) (cc : Addr) (txt : Str) (k : Nat) (p : Nat → Pos) (p1 p2 : Pos),
    K.lookup fI = some ⟨oc, od, .func (ksFn "__init__" q (xArgs fld p1 p2) (xBody fld txt k p) (xScope fld) .none .none doc pm an (.ref cda) ct cc), osl⟩ ∧ codeIn K (.ref cda) q = true ∧
    (∃ ccl cdd vs ccs file tf, K.lookup cda = some ⟨ccl, cdd, .fields vs, ccs⟩ ∧ vs[2]? = some (.str file tf) ∧ ((P.main.file : Str) == file) = true) ∧
    ((p 2).endLine == (p 4).line) = true ∧
    (∃ cl cld csl, K.lookup cc = some ⟨cl, cld, .cell (some (.ref C)), csl⟩) ∧
    (∀ a b : Value, bindArgs (ksFn "__init__" q (xArgs fld p1 p2) (xBody fld txt k p) (xScope fld) .none .none doc pm an (.ref cda) ct cc) ⟨[a, b], []⟩ = pure [(("self" : Str), a), (fld, b)])
  fldOk : (fld == ("self" : Str)) = false ∧ (("self" : Str) == fld) = false ∧ (fld == ("__class__" : Str)) = false ∧ (("__class__" : Str) == fld) = false ∧ (fld == ("super" : Str)) = false ∧ (("super" : Str) == fld) = false ∧ (fld == ("__debug__" : Str)) = false
  topS : (P.main.scope.names.lookup ("super" : Str)).isSome = false
/-- what __init__ leaves of a fresh exception at x -/
structure XEnd (h h' : Heap) (x C dx : Addr) (fld : Str) (v : Value) : Prop where
  keep : ∀ b o, b ≠ x → h.get? b = some o → h'.get? b = some o
  obj : ∃ t1, h'.get? x = some { cls := .ref C, dict := some dx, data := .fields #[.ref t1, .none, .none, .none, .bool false, .none] }
  dbig : h.objs.size ≤ dx
  dne : dx ≠ x
  ns : h'.Ns1 dx (fun y => if y = fld then some v else none)
/-- a made exception -/
structure XMade (h h' : Heap) (e C d : Addr) (fld : Str) (v : Value) : Prop where
  keep : ∀ b o, h.get? b = some o → h'.get? b = some o
  new : h.objs.size ≤ e
  obj : ∃ oe vs, h'.get? e = some oe ∧ oe.cls = .ref C ∧ oe.dict = some d ∧ oe.data = .fields vs ∧ vs[1]? = some .none
  dbig : h.objs.size ≤ d
  dne : d ≠ e
  ns : h'.Ns1 d (fun y => if y = fld then some v else none)
theorem one_le_line (v : Value) : [v].length ≤ sizeLine := by
  rw [sizeLine_eq]
  exact (by decide : 1 ≤ 16777216)
section
variable {prog : Program} {w : World} {A : Around} {R : Result → Shared → Prop} {s : Shared} {K : Frag} {mg : Str → Option Value} {C fI : Addr} {nx q fld : Str}
theorem x_init (T : ExcTxt prog K mg nx q fld C fI) {x t0 : Addr} {v : Value} {mb : Str → Option Value} (X : K.In s.heap) (G : s.heap.Ns mainGlobals mg) (Gb : s.heap.Ns builtinsNs mb) (hb : ∀ y : Str, y ≠ "__name__" → mb y = bootBuiltins y) (hlim : s.heap.NoLimit)
    (hx : s.heap.get? x = some (excO C t0)) (hnx : K.lookup x = none) (hroom : A.depth < recursionLimit)
    (hq : ∀ h' tk dx, XEnd s.heap h' x C dx fld v → R (.ok (.ret .none)) { s with heap := h', toks := tk }) :
    codeAny (model prog w) A (.call (.ref fI) ⟨[.ref x, v], []⟩) R s := by
  obtain ⟨oc, od, doc, pm, an, cda, ct, osl, cc, txt, k, p, p1, p2, ho, hcd, ⟨ccl, cdd, vs, ccs, file, tf, hcode, hvs, hfile⟩, hline, ⟨cl, cld, csl, hcell⟩, hbd⟩ := T.fn
  obtain ⟨B, nw, ini, tl, bX, ⟨nm, qq, N, bs, bm, sn, sub, ab, col, dd, k0, k1, k2, k3, k5, hC, hbm⟩, veC, sup, inI⟩ := T.base
  have hcl : clsIn K C = some { name := nm, bases := bs, mro := .ref C :: bm, ns := N, qualname := qq, hasDict := true, slotNames := sn, subclasses := sub, abstract := ab, collection := col, hasDel := false } := by unfold clsIn; rw [hC] <;> rfl
  obtain ⟨f1, f2, f3, f4, f5, f6, f7⟩ := T.fldOk
  have l1 : (xScope fld).names.lookup ("self" : Str) = some .local := rfl
  have l2 : (xScope fld).names.lookup fld = some .local := by simp [xScope, List.lookup, f1]
  have l3 : (xScope fld).names.lookup ("__class__" : Str) = some .free := by
    have g0 : (PySem.Str.ofString "__class__" == PySem.Str.ofString "self") = false := by decide +kernel
    simp [xScope, List.lookup, f4, g0]
  have l4 : (xScope fld).names.lookup ("super" : Str) = some .globalImplicit := by
    have g0 : (PySem.Str.ofString "super" == PySem.Str.ofString "self") = false := by decide +kernel
    have g1 : (PySem.Str.ofString "super" == PySem.Str.ofString "__class__") = false := by decide +kernel
    simp [xScope, List.lookup, f6, g0, g1]
  have hloc : ∀ y ∈ [(("self" : Str), Value.ref x), (fld, v)], (xScope fld).names.lookup y.1 = some .local := by
    intro y hy
    rcases List.mem_cons.mp hy with rfl | hy
    · exact l1
    · rcases List.mem_cons.mp hy with rfl | hy
      · exact l2
      · cases hy
  refine ks_codeAny_call_defAt (fd := ksFn "__init__" q (xArgs fld p1 p2) (xBody fld txt k p) (xScope fld) .none .none doc pm an (.ref cda) ct cc) (body := xBody fld txt k p) (binds := [("self", .ref x), (fld, v)])
    hroom (X _ _ ho) rfl hlim (codeRec_of X hcd) rfl (BindsTo.of_eq (hbd _ _)) ?_ hloc (fun h₁ hns hk₁ => ?_)
  · intro y hy
    have hy' : y ∈ [(PySem.Str.ofString "self", NameKind.local), (fld, .local), (PySem.Str.ofString "__class__", .free), (PySem.Str.ofString "super", .globalImplicit)] := hy
    simp only [List.mem_cons, List.not_mem_nil, or_false] at hy'
    rcases hy' with rfl | rfl | rfl | rfl <;> exact (fun z => nomatch z)
  · have X₁ : K.In h₁ := X.keeps hk₁
    have hx₁ := hk₁ _ _ hx
    have xC : x ≠ C := fun z => by rw [z, hC] at hnx; cases hnx
    have mself : (fun z => List.lookup z [(PySem.Str.ofString "self", Value.ref x), (fld, v)].reverse) ("self" : Str) = some (.ref x) := by
      show List.lookup ("self" : Str) [(fld, v), (PySem.Str.ofString "self", Value.ref x)] = _
      simp [List.lookup, f2]
    have mfld : (fun z => List.lookup z [(PySem.Str.ofString "self", Value.ref x), (fld, v)].reverse) fld = some v := by
      show List.lookup fld [(fld, v), (PySem.Str.ofString "self", Value.ref x)] = _
      simp [List.lookup]
    have F : Fr s.heap s.heap.objs.size h₁ (fun z => List.lookup z [(PySem.Str.ofString "self", Value.ref x), (fld, v)].reverse) := ⟨hns, hk₁, Nat.le_refl _⟩
    show _root_.PySem.wpAt _ _ (.func (xBody fld txt k p) (ksEnv q (xScope fld) s.heap.objs.size fI (.ref cda) cc)) (execs _ (ksEnv q (xScope fld) s.heap.objs.size fI (.ref cda) cc)) _ _ _
    have he : eval (.Call (.Attribute (.Call (.Name "super" (p 0)) [] [] (p 1)) "__init__" (p 2)) [.Constant (.str txt) k (p 3)] [] (p 4)) (ksEnv q (xScope fld) s.heap.objs.size fI (.ref cda) cc) = (do
        let ov ← attributeBase (.Call (.Name "super" (p 0)) [] [] (p 1)) "__init__" (ksEnv q (xScope fld) s.heap.objs.size fI (.ref cda) cc) (eval (.Call (.Name "super" (p 0)) [] [] (p 1)) (ksEnv q (xScope fld) s.heap.objs.size fI (.ref cda) cc))
        standAt (p 2).atName
        let (f, first) ← holding [ov] (getMethod ov "__init__" (L2.plainOf (.Call (.Name "super" (p 0)) [] [] (p 1)) (ksEnv q (xScope fld) s.heap.objs.size fI (.ref cda) cc)))
        callWith (p 4) f first (backTo (p 4) (starEach [.Constant (.str txt) k (p 3)] (ksEnv q (xScope fld) s.heap.objs.size fI (.ref cda) cc))) []) := by
      show (attributeBase _ _ _ _ >>= fun ov => standAt _ >>= fun _ => methodCall _ _ _ _ _ ov _ _ _) = _
      congr 1
      funext ov
      congr 1
      funext _
      exact L2.mcall_line (by rfl) hline
    refine ks_wpAt_execs_cons (ks_wpAt_Expr_any (ks_wpAt_MethodCall ?_ he))
    obtain ⟨oD, hD1, hD2⟩ : ∃ oD, h₁.get? C = some oD ∧ oD.data = .cls _ := ⟨_, X₁ _ _ hC, rfl⟩
    refine ks_wpAt_super_base (env := ksEnv q (xScope fld) s.heap.objs.size fI (.ref cda) cc) l4 l3 (by decide) rfl (X₁ _ _ ho) rfl rfl rfl (X₁ _ _ hcode) rfl hvs hfile T.topS ?_
    refine ks_loadName_global rfl l4 (loadGlobal_builtin (env := ksEnv q (xScope fld) s.heap.objs.size fI (.ref cda) cc) (G.keeps hk₁) (mg_none_of X G T.noS) (Gb.keeps hk₁) ((hb _ (by decide +kernel)).trans (show bootBuiltins ("super" : Str) = some (.type "super") by first | boot_by_name | rfl | kernel_rfl)) ⟨rfl, ?_⟩)
    refine wpAny_loadName_free rfl l3 rfl ⟨_, X₁ _ _ hcell, rfl⟩ ?_
    refine wpAny_loadName_local rfl l1 F.ns mself ?_
    refine ks_wpAny_isType_cls hD1 hD2 ⟨rfl, ?_⟩
    have I₁ : InstAt h₁ x (excObj C t0 none .none) C none := ⟨hx₁, rfl, rfl, trivial⟩
    refine ks_wpAny_call_super hD1 hD2 I₁.at_ I₁.cls (fun c e => nomatch e) (looks_mroIn X₁ T.self) (fun h₂ e2 k2 => ?_)
    -- the bound wrapper, by the heap without x
    have nl1 : h₁.objs.size ≠ s.heap.objs.size := Nat.ne_of_gt F.ns.lt
    have xs : x < s.heap.objs.size := Heap.lt_size hx
    have x1 : x < h₁.objs.size := Heap.lt_size hx₁
    have hx₂ : h₂.get? x = some (excObj C t0 none .none) := k2 _ _ hx₁
    have X₀ : K.In (hideAll s.heap [x]) := fun b o e => hideAll_get _ (X b o e) (fun hb => by
      rw [List.mem_singleton.mp hb, hnx] at e
      cases e)
    have keep₀ : ∀ b o, (hideAll s.heap [x]).get? b = some o → h₁.get? b = some o := fun b o e => hk₁ b o (of_hideAll _ e)
    have F₂ : Fr (hideAll s.heap [x]) s.heap.objs.size h₂ (fun z => List.lookup z [(PySem.Str.ofString "self", Value.ref x), (fld, v)].reverse) :=
      ⟨hns.keeps k2, fun b o e => k2 b o (keep₀ b o e), Nat.le_of_eq (hideAll_size _ _)⟩
    have n0 : (hideAll s.heap [x]).get? h₁.objs.size = none := by
      cases z : (hideAll s.heap [x]).get? h₁.objs.size with
      | none => rfl
      | some o => exact absurd (Heap.lt_size (keep₀ _ _ z)) (Nat.lt_irrefl _)
    have N₂ : News (hideAll s.heap [x]) s.heap.objs.size h₂ [(h₁.objs.size, ks_superObj C x C), (x, excObj C t0 none .none)] := by
      intro r hr
      rcases List.mem_cons.mp hr with rfl | hr
      · exact ⟨e2, nl1, n0⟩
      · rcases List.mem_cons.mp hr with rfl | hr
        · exact ⟨hx₂, Nat.ne_of_lt xs, hideAll_none _ List.mem_cons_self⟩
        · cases hr
    have I₂ : InstAt h₂ x (excObj C t0 none .none) C none := ⟨hx₂, rfl, rfl, trivial⟩
    refine kxs_method bX.kx F₂ X₀ N₂ List.mem_cons_self I₂ T.third sup veC (by decide) (fun u h₃ F₃ N₃ lt3 => ?_)
    refine kxs_callWith1 N₃ List.mem_cons_self (Calls.spliced_cons (show wpAny _ _ (eval (.Constant (.str txt) k (p 3)) _) _ _ _ from Calls.Constant_str (Calls.spliced_nil ⟨kxs_at N₃ List.mem_cons_self, ?_⟩)))
    have hux : u ≠ x := Nat.ne_of_gt (lt3 (x, excObj C t0 none .none) (List.mem_cons_of_mem _ List.mem_cons_self))
    have hsx : h₁.objs.size ≠ x := Nat.ne_of_gt x1
    refine bX.sup F₃ X₀ N₃ inI List.mem_cons_self (.tail hux (.tail hsx (.head (fun _ h => nomatch h)))) (one_le_line _) (fun t1 h₄ F₄ N₄ lt4 => ?_)
    have hx₄ : h₄.get? x = some (excO C t1) := (N₄ (x, excObj C t1 none .none) (by simp)).1
    have X₄ : K.In h₄ := X₀.keeps F₄.keep
    refine ks_wpAt_execs_cons (ks_wpAt_Assign_Attr (wpAt_of_wpAny (wpAny_Name (wpAny_loadName_local rfl l2 F₄.ns mfld (wpAny_Name (wpAny_loadName_local rfl l1 F₄.ns mself ?_) (by decide))) f7)))
    refine set_plain X₄ (ox := excO C t1) (od := none) ⟨hx₄, rfl, rfl, trivial⟩ T.sa ?_
    refine exc_osaT bX X₄ hx₄ hcl (show (refsT tl bm || _) = true by rw [hbm]; rfl) rfl T.noN (fun h₅ tk₅ dx k₅ dn dne hx₅ hn₅ => ?_)
    refine wpAt_of_wpAny (wpAny_execs_nil (hq h₅ tk₅ dx ⟨fun b o hb e => k₅ b o hb (F₄.keep b o (hideAll_get _ e (fun z => hb (List.mem_singleton.mp z)))), ⟨t1, hx₅⟩, Nat.le_trans (Nat.le_of_lt F₄.ns.lt) dn, dne, hn₅⟩))
theorem x_made (T : ExcTxt prog K mg nx q fld C fI) {v : Value} {mb : Str → Option Value} (X : K.In s.heap) (G : s.heap.Ns mainGlobals mg) (Gb : s.heap.Ns builtinsNs mb) (hb : ∀ y : Str, y ≠ "__name__" → mb y = bootBuiltins y) (hlim : s.heap.NoLimit) (hroom : A.depth + 1 < recursionLimit)
    (hq : ∀ h' tk e d, XMade s.heap h' e C d fld v → R (.ok (.ret (.ref e))) { s with heap := h', toks := tk }) :
    codeAny (model prog w) A (.call (.ref C) ⟨[v], []⟩) R s := by
  obtain ⟨B, nw, ini, tl, bX, ⟨nm, qq, N, bs, bm, sn, sub, ab, col, dd, k0, k1, k2, k3, k5, hC, hbm⟩, veC, sup, inI⟩ := T.base
  obtain ⟨hp, g, dr, tk, os⟩ := s
  have k : ∀ b o, hp.get? b = some o → ((hp.push (kdv_tup [v])).push (excO C hp.objs.size)).get? b = some o := fun b o e => Heap.get?_push_of_some _ (Heap.get?_push_of_some _ e)
  have hget : ((hp.push (kdv_tup [v])).push (excO C hp.objs.size)).get? (hp.objs.size + 1) = some (excO C hp.objs.size) := by heap_get
  have hnx : K.lookup (hp.objs.size + 1) = none := by
    cases e : K.lookup (hp.objs.size + 1) with
    | none => rfl
    | some o => exact absurd (Nat.lt_of_succ_lt (Heap.lt_size (show hp.get? (hp.objs.size + 1) = some o from X _ _ e))) (Nat.lt_irrefl _)
  refine bX.own (fun X => bX.contains X bm hbm) (X _ _ hC) (looks_findIn X T.iC) (fun self => bind_fn X self T.tC) (one_le_line v) ?_
  refine x_init (s := ⟨(hp.push (kdv_tup [v])).push (excO C hp.objs.size), g, dr, tk, os⟩) T (X.keeps k) (G.keeps k) (Gb.keeps k) hb (hlim.keeps k) hget hnx hroom fun h' tk' dx ⟨k', ⟨t1, hx⟩, dn, dne, hns⟩ => ?_
  have old : ∀ b o, hp.get? b = some o → h'.get? b = some o := fun b o e => k' b o (Nat.ne_of_lt (Nat.lt_succ_of_lt (Heap.lt_size e))) (k b o e)
  have z : hp.objs.size + 1 + 1 ≤ dx := by
    have q := dn
    rw [Heap.size_push, Heap.size_push] at q
    exact q
  exact ⟨rfl, hq h' tk' (hp.objs.size + 1) dx ⟨old, Nat.le_succ _, ⟨_, _, hx, rfl, rfl, rfl, rfl⟩, Nat.le_trans (Nat.le_trans (Nat.le_succ _) (Nat.le_succ _)) z, dne, hns⟩⟩
end
end EXV
end PySem

namespace L2
open PySem PySem.Spec PyProof.Rows
theorem relO_x {v : V} {v' : Value} (r : RelV v v') (fld f : Str) : RelO (List.lookup f [(fld, v)]) (if f = fld then some v' else none) := by
  by_cases hw : f = fld
  · subst hw
    rw [if_pos rfl, show List.lookup f [(f, v)] = some v by simp [List.lookup]]
    exact r
  · rw [if_neg hw, show List.lookup f [(fld, v)] = none by simp [List.lookup, show (f == fld) = false by simpa using hw]]
    trivial
section
variable {X : Cx} {C fI : Addr} {x q fld : Str}
/-- X(e), raised -/
def tMkX (C : Addr) (fld : Str) (ta : TA) : St → Hp → XK → Prop := fun σ H Q => ta σ H fun vs H1 => ∃ v, vs = [v] ∧ ∀ d, H1 d = none → Q (.ref C) (some d) (upd H1 d (.xd [(fld, v)]))
theorem pmk_x {a : Expr} {ta : TA} {p pos : Pos} {k : Nat} (T : PySem.EXV.ExcTxt X.prog X.K X.mg x q fld C fI) (hr : Room k X.A) (ha : PA X [a] ta) (hg : Gl X x := by rfl)
    (hdb : (x == ("__debug__" : Str)) = false := by decide)
    (he : starEach (a :: []) X.env = (false, eval a X.env) :: starEach [] X.env := by rfl) (hpl : (backTo pos (starEach [] X.env)).any (·.1) = false := by rfl) :
    PMk X (.Call (.Name x p) [a] [] pos) (tMkX C fld ta) := by
  intro pins s σ H Q I h
  refine wpAny_Call_Name_kw (ld_glob I hg T.gC ?_ hdb)
  refine PySem.W.callWith_K (h₀ := X.base) I.ok.mod.kin T.kC (thn (ha.run pos pins s σ H _ I h) fun us s1 hh => ?_) he hpl
  obtain ⟨vs, H1, I1, r1, v, ev, q1⟩ := hh
  subst ev
  refine ⟨I1.kIn, ?_⟩
  cases r1 with
  | cons rv rn =>
    rename_i v' us'
    cases rn
    show wpAny _ _ (call (.ref C) [v']) _ _ _
    have hlim := I1.nolimit
    obtain ⟨mb, hb1, hb2⟩ := I1.mod.blt
    have hG := I1.mod.glob.keeps I1.bk
    have hGb := hb1.keeps I1.bk
    obtain ⟨hp, g, dr, tk, os⟩ := s1
    refine wpAny_call (PySem.EXV.x_made T I1.kIn hG hGb hb2 hlim (by have := hr.dp; omega) fun h' tk' e d M => ?_)
    show MkP X pins σ Q (.ref e) ⟨h', g, dr, tk', os⟩
    obtain ⟨oe, fv, hoe, hc, hd, hdat, h1⟩ := M.obj
    have hns := M.ns
    obtain ⟨G', g1, g2⟩ := restrict h' fun b => decide (b ≠ e)
    have gk : ∀ b, b ≠ e → G'.get? b = h'.get? b := fun b hb => g1 b (decide_eq_true hb)
    have ge : G'.get? e = none := g2 e (by simp)
    have old : ∀ b o, hp.get? b = some o → G'.get? b = some o := fun b o z => (gk b (Nat.ne_of_lt (Nat.lt_of_lt_of_le (Heap.lt_size z) M.new))).trans (M.keep b o z)
    have ob : ObjOk X.prog X.w (upd H1 d (.xd [(fld, v)])) G' d (.xd [(fld, v)]) :=
      ⟨_, hns.at (fun o z => (gk d M.dne).trans z), fun f => relO_x rv fld f⟩
    have J : Inv X pins σ (upd H1 d (.xd [(fld, v)])) ⟨G', g, dr, tk', os⟩ := I1.laid (t' := tk') old M.dbig ob
    refine ⟨e, oe, fv, ⟨G', g, dr, tk', os⟩, _, .ref C, some d, rfl, J, fun b o z => ?_, ge, hoe, ⟨hc, hd⟩, hdat, h1, ?_, rfl, I1.bare, raises_own T.exC T.tyC, q1 d (I1.hok.fresh M.dbig)⟩
    · by_cases hb : b = e
      · have z' : G'.get? b = some o := z
        rw [hb, ge] at z'; cases z'
      · exact (gk b hb).symm.trans z
    · rw [upd_ne (Ne.symm M.dne)]
      exact I1.hok.fresh M.new
/-- raise X(e) -/
def tRaiseX (C : Addr) (fld : Str) (W : WX) (ta : TA) : TS := fun _ σ H => tMkX C fld ta σ H fun cls d H' => W cls d σ H'
theorem ps_raiseX {a : Expr} {ta : TA} {W : WX} {p pos pos2 : Pos} {k : Nat} (hc : X.calm = true) (T : PySem.EXV.ExcTxt X.prog X.K X.mg x q fld C fI) (hr : Room k X.A) (tk : Takes X W) (ha : PA X [a] ta) (hg : Gl X x := by rfl)
    (hdb : (x == ("__debug__" : Str)) = false := by decide)
    (he : starEach (a :: []) X.env = (false, eval a X.env) :: starEach [] X.env := by rfl) (hpl : (backTo pos (starEach [] X.env)).any (·.1) = false := by rfl) :
    PS X (.Raise (some (.Call (.Name x p) [a] [] pos)) none pos2) (tRaiseX C fld W ta) := ps_raise hc tk (pmk_x T hr ha hg hdb he hpl)
/-- err.FLD, err the exception that the suite holds (at a; its class cls, its dict d) -/
def tFldX (C : Addr) (fld : Str) (a : Addr) (cls : Value) (d : Option Addr) (te : TE) : TE := fun σ H Q => te σ H fun y H1 => y = .ref a ∧ cls = .ref C ∧ ∃ (dd : Addr) (v : V), d = some dd ∧ H1 dd = some (.xd [(fld, v)]) ∧ Q v H1
theorem pe_fldX {a : Addr} {oe : Obj} {cls : Value} {d : Option Addr} {pn : List (Addr × Obj)} {e : Expr} {te : TE} {pos : Pos} (T : PySem.EXV.ExcTxt X.prog X.K X.mg x q fld C fI) (hz : Zc cls d oe) (hf : ∃ vs, oe.data = .fields vs) (he : PE (X.suite a ((a, oe) :: pn)) e te)
    (hb : attributeBase e fld X.env (eval e X.env) = eval e X.env := by rfl) :
    PE (X.suite a ((a, oe) :: pn)) (.Attribute e fld pos) (tFldX C fld a cls d te) := by
  refine ⟨fun pins s σ H Q I h => ?_⟩
  refine attr_of hb (thn (he.run pins s σ H _ I h) fun u s1 hh => ?_)
  obtain ⟨y, H1, I1, rx, ex, ec, dd, v, ed, ea, q⟩ := hh
  subst ex
  obtain rfl : u = Value.ref a := rx
  subst ec
  subst ed
  obtain ⟨ha, _⟩ := I1.pin (a, oe) (List.mem_append_left _ List.mem_cons_self)
  obtain ⟨vs, hd⟩ := hf
  have hx : ObjOk X.prog X.w H1 s1.heap dd (.xd [(fld, v)]) := I1.hok dd _ ea
  obtain ⟨mA, hns, hr⟩ := hx
  obtain ⟨od, ho, hl⟩ := lookIn_ns hns
  have l : List.lookup fld [(fld, v)] = some v := by simp [List.lookup]
  obtain ⟨u, hu, ru⟩ := RelO.some_of (v := v) (o := mA fld) (by rw [← l]; exact hr fld)
  have J : PySem.W.InstAt s1.heap a oe C (some od) := ⟨ha, hz.1, by unfold PySem.W.notCls; rw [hd] <;> rfl, by rw [hz.2]; exact ho⟩
  exact HandSPX.exc_get I1.kIn J T.ga T.gg T.exC (PySem.W.findObj_own T.hdC T.noN rfl (by rw [hl, hu])) (handed_of ru) ⟨v, H1, I1.tok _, ru, q⟩
end
end L2

/-! An own error class whose __init__(self) says super().__init__(a text) and nothing more. -/
namespace PySem
namespace EXV
open PySem.W PySem.Calls PyProof.Rows PySem.HandSPX
def xBody0 (txt : Str) (k : Nat) (p : Nat → Pos) : List Stmt :=
  [.Expr (.Call (.Attribute (.Call (.Name "super" (p 0)) [] [] (p 1)) "__init__" (p 2)) [.Constant (.str txt) k (p 3)] [] (p 4)) (p 5)]
def xArgs0 (p1 : Pos) : Arguments := { posonlyargs := [], args := [{ arg := "self", annotation := none, pos := p1 }], vararg := none, kwonlyargs := [], kw_defaults := [], kwarg := none, defaults := [] }
def xScope0 : Scope := { kind := .function, names := [(PySem.Str.ofString "self", .local), (PySem.Str.ofString "__class__", .free), (PySem.Str.ofString "super", .globalImplicit)], isGenerator := false, isCoroutine := false }
/-- what the written part says of the class at C and its __init__ at fI -/
structure ExcTxt0 (P : Program) (K : Frag) (mg : Str → Option Value) (x q : Str) (C fI : Addr) : Prop where
  gC : mg x = some (.ref C)
  base : ∃ B nw ini T, BaseX B nw ini T ∧ (∃ nm q N bs bm sn sub ab col dd k0 k1 k2 k3 k5, K.lookup C = some (excClassObj nm q C N bs bm true sn sub ab col dd k0 k1 k2 k3 k5 nw) ∧ refsT T bm = true) ∧
    subIn K (.ref C) (.type B) = some true ∧ ks_superIn K C C "__init__" = some (some (.builtin ini)) ∧ excInitIn K C T nw = true
  sa : findIn K (.ref C) "__setattr__" = some (some (.builtin "object.__setattr__"))
  ga : findIn K (.ref C) "__getattribute__" = some (some (.builtin "BaseException.__getattribute__"))
  gg : findIn K (.ref C) "__getattr__" = some none
  iC : findIn K (.ref C) "__init__" = some (some (.ref fI))
  tC : typeIn K (.ref fI) = some (.type "function")
  kC : keepIn K (.ref C) = true
  exC : subIn K (.ref C) (.type "BaseException") = some true
  tyC : typeIn K (.ref C) = some (.type "type")
  hdC : hasDictIn K C = true
  self : mroIn K C (.ref C) = some true
  third : nsIn K cStatics "thirdparty.any" = some none
  noS : nsIn K mainGlobals "super" = some none
  fn : ∃ (oc : Value) (od : Option Addr) (doc pm : Value) (an : Option Addr) (cda : Addr) (ct : Value) (osl : Array (Option Value)) (cc : Addr) (txt : Str) (k : Nat) (p : Nat → Pos) (p1 : Pos),
    K.lookup fI = some ⟨oc, od, .func (ksFn "__init__" q (xArgs0 p1) (xBody0 txt k p) xScope0 .none .none doc pm an (.ref cda) ct cc), osl⟩ ∧ codeIn K (.ref cda) q = true ∧
    (∃ ccl cdd vs ccs file tf, K.lookup cda = some ⟨ccl, cdd, .fields vs, ccs⟩ ∧ vs[2]? = some (.str file tf) ∧ ((P.main.file : Str) == file) = true) ∧
    ((p 2).endLine == (p 4).line) = true ∧
    (∃ cl cld csl, K.lookup cc = some ⟨cl, cld, .cell (some (.ref C)), csl⟩) ∧
    (∀ a : Value, bindArgs (ksFn "__init__" q (xArgs0 p1) (xBody0 txt k p) xScope0 .none .none doc pm an (.ref cda) ct cc) ⟨[a], []⟩ = pure [(("self" : Str), a)])
  topS : (P.main.scope.names.lookup ("super" : Str)).isSome = false
section
variable {prog : Program} {w : World} {A : Around} {R : Result → Shared → Prop} {s : Shared} {K : Frag} {mg : Str → Option Value} {C fI : Addr} {nx q : Str}
theorem x_init0 (T : ExcTxt0 prog K mg nx q C fI) {x t0 : Addr} {mb : Str → Option Value} (X : K.In s.heap) (G : s.heap.Ns mainGlobals mg) (Gb : s.heap.Ns builtinsNs mb) (hb : ∀ y : Str, y ≠ "__name__" → mb y = bootBuiltins y) (hlim : s.heap.NoLimit)
    (hx : s.heap.get? x = some (excO C t0)) (hnx : K.lookup x = none) (hroom : A.depth < recursionLimit)
    (hq : ∀ h' tk t1, (∀ b o, b ≠ x → s.heap.get? b = some o → h'.get? b = some o) → h'.get? x = some (excO C t1) → R (.ok (.ret .none)) { s with heap := h', toks := tk }) :
    codeAny (model prog w) A (.call (.ref fI) ⟨[.ref x], []⟩) R s := by
  obtain ⟨oc, od, doc, pm, an, cda, ct, osl, cc, txt, k, p, p1, ho, hcd, ⟨ccl, cdd, vs, ccs, file, tf, hcode, hvs, hfile⟩, hline, ⟨cl, cld, csl, hcell⟩, hbd⟩ := T.fn
  obtain ⟨B, nw, ini, tl, bX, ⟨nm, qq, N, bs, bm, sn, sub, ab, col, dd, k0, k1, k2, k3, k5, hC, hbm⟩, veC, sup, inI⟩ := T.base
  have hcl : clsIn K C = some { name := nm, bases := bs, mro := .ref C :: bm, ns := N, qualname := qq, hasDict := true, slotNames := sn, subclasses := sub, abstract := ab, collection := col, hasDel := false } := by unfold clsIn; rw [hC] <;> rfl
  have l1 : xScope0.names.lookup ("self" : Str) = some .local := rfl
  have l3 : xScope0.names.lookup ("__class__" : Str) = some .free := by decide +kernel
  have l4 : xScope0.names.lookup ("super" : Str) = some .globalImplicit := by decide +kernel
  have hloc : ∀ y ∈ [(("self" : Str), Value.ref x)], xScope0.names.lookup y.1 = some .local := fun y hy => by
    rw [List.mem_singleton.mp hy]; exact l1
  refine ks_codeAny_call_defAt (fd := ksFn "__init__" q (xArgs0 p1) (xBody0 txt k p) xScope0 .none .none doc pm an (.ref cda) ct cc) (body := xBody0 txt k p) (binds := [("self", .ref x)])
    hroom (X _ _ ho) rfl hlim (codeRec_of X hcd) rfl (BindsTo.of_eq (hbd _)) ?_ hloc (fun h₁ hns hk₁ => ?_)
  · intro y hy
    have hy' : y ∈ [(PySem.Str.ofString "self", NameKind.local), (PySem.Str.ofString "__class__", .free), (PySem.Str.ofString "super", .globalImplicit)] := hy
    simp only [List.mem_cons, List.not_mem_nil, or_false] at hy'
    rcases hy' with rfl | rfl | rfl <;> exact (fun z => nomatch z)
  · have X₁ : K.In h₁ := X.keeps hk₁
    have hx₁ := hk₁ _ _ hx
    have xC : x ≠ C := fun z => by rw [z, hC] at hnx; cases hnx
    have mself : (fun z => List.lookup z [(PySem.Str.ofString "self", Value.ref x)].reverse) ("self" : Str) = some (.ref x) := by
      simp [List.lookup]
    have F : Fr s.heap s.heap.objs.size h₁ (fun z => List.lookup z [(PySem.Str.ofString "self", Value.ref x)].reverse) := ⟨hns, hk₁, Nat.le_refl _⟩
    show _root_.PySem.wpAt _ _ (.func (xBody0 txt k p) (ksEnv q xScope0 s.heap.objs.size fI (.ref cda) cc)) (execs _ (ksEnv q xScope0 s.heap.objs.size fI (.ref cda) cc)) _ _ _
    have he : eval (.Call (.Attribute (.Call (.Name "super" (p 0)) [] [] (p 1)) "__init__" (p 2)) [.Constant (.str txt) k (p 3)] [] (p 4)) (ksEnv q xScope0 s.heap.objs.size fI (.ref cda) cc) = (do
        let ov ← attributeBase (.Call (.Name "super" (p 0)) [] [] (p 1)) "__init__" (ksEnv q xScope0 s.heap.objs.size fI (.ref cda) cc) (eval (.Call (.Name "super" (p 0)) [] [] (p 1)) (ksEnv q xScope0 s.heap.objs.size fI (.ref cda) cc))
        standAt (p 2).atName
        let (f, first) ← holding [ov] (getMethod ov "__init__" (L2.plainOf (.Call (.Name "super" (p 0)) [] [] (p 1)) (ksEnv q xScope0 s.heap.objs.size fI (.ref cda) cc)))
        callWith (p 4) f first (backTo (p 4) (starEach [.Constant (.str txt) k (p 3)] (ksEnv q xScope0 s.heap.objs.size fI (.ref cda) cc))) []) := by
      show (attributeBase _ _ _ _ >>= fun ov => standAt _ >>= fun _ => methodCall _ _ _ _ _ ov _ _ _) = _
      congr 1
      funext ov
      congr 1
      funext _
      exact L2.mcall_line (by rfl) hline
    refine ks_wpAt_execs_cons (ks_wpAt_Expr_any (ks_wpAt_MethodCall ?_ he))
    obtain ⟨oD, hD1, hD2⟩ : ∃ oD, h₁.get? C = some oD ∧ oD.data = .cls _ := ⟨_, X₁ _ _ hC, rfl⟩
    refine ks_wpAt_super_base (env := ksEnv q xScope0 s.heap.objs.size fI (.ref cda) cc) l4 l3 (by decide) rfl (X₁ _ _ ho) rfl rfl rfl (X₁ _ _ hcode) rfl hvs hfile T.topS ?_
    refine ks_loadName_global rfl l4 (loadGlobal_builtin (env := ksEnv q xScope0 s.heap.objs.size fI (.ref cda) cc) (G.keeps hk₁) (mg_none_of X G T.noS) (Gb.keeps hk₁) ((hb _ (by decide +kernel)).trans (show bootBuiltins ("super" : Str) = some (.type "super") by first | boot_by_name | rfl | kernel_rfl)) ⟨rfl, ?_⟩)
    refine wpAny_loadName_free rfl l3 rfl ⟨_, X₁ _ _ hcell, rfl⟩ ?_
    refine wpAny_loadName_local rfl l1 F.ns mself ?_
    refine ks_wpAny_isType_cls hD1 hD2 ⟨rfl, ?_⟩
    have I₁ : InstAt h₁ x (excObj C t0 none .none) C none := ⟨hx₁, rfl, rfl, trivial⟩
    refine ks_wpAny_call_super hD1 hD2 I₁.at_ I₁.cls (fun c e => nomatch e) (looks_mroIn X₁ T.self) (fun h₂ e2 k2 => ?_)
    -- the bound wrapper, by the heap without x
    have nl1 : h₁.objs.size ≠ s.heap.objs.size := Nat.ne_of_gt F.ns.lt
    have xs : x < s.heap.objs.size := Heap.lt_size hx
    have x1 : x < h₁.objs.size := Heap.lt_size hx₁
    have hx₂ : h₂.get? x = some (excObj C t0 none .none) := k2 _ _ hx₁
    have X₀ : K.In (hideAll s.heap [x]) := fun b o e => hideAll_get _ (X b o e) (fun hb => by
      rw [List.mem_singleton.mp hb, hnx] at e
      cases e)
    have keep₀ : ∀ b o, (hideAll s.heap [x]).get? b = some o → h₁.get? b = some o := fun b o e => hk₁ b o (of_hideAll _ e)
    have F₂ : Fr (hideAll s.heap [x]) s.heap.objs.size h₂ (fun z => List.lookup z [(PySem.Str.ofString "self", Value.ref x)].reverse) :=
      ⟨hns.keeps k2, fun b o e => k2 b o (keep₀ b o e), Nat.le_of_eq (hideAll_size _ _)⟩
    have n0 : (hideAll s.heap [x]).get? h₁.objs.size = none := by
      cases z : (hideAll s.heap [x]).get? h₁.objs.size with
      | none => rfl
      | some o => exact absurd (Heap.lt_size (keep₀ _ _ z)) (Nat.lt_irrefl _)
    have N₂ : News (hideAll s.heap [x]) s.heap.objs.size h₂ [(h₁.objs.size, ks_superObj C x C), (x, excObj C t0 none .none)] := by
      intro r hr
      rcases List.mem_cons.mp hr with rfl | hr
      · exact ⟨e2, nl1, n0⟩
      · rcases List.mem_cons.mp hr with rfl | hr
        · exact ⟨hx₂, Nat.ne_of_lt xs, hideAll_none _ List.mem_cons_self⟩
        · cases hr
    have I₂ : InstAt h₂ x (excObj C t0 none .none) C none := ⟨hx₂, rfl, rfl, trivial⟩
    refine kxs_method bX.kx F₂ X₀ N₂ List.mem_cons_self I₂ T.third sup veC (by decide) (fun u h₃ F₃ N₃ lt3 => ?_)
    refine kxs_callWith1 N₃ List.mem_cons_self (Calls.spliced_cons (show wpAny _ _ (eval (.Constant (.str txt) k (p 3)) _) _ _ _ from Calls.Constant_str (Calls.spliced_nil ⟨kxs_at N₃ List.mem_cons_self, ?_⟩)))
    have hux : u ≠ x := Nat.ne_of_gt (lt3 (x, excObj C t0 none .none) (List.mem_cons_of_mem _ List.mem_cons_self))
    have hsx : h₁.objs.size ≠ x := Nat.ne_of_gt x1
    refine bX.sup F₃ X₀ N₃ inI List.mem_cons_self (.tail hux (.tail hsx (.head (fun _ h => nomatch h)))) (one_le_line _) (fun t1 h₄ F₄ N₄ lt4 => ?_)
    have hx₄ : h₄.get? x = some (excO C t1) := (N₄ (x, excObj C t1 none .none) (by simp)).1
    refine wpAt_of_wpAny (wpAny_execs_nil (hq h₄ _ t1 (fun b o hb e => F₄.keep b o (hideAll_get _ e (fun z => hb (List.mem_singleton.mp z)))) hx₄))
/-- a made one -/
structure XMade0 (h h' : Heap) (e C : Addr) : Prop where
  keep : ∀ b o, h.get? b = some o → h'.get? b = some o
  new : h.objs.size ≤ e
  obj : ∃ oe vs, h'.get? e = some oe ∧ oe.cls = .ref C ∧ oe.dict = none ∧ oe.data = .fields vs ∧ vs[1]? = some .none
theorem x_made0 (T : ExcTxt0 prog K mg nx q C fI) {mb : Str → Option Value} (X : K.In s.heap) (G : s.heap.Ns mainGlobals mg) (Gb : s.heap.Ns builtinsNs mb) (hb : ∀ y : Str, y ≠ "__name__" → mb y = bootBuiltins y) (hlim : s.heap.NoLimit) (hroom : A.depth + 1 < recursionLimit)
    (hq : ∀ h' tk e, XMade0 s.heap h' e C → R (.ok (.ret (.ref e))) { s with heap := h', toks := tk }) :
    codeAny (model prog w) A (.call (.ref C) ⟨[], []⟩) R s := by
  obtain ⟨B, nw, ini, tl, bX, ⟨nm, qq, N, bs, bm, sn, sub, ab, col, dd, k0, k1, k2, k3, k5, hC, hbm⟩, veC, sup, inI⟩ := T.base
  obtain ⟨hp, g, dr, tk, os⟩ := s
  have k : ∀ b o, hp.get? b = some o → ((hp.push (kdv_tup [])).push (excO C hp.objs.size)).get? b = some o := fun b o e => Heap.get?_push_of_some _ (Heap.get?_push_of_some _ e)
  have hget : ((hp.push (kdv_tup [])).push (excO C hp.objs.size)).get? (hp.objs.size + 1) = some (excO C hp.objs.size) := by heap_get
  have hnx : K.lookup (hp.objs.size + 1) = none := by
    cases e : K.lookup (hp.objs.size + 1) with
    | none => rfl
    | some o => exact absurd (Nat.lt_of_succ_lt (Heap.lt_size (show hp.get? (hp.objs.size + 1) = some o from X _ _ e))) (Nat.lt_irrefl _)
  refine bX.own (fun X => bX.contains X bm hbm) (X _ _ hC) (looks_findIn X T.iC) (fun self => bind_fn X self T.tC) (Nat.zero_le _) ?_
  refine x_init0 (s := ⟨(hp.push (kdv_tup [])).push (excO C hp.objs.size), g, dr, tk, os⟩) T (X.keeps k) (G.keeps k) (Gb.keeps k) hb (hlim.keeps k) hget hnx hroom fun h' tk' t1 k' hx => ?_
  exact ⟨rfl, hq h' tk' (hp.objs.size + 1) ⟨fun b o e => k' b o (Nat.ne_of_lt (Nat.lt_succ_of_lt (Heap.lt_size e))) (k b o e), Nat.le_succ _, ⟨_, _, hx, rfl, rfl, rfl, rfl⟩⟩⟩
end
end EXV
end PySem

namespace L2
open PySem PySem.Spec PyProof.Rows
section
variable {X : Cx} {C fI : Addr} {x q : Str}
/-- X(), raised: an own error without arguments -/
theorem pmk_x0 {p pos : Pos} {k : Nat} (T : PySem.EXV.ExcTxt0 X.prog X.K X.mg x q C fI) (hr : Room k X.A) (hg : Gl X x := by rfl) (hdb : (x == ("__debug__" : Str)) = false := by decide) :
    PMk X (.Call (.Name x p) [] [] pos) (fun _ H Q => Q (.ref C) none H) := by
  intro pins s σ H Q I h
  refine wpAny_Call_Name_kw (ld_glob I hg T.gC ?_ hdb)
  refine PySem.W.callWith_K0 I.kIn T.kC ?_
  have hlim := I.nolimit
  obtain ⟨mb, hb1, hb2⟩ := I.mod.blt
  have hG := I.mod.glob.keeps I.bk
  have hGb := hb1.keeps I.bk
  have I0 := I
  obtain ⟨hp, g, dr, tk, os⟩ := s
  refine wpAny_call (PySem.EXV.x_made0 T I.kIn hG hGb hb2 hlim (by have := hr.dp; omega) fun h' tk' e M => ?_)
  show MkP X pins σ Q (.ref e) ⟨h', g, dr, tk', os⟩
  obtain ⟨oe, fv, hoe, hc, hd, hdat, h1⟩ := M.obj
  obtain ⟨G', g1, g2⟩ := restrict h' fun b => decide (b ≠ e)
  have gk : ∀ b, b ≠ e → G'.get? b = h'.get? b := fun b hb => g1 b (decide_eq_true hb)
  have ge : G'.get? e = none := g2 e (by simp)
  have old : ∀ b o, hp.get? b = some o → G'.get? b = some o := fun b o z => (gk b (Nat.ne_of_lt (Nat.lt_of_lt_of_le (Heap.lt_size z) M.new))).trans (M.keep b o z)
  have J : Inv X pins σ H ⟨G', g, dr, tk', os⟩ := I0.kept (t' := tk') old
  refine ⟨e, oe, fv, ⟨G', g, dr, tk', os⟩, _, .ref C, none, rfl, J, fun b o z => ?_, ge, hoe, ⟨hc, hd⟩, hdat, h1, I0.hok.fresh M.new, rfl, I0.bare, raises_own T.exC T.tyC, h⟩
  by_cases hb : b = e
  · have z' : G'.get? b = some o := z
    rw [hb, ge] at z'; cases z'
  · exact (gk b hb).symm.trans z
theorem ps_raiseX0 {W : WX} {p pos pos2 : Pos} {k : Nat} (hc : X.calm = true) (T : PySem.EXV.ExcTxt0 X.prog X.K X.mg x q C fI) (hr : Room k X.A) (tk : Takes X W) (hg : Gl X x := by rfl) (hdb : (x == ("__debug__" : Str)) = false := by decide) :
    PS X (.Raise (some (.Call (.Name x p) [] [] pos)) none pos2) (fun _ σ H => W (.ref C) none σ H) := ps_raise hc tk (pmk_x0 T hr hg hdb)
end
end L2

/-! Own error classes over KeyError: it has no maker of its own, LookupError's serves. -/
namespace PySem
namespace EXV
open PySem.W PySem.Calls PyProof.Rows PySem.HandSPX Builtin Builtin.ObjectAttr
abbrev keT : List Value := [.type "KeyError", .type "LookupError", .type "Exception", .type "BaseException", .type "object"]
theorem kxs_keyE : KxsFacts "KeyError" "KeyError.__init__" where
  typ := by
    show builtinType _ = _
    rw [builtinType_eq_fast]
    kernel_rfl
  nac := by
    first
    | kernel_rfl
    | rfl
theorem keyE_pass (self : Value) : refuseLoop self "__setattr__" keT = pure () := by
  kernel_rfl
section
variable {M : Model} {A : Around} {E : Value → Shared → Prop} {hp : Heap} {gs : Array GenState} {dr : Drawn} {tk : Nat} {os : OsState} {nm qn : Str} {C N : Addr} {bs bm sub : List Value} {hdct ab : Bool} {sn : List Str} {col : Option Bool}
  {dd : Option Addr} {k0 k1 k2 k3 k5 : Option Value}
theorem lk_checked {more : List Value} {Q : Unit → Shared → Prop} (cL : (Value.ref C :: bm).contains (.type "LookupError") = true)
    (cls : hp.get? C = some (excClassObj nm qn C N bs bm hdct sn sub ab col dd k0 k1 k2 k3 k5 "LookupError.__new__")) (q : Q () ⟨hp, gs, dr, tk, os⟩) : wpAny M A (checkBuiltinCall "LookupError.__new__" ⟨.ref C :: more, []⟩) Q E ⟨hp, gs, dr, tk, os⟩ := by
  have lf := PySem.F.excBase_LookupError
  have ns := lf.noStar
  simp only [checkBuiltinCall, lf.newSplit, lf.newKind, lf.newRow]
  repeat (first
    | refine wpAny_madeBy_exc cls ?_
    | refine wpAny_staticBase_exc cls ?_
    | refine wpAny_loadPart_at cls ?_
    | (refine wpAny_isSubtype_exc cls ?_; rw [cL])
    | simp only [bne_self_eq_false, if_false, Bool.false_eq_true]
    | wp_step)
  exact q
theorem ke_checked {e : Addr} {oe : Obj} {more : List Value} {Q : Unit → Shared → Prop} (cls : hp.get? C = some (excClassObj nm qn C N bs bm hdct sn sub ab col dd k0 k1 k2 k3 k5 "LookupError.__new__")) (he : hp.get? e = some oe) (oc : oe.cls = .ref C)
    (q : Q () ⟨hp, gs, dr, tk, os⟩) : wpAny M A (checkBoundCall "KeyError.__init__" ⟨.ref e :: more, []⟩) Q E ⟨hp, gs, dr, tk, os⟩ := by
  have kc := excClass_KeyError
  have ns := kc.notStar
  simp only [checkBoundCall, kc.initSig, kc.initKind]
  repeat (first
    | (with_reducible refine wpAny_loadPart_at cls ?_)
    | (with_reducible refine wpAny_loadPart_at he ?_
       rw [oc])
    | wp_step)
  refine wpAny_onRaise ?_
  have st : ∀ (a b : String) (n : Nat), Bind.check ⟨.positional, "*", "KeyError", .self, [⟨"args", .varPos, false⟩]⟩ a b n (List.map (fun x => x.fst) ({ pos := Value.ref e :: more } : Args).kw) = pure () := fun a b n => check_star_args _ _ _ _ _ _
  rw [st]
  exact wpAny_pure q
end
section
variable {prog : Program} {w : World} {A : Around} {R : Result → Shared → Prop} {hp : Heap} {gs : Array GenState} {dr : Drawn} {tk : Nat} {os : OsState} {nm qn : Str} {C N fI : Addr} {bs bm sub rest : List Value}
  {hdct ab : Bool} {sn : List Str} {col : Option Bool} {dd : Option Addr} {k0 k1 k2 k3 k5 : Option Value}
theorem lk_made (cL : (Value.ref C :: bm).contains (.type "LookupError") = true) (cA : (Value.ref C :: bm).contains (.type "AttributeError") = false) (cN : (Value.ref C :: bm).contains (.type "NameError") = false)
    (cls : hp.get? C = some (excClassObj nm qn C N bs bm hdct sn sub ab col dd k0 k1 k2 k3 k5 "LookupError.__new__")) (lr : rest.length ≤ sizeLine)
    (q : R (.ok (.ret (.ref (hp.objs.size + 1)))) ⟨(hp.push (W.kdv_tup rest)).push (excO C hp.objs.size), gs, dr, tk, os⟩) : codeAny (model prog w) A (.builtin "LookupError.__new__" ⟨.ref C :: rest, []⟩) R ⟨hp, gs, dr, tk, os⟩ := by
  have lf := PySem.F.excBase_LookupError
  have en := lf.ends
  refine codeAny_builtinAt lf.entry ?_
  unfold Builtin.«BaseException.__new__»
  refine wpAt_bind ?_
  show wpAt _ _ _ (stack >>= fun _ => _) _ _ _
  refine wpAt_bind (wpAt_stack fun p b => wpAt_of_wpAny ?_)
  wp_walk
  refine wpAt_of_wpAny ?_
  rw [lf.owner]
  repeat (first
    | with_reducible refine wpAny_loadPart_at cls ?_
    | with_reducible refine wpAny_madeHere_exc lf.canon cls ?_
    | (with_reducible refine wpAny_isSubtype_exc cls ?_
       first
       | rw [cL]
       | rw [cA]
       | rw [cN])
    | wp_step)
  show R _ _
  rw [Heap.size_push]
  exact q
theorem lk_call {E : Value → Shared → Prop} {Q : Fin → Shared → Prop} (cL : (Value.ref C :: bm).contains (.type "LookupError") = true) (cA : (Value.ref C :: bm).contains (.type "AttributeError") = false) (cN : (Value.ref C :: bm).contains (.type "NameError") = false)
    (cls : hp.get? C = some (excClassObj nm qn C N bs bm hdct sn sub ab col dd k0 k1 k2 k3 k5 "LookupError.__new__")) (li : W.Looks (model prog w) hp (typeLookup (.ref C) "__init__") (some (.ref fI)))
    (lb : ∀ self, W.Looks (model prog w) hp (bindSpecial (.ref fI) self) (.ref fI, [self])) (lr : rest.length ≤ sizeLine)
    (q : codeAny (model prog w) A (.call (.ref fI) ⟨.ref (hp.objs.size + 1) :: rest, []⟩) (fun r s' => match r with
      | .ok (.ret v) => v = .none ∧ Q (.done (.ret (.ref (hp.objs.size + 1)))) s'
      | .ok _ => False
      | .error e => E e s') ⟨(hp.push (W.kdv_tup rest)).push (excO C hp.objs.size), gs, dr, tk, os⟩) :
    wpAny (model prog w) A (Builtin.«type.__call__» ⟨.ref C :: rest, []⟩) Q E ⟨hp, gs, dr, tk, os⟩ := by
  repeat (first
    | with_reducible refine wpAny_madeBy_exc cls ?_
    | with_reducible refine wpAny_loadPart_at cls ?_
    | wp_step)
  refine codeAny_call_builtin_code (Code.quiet_builtin _ PySem.F.excBase_LookupError.quiet) (lk_checked cL cls (lk_made cL cA cN cls lr ?_))
  show wpAny _ _ _ _ _ _
  have old : ∀ b o, hp.get? b = some o → ((hp.push (W.kdv_tup rest)).push (excO C hp.objs.size)).get? b = some o := fun b o z => Heap.get?_push_of_some _ (Heap.get?_push_of_some _ z)
  have cls2 := old _ _ cls
  have new : ((hp.push (W.kdv_tup rest)).push (excO C hp.objs.size)).get? (hp.objs.size + 1) = some (excO C hp.objs.size) := by
    heap_get
  have cC : (Value.ref C :: bm).contains (.ref C) = true := by
    simp
  have li2 := li.keeps old
  have lb2 := (lb (.ref (hp.objs.size + 1))).keeps old
  unfold isInstance
  repeat (first
    | with_reducible refine wpAny_loadPart_at new ?_
    | (with_reducible refine wpAny_isSubtype_exc cls2 ?_
       rw [cC])
    | wp_step)
  show wpAny _ _ (typeLookup (.ref C) _) _ _ _
  refine li2.at (wpAny_holding (wpAny_bind (lb2.at (wpAny_bind (wpAny_call (codeAny_mono q fun r s' z => ?_))))))
  match r, z with
  | .error _, z => exact z
  | .ok .next, z => exact z.elim
  | .ok .brk, z => exact z.elim
  | .ok .cont, z => exact z.elim
  | .ok (.ret v), z =>
    obtain ⟨rfl, z⟩ := z
    first
    | exact wpAny_pure (wpAny_pure z)
    | (wp_walk
       exact z)
theorem ke_own (hT : ∀ X : String, bm.contains (.type X) = keT.contains (.type X))
    (cls : hp.get? C = some (excClassObj nm qn C N bs bm hdct sn sub ab col dd k0 k1 k2 k3 k5 "LookupError.__new__")) (li : W.Looks (model prog w) hp (typeLookup (.ref C) "__init__") (some (.ref fI)))
    (lb : ∀ self, W.Looks (model prog w) hp (bindSpecial (.ref fI) self) (.ref fI, [self])) (lr : rest.length ≤ sizeLine)
    (q : codeAny (model prog w) (A.under (.builtin "type.__call__" ⟨.ref C :: rest, []⟩)) (.call (.ref fI) ⟨.ref (hp.objs.size + 1) :: rest, []⟩) (W.InitBack (hp.objs.size + 1) R) ⟨(hp.push (W.kdv_tup rest)).push (excO C hp.objs.size), gs, dr, tk, os⟩) :
    codeAny (model prog w) A (.call (.ref C) ⟨rest, []⟩) R ⟨hp, gs, dr, tk, os⟩ := by
  have cX : ∀ X : String, (Value.ref C :: bm).contains (.type X) = keT.contains (.type X) := fun X => by
    rw [List.contains_cons, hT]
    rfl
  have t1 := tc_lookup
  have t2 := tc_bind (.ref C)
  have ty : (⟨hp, gs, dr, tk, os⟩ : Shared).TypeIs (.ref C) "type" := ⟨_, cls, rfl⟩
  refine codeAny_of_tree ?_
  show wpAny _ _ (callAny (.ref C) ⟨rest, []⟩) _ _ _
  repeat (any_goals (first
    | with_reducible refine wpAny_loadPart_at cls ?_
    | assumption
    | wp_step))
  refine ⟨rfl, codeAny_call_builtin_at (Code.quiet_builtin _ (by decide +kernel)) entry_typeCall (wpAny_check_type_call_sub cls (lk_call ((cX _).trans (by decide +kernel)) ((cX _).trans (by decide +kernel)) ((cX _).trans (by decide +kernel)) cls li lb lr ?_))⟩
  refine codeAny_mono q fun r s' z => ?_
  match r, z with
  | .error _, z => exact z
  | .ok .next, z => exact z
  | .ok .brk, z => exact z
  | .ok .cont, z => exact z
  | .ok (.ret v), z => exact z
end
section
variable {prog : Program} {w : World} {A : Around} {E : Value → Shared → Prop} {s : Shared} {h₀ : Heap} {L : Addr} {m : Str → Option Value} {news : List (Addr × Obj)} {K : Frag} {x C u t : Addr} {dv : Option Addr} {c2 : Value} {rest : List Value} {nws : Obj → List (Addr × Obj)}
theorem ke_sup {Q : Value → Shared → Prop} (f : Fr h₀ L s.heap m) (X : K.In h₀) (n : News h₀ L s.heap news) (ei : excInitIn K C keT "LookupError.__new__" = true) (hu : (u, kxs_mw "KeyError.__init__" x) ∈ news) (up : UpdF x (excObj C t dv c2) news nws)
    (lr : rest.length ≤ sizeLine) (q : ∀ t' h', Fr h₀ L h' m → News h₀ L h' ((t', excTup rest) :: nws (excObj C t' dv c2)) → (∀ p ∈ news, p.1 < t') → Q .none { s with heap := h' }) : wpAny (model prog w) A (call (.ref u) rest) Q E s := by
  obtain ⟨nm, N', qn, bs, bm, hdct, sn, sub, ab, col, dd, k0, k1, k2, k3, k5, cls, _⟩ := excInit_of (X.keeps f.keep) ei
  have gu := (n _ hu).1
  obtain ⟨pre, post, rfl, un, l1, l2⟩ := up.split
  have gx := (n (x, excObj C t dv c2) (List.mem_append_right _ List.mem_cons_self)).1
  have lt : ∀ p ∈ pre ++ (x, excObj C t dv c2) :: post, p.1 < s.heap.objs.size := fun p hp => Heap.lt_size (n p hp).1
  have fin : ∀ h', (∀ b o, b ≠ x → s.heap.get? b = some o → h'.get? b = some o) → h'.get? x = some (excObj C s.heap.objs.size dv c2) → h'.get? s.heap.objs.size = some (excTup rest) → Q .none { s with heap := h' } := by
    intro h' keep gx' gt'
    obtain ⟨oL, es, ep, gL, nsr⟩ := f.ns
    have nx := (n (x, excObj C t dv c2) (List.mem_append_right _ List.mem_cons_self)).2
    have keep0 : ∀ b o, h₀.get? b = some o → h'.get? b = some o := fun b o z => keep b o (fun y => by
      rw [y, nx.2] at z
      cases z) (f.keep b o z)
    refine q s.heap.objs.size h' ⟨⟨oL, es, ep, keep _ _ (fun z => nx.1 z.symm) gL, nsr⟩, keep0, f.above⟩ ?_ lt
    rw [un]
    intro p hp
    have lL := Heap.lt_size (show s.heap.get? L = some oL from gL)
    rcases List.mem_cons.mp hp with rfl | hp
    · refine ⟨gt', fun z => absurd (show s.heap.objs.size < s.heap.objs.size by rw [show s.heap.objs.size = L from z] at lL ⊢; exact lL) (Nat.lt_irrefl _), ?_⟩
      cases z : h₀.get? s.heap.objs.size with
      | none => rfl
      | some o => exact absurd (Heap.lt_size (f.keep _ _ z)) (Nat.lt_irrefl _)
    · rcases List.mem_append.mp hp with hp | hp
      · have y := n p (List.mem_append_left _ hp)
        exact ⟨keep _ _ (l1 p hp) y.1, y.2⟩
      · rcases List.mem_cons.mp hp with rfl | hp
        · exact ⟨gx', nx⟩
        · have y := n p (List.mem_append_right _ (List.mem_cons_of_mem _ hp))
          exact ⟨keep _ _ (l2 p hp) y.1, y.2⟩
  obtain ⟨hp, gs, dr, tk, os⟩ := s
  refine wpAny_call (codeAny_of_tree ?_)
  show wpAny _ A.in1 (callAny (.ref u) ⟨rest, []⟩) _ _ _
  simp only [callAny]
  refine wpAny_bind (wpAny_load gu ?_)
  have mw : (Value.type "method-wrapper" == Value.type "method" || Value.type "method-wrapper" == Value.type "builtin_function_or_method" || Value.type "method-wrapper" == Value.type "method-wrapper") = true := by decide
  simp only [kxs_mw, mw, if_true]
  refine KFB.if_so (by decide) (wpAny_bind (ke_checked cls gx rfl (wpAny_bind (wpAny_pure (wpAny_pure ?_)))))
  exact ⟨plainId_quiet excClass_KeyError.init.plain _, codeAny_builtin excClass_KeyError.initEntry (exc_init_tree (cls := .ref C) (t0 := t) (dv := dv) (c2 := c2) (c3 := .none) (b4 := .bool false) gx lr fin)⟩
end
theorem base_KeyError : BaseX "KeyError" "LookupError.__new__" "KeyError.__init__" keT :=
  ⟨fun hT c li lb lr q => ke_own hT c li lb lr q, fun f X n ei hu up lr q => ke_sup f X n ei hu up lr q, kxs_keyE, keyE_pass, by decide +kernel, (fun _ _ h => nomatch h), (fun h => nomatch h)⟩
end EXV
end PySem

/-! Own layer: repr of nested data. repr asks that no repr is under way around it, so such defs promise only there (FnG). -/
namespace L2
open PySem PySem.Spec PyProof.Rows
/-! ### defs that are called where no repr is under way -/
structure FnG (P : Program) (w : World) (K : PySem.W.Frag) (mg : Str → Option Value) (base : Heap) (CX : CXT) (k : Nat) (f : Addr) (fd : FuncData) (ps : List Str) (sp : Sp) : Prop where
  len : ∀ vs H Q E, sp vs H Q E → vs.length = ps.length
  run : ∀ (A : Around) (outer : List Env) (s : Shared) (H : Hp) (args : Args) (us : List Value) (vs : List V) (Q : VK) (E : XK), Room k A → A.guards = some [] → Env0 P w K mg base A outer s H → BindsTo s fd args (ps.zip us) → Vals vs us → sp vs H Q E →
    codeAny (model P w) A (.call (.ref f) args) (CR CX outer P w H s Q E) s
section
variable {P : Program} {w : World} {K : PySem.W.Frag} {mg : Str → Option Value} {base : Heap} {CX : CXT} {k : Nat} {f : Addr} {fd : FuncData} {ps : List Str} {sp : Sp}
theorem FnOk.toG (F : FnOk P w K mg base CX k f fd ps sp) : FnG P w K mg base CX k f fd ps sp :=
  ⟨F.len, fun A outer s H args us vs Q E hr _ => F.run A outer s H args us vs Q E hr⟩
theorem FnG.mono {j : Nat} (F : FnG P w K mg base CX j f fd ps sp) (h : j ≤ k) : FnG P w K mg base CX k f fd ps sp :=
  ⟨F.len, fun A outer s H args us vs Q E hr => F.run A outer s H args us vs Q E (hr.mono h)⟩
/-- a def, by its body -/
theorem FunD.okG {x qual : Str} {params : Arguments} {body : List Stmt} {scope : Scope} {dvs : List V} {kws : List (Str × V)} {N : List Str} (F : FunD K x qual params body scope dvs kws f fd) (S : FnScope N ps scope) (len : ∀ vs H Q E, sp vs H Q E → vs.length = ps.length)
    (hbody : ∀ (cdv : Value) (A : Around) (outer : List Env) (s : Shared) (H : Hp) (vs : List V) (Q : VK) (E : XK), Room k (A.deeper (envOfC qual scope s.heap.objs.size f cdv)) → A.guards = some [] → sp vs H Q E →
      ∃ t, PSs (cxOf CX P w K mg base N qual scope f cdv A outer s H E) body t ∧ t { nx := fun _ H' => Q .non H', rt := Q } (start N vs) H) : FnG P w K mg base CX (k + 1) f fd ps sp := by
  obtain ⟨oc, od, dV, kV, doc, pm, an, cdv, ct, osl, rfl, lk, hcd, _, _⟩ := F.ex
  refine ⟨len, fun A outer s H args us vs Q E hr hg e0 hb r hsp => ?_⟩
  have hl := len _ _ _ _ hsp
  have KX : K.In s.heap := e0.mod.kin.keeps fun b o e => (e0.bs b o e).1
  have lim : s.heap.NoLimit := e0.mod.nolimit.keeps fun b o e => (e0.bs b o e).1
  refine codeAny_call_function hr.depth (KX _ _ lk) rfl S.co S.gen rfl (PySem.W.codeRec_of KX hcd) (hb _ _ _ _ ?_)
  refine wpAny_newFunctionEnv_cells S.kind (fun ⟨n, v⟩ hy => (S.par n (List.of_mem_zip hy).1).elim .inl fun q => .inr ⟨q, PySem.W.cellsFrom_some _ _ _ (.inl q)⟩) fun env he s1 x => ?_
  subst he
  refine ⟨lim.keeps x.toInCall.keep, codeAny_func ?_⟩
  obtain ⟨t, ht, hq⟩ := hbody cdv A outer s H vs Q E (hr.deeper _) hg hsp
  have I : Inv (cxOf CX P w K mg base N qual scope f cdv A outer s H E) [] (start N vs) H s1 := inv_start S hr.hd e0 hl r x
  refine wpAny_mono (ht.run [] s1 (start N vs) H _ I hq) (fun fl s' hs => ?_) fun e s' hs => hs
  cases fl with
  | ret u =>
    obtain ⟨v, σ', H', J, rv, q⟩ := hs
    exact ⟨v, H', J.os, J.bare, J.base, J.hok, rv, q⟩
  | next =>
    obtain ⟨σ', H', J, q⟩ := hs
    exact ⟨V.non, H', J.os, J.bare, J.base, J.hok, rfl, q⟩
  | brk => exact hs.elim fun _ h => h.elim fun _ h => h.2.elim
  | cont => exact hs.elim fun _ h => h.elim fun _ h => h.2.elim
end
section
variable {X : Cx} {CX : CXT} {k n : Nat} {f : Addr} {fd : FuncData} {ps ks : List Str} {sp : Sp} {dvs : List V} {ds : List Value} {E : XK} {x : Str} {p pos : Pos} {e : Expr} {es : List Expr} {kws : List Keyword} {t tk : TA} {g : List Value → List Value → List Value} {gV : List V → List V → List V}
theorem run_fnG {pins : List (Addr × Obj)} {σ : St} {H : Hp} {s : Shared} {Q : VK} {us : List Value} {vs : List V} (hA : X.A.guards = some []) (F : FnG X.prog X.w X.K X.mg X.base CX k f fd ps sp) (hr : Room k X.A) (hb : Binds X.K fd ps ds) (hd : Vals dvs ds) (hx : Passes CX X E)
    (I : Inv X pins σ H s) (r : Vals vs us) (h : sp (vs ++ dvs) H Q E) : wpAny (model X.prog X.w) X.A (call (.ref f) us) (EP X pins σ Q) X.xe s := by
  have r2 : Vals (vs ++ dvs) (us ++ ds) := r.append hd
  have hl : (us ++ ds).length = ps.length := by rw [← r2.length]; exact F.len _ _ _ _ h
  refine wpAny_call (codeAny_mono (F.run X.A X.stack s H ⟨us, []⟩ (us ++ ds) (vs ++ dvs) Q E hr hA I.env0 (hb s us I.kIn hl) r2 h) fun r s' hq => ?_)
  match r, hq with
  | .error e, hq => exact hx pins σ H s e s' I hq
  | .ok (.ret u), hq => exact I.after hq
  | .ok .next, hq => exact hq.elim
  | .ok .brk, hq => exact hq.elim
  | .ok .cont, hq => exact hq.elim
theorem pe_callG (hA : X.A.guards = some []) (F : FnG X.prog X.w X.K X.mg X.base CX k f fd ps sp) (hr : Room k X.A) (hg : Gl X x) (hm : X.mg x = some (.ref f)) (hk : PySem.W.keepIn X.K (.ref f) = true) (hb : Binds X.K fd ps ds) (hd : Vals dvs ds) (hx : Passes CX X E)
    (ha : PA X (e :: es) t) (hdb : (x == ("__debug__" : Str)) = false := by decide) (he : starEach (e :: es) X.env = (false, eval e X.env) :: starEach es X.env := by rfl) (hpl : (backTo pos (starEach es X.env)).any (·.1) = false := by rfl) :
    PE X (.Call (.Name x p) (e :: es) [] pos) (tCall sp dvs E t) := by
  refine ⟨fun pins s σ H Q I h => wpAny_Call_Name_kw (ld_glob I hg hm ?_ hdb)⟩
  exact PySem.W.callWith_K (h₀ := X.base) I.ok.mod.kin hk (thn (ha.run pos pins s σ H _ I h) fun us s1 ⟨vs, H1, I1, r, q⟩ => ⟨I1.kIn, run_fnG hA F hr hb hd hx I1 r q⟩) he hpl
theorem pe_callG0 (hA : X.A.guards = some []) (F : FnG X.prog X.w X.K X.mg X.base CX k f fd ps sp) (hr : Room k X.A) (hg : Gl X x) (hm : X.mg x = some (.ref f)) (hk : PySem.W.keepIn X.K (.ref f) = true) (hb : Binds X.K fd ps ds) (hd : Vals dvs ds) (hx : Passes CX X E)
    (hdb : (x == ("__debug__" : Str)) = false := by decide) : PE X (.Call (.Name x p) [] [] pos) (tCall sp dvs E tNil) := by
  refine ⟨fun pins s σ H Q I h => wpAny_Call_Name_kw (ld_glob I hg hm ?_ hdb)⟩
  exact PySem.W.callWith_K0 I.kIn hk (run_fnG (us := []) hA F hr hb hd hx I .nil h)
end
/-! ### data with dicts, as repr reads it -/
def keyD : Key → PyData
  | .inl i => .int i
  | .inr x => .str x
mutual
inductive Dx (K : PySem.W.Frag) (H : Hp) : V → PyData → Prop
  | non : Dx K H .non .none
  | bl (b : Bool) : Dx K H (.bl b) (.bool b)
  | int (i : Int) : Dx K H (.int i) (.int i)
  | str (x : Str) : Dx K H (.str x) (.str x)
  | lst {a : Addr} {xs : List V} {ds : List PyData} : SqL K H a xs → DxAll K H xs ds → Dx K H (.ref a) (.list ds)
  | tup {a : Addr} {xs : List V} {ds : List PyData} : SqT K H a xs → DxAll K H xs ds → Dx K H (.ref a) (.tuple ds)
  | dic {a : Addr} {ks : List (Key × V)} {kvs : List (PyData × PyData)} : Rd H a (.dK ks) → kvs.map (·.1) = ks.map (fun p => keyD p.1) → DxAll K H (ks.map (·.2)) (kvs.map (·.2)) → Dx K H (.ref a) (.dict kvs)
inductive DxAll (K : PySem.W.Frag) (H : Hp) : List V → List PyData → Prop
  | nil : DxAll K H [] []
  | cons {v : V} {vs : List V} {d : PyData} {ds : List PyData} : Dx K H v d → DxAll K H vs ds → DxAll K H (v :: vs) (d :: ds)
end
section
variable {X : Cx} {pins : List (Addr × Obj)} {σ : St} {H : Hp} {s : Shared}
theorem keys_read {h : Heap} : ∀ {es : List DictEntry} {vs : List (Key × Value)} {knd : PySem.KeyKind X.prog X.w Key}, knd.is = keyIs → Pairs knd es vs → ReadsAll h (es.map (·.key)) (vs.map fun q => keyD q.1) []
  | _, _, _, _, .nil => .nil
  | e :: es, q :: qs, knd, hk, .cons h1 h2 h3 => by
    have r := keys_read (h := h) hk h3
    rw [hk] at h1
    rcases keyIs_shape h1 with ⟨i, t, e1, e2⟩ | ⟨x, t, e1, e2⟩
    · rw [List.map_cons, List.map_cons, e1, e2]
      exact .cons (as := []) (.int i t) r
    · rw [List.map_cons, List.map_cons, e1, e2]
      exact .cons (as := []) (.str x t) r
theorem pairs_vals {es : List DictEntry} {vs : List (Key × Value)} {knd : PySem.KeyKind X.prog X.w Key} (h : Pairs knd es vs) : es.map (·.val) = vs.map (·.2) := by
  induction h with
  | nil => rfl
  | cons h1 h2 h3 ih => rw [List.map_cons, List.map_cons, h2, ih]
theorem kv_keys {ks : List (Key × V)} {vs : List (Key × Value)} (h : KV ks vs) : vs.map (fun q => keyD q.1) = ks.map (fun p => keyD p.1) := by
  unfold KV at h
  induction h with
  | nil => rfl
  | cons h1 h2 ih => rw [List.map_cons, List.map_cons, ih, h1.1]
theorem kv_vals {ks : List (Key × V)} {vs : List (Key × Value)} (h : KV ks vs) : Vals (ks.map (·.2)) (vs.map (·.2)) := by
  unfold KV at h
  induction h with
  | nil => exact .nil
  | cons h1 h2 ih => exact .cons h1.2 ih
end
end L2

namespace L2
open PySem PySem.Spec PyProof.Rows
section
variable {X : Cx} {pins : List (Addr × Obj)} {σ : St} {H : Hp} {s : Shared}
/-- the module's dict of modules is among the written part's objects -/
def HasSm (K : PySem.W.Frag) : Prop := ∃ o, K.lookup sysModules = some o ∧ o.cls = .type "dict"
mutual
theorem Dx.reads (I : Inv X pins σ H s) (sm : HasSm X.K) : ∀ (d : PyData) (v : V) (u : Value), Dx X.K H v d → RelV v u → ∃ as, Reads s.heap u d as ∧ sysModules ∉ as
  | .none, _, _, h, r => by cases h; cases r; exact ⟨_, Reads.none, by simp⟩
  | .bool b, _, _, h, r => by cases h; cases r; exact ⟨_, Reads.bool b, by simp⟩
  | .int i, _, _, h, r => by cases h; obtain ⟨t, rfl⟩ := r; exact ⟨_, Reads.int i t, by simp⟩
  | .str x, _, _, h, r => by cases h; obtain ⟨t, rfl⟩ := r; exact ⟨_, Reads.str x t, by simp⟩
  | .list ds, _, _, h, r => by
    cases h with
    | lst hs ha =>
      cases r
      obtain ⟨its, rv, ⟨o, n, ho, hc, _, hd⟩, _⟩ := I.list hs
      obtain ⟨as, hr, hn⟩ := Dx.readsAll I sm ds _ its ha rv
      refine ⟨_, Reads.list ho hc hd hr, fun hm => ?_⟩
      rcases List.mem_cons.mp hm with e | hm
      · obtain ⟨o', k1, k2⟩ := sm
        have q := I.kIn _ _ k1
        rw [e, ho] at q
        cases q
        rw [hc] at k2
        exact absurd k2 (by decide)
      · exact hn hm
  | .tuple ds, _, _, h, r => by
    cases h with
    | tup hs ha =>
      cases r
      obtain ⟨its, rv, ⟨o, ho, hc, n, hd⟩, _⟩ := I.tuple hs
      obtain ⟨as, hr, hn⟩ := Dx.readsAll I sm ds _ its ha rv
      exact ⟨_, Reads.tuple ho hc hd hr, hn⟩
  | .dict kvs, _, _, h, r => by
    cases h with
    | dic hs hk ha =>
      cases r
      obtain ⟨_, hsm, vs, rel, o, es, ep, ho, hx, hd, _, hp, _⟩ := dk_rd I.hok hs
      obtain ⟨bs, hr, hn⟩ := Dx.readsKv I sm kvs _ (vs.map (·.2)) ha (kv_vals rel)
      have r1 : ReadsAll s.heap (es.toList.map (·.key)) (kvs.map (·.1)) [] := by
        rw [hk, ← kv_keys rel]
        exact keys_read (X := X) rfl hp
      rw [← pairs_vals hp] at hr
      refine ⟨_, Reads.dict ho hx.1 hd r1 hr, fun hm => ?_⟩
      rcases List.mem_append.mp hm with hm | hm
      · rw [List.mem_singleton.mp hm] at hsm
        simp at hsm
      · exact hn hm
theorem Dx.readsAll (I : Inv X pins σ H s) (sm : HasSm X.K) : ∀ (ds : List PyData) (vs : List V) (us : List Value), DxAll X.K H vs ds → Vals vs us → ∃ as, ReadsAll s.heap us ds as ∧ sysModules ∉ as
  | [], _, _, h, r => by cases h; cases r; exact ⟨_, ReadsAll.nil, by simp⟩
  | d :: ds, _, _, h, r => by
    cases h with
    | cons h1 h2 =>
      cases r with
      | cons r1 r2 =>
        obtain ⟨as, q1, n1⟩ := Dx.reads I sm d _ _ h1 r1
        obtain ⟨bs, q2, n2⟩ := Dx.readsAll I sm ds _ _ h2 r2
        exact ⟨_, ReadsAll.cons q1 q2, fun hm => (List.mem_append.mp hm).elim n1 n2⟩
theorem Dx.readsKv (I : Inv X pins σ H s) (sm : HasSm X.K) : ∀ (kvs : List (PyData × PyData)) (vs : List V) (us : List Value), DxAll X.K H vs (kvs.map (·.2)) → Vals vs us → ∃ as, ReadsAll s.heap us (kvs.map (·.2)) as ∧ sysModules ∉ as
  | [], _, _, h, r => by cases h; cases r; exact ⟨_, ReadsAll.nil, by simp⟩
  | (k, d) :: ds, _, _, h, r => by
    rw [List.map_cons] at h ⊢
    cases h with
    | cons h1 h2 =>
      cases r with
      | cons r1 r2 =>
        obtain ⟨as, q1, n1⟩ := Dx.reads I sm d _ _ h1 r1
        obtain ⟨bs, q2, n2⟩ := Dx.readsKv I sm ds _ _ h2 r2
        exact ⟨_, ReadsAll.cons q1 q2, fun hm => (List.mem_append.mp hm).elim n1 n2⟩
end
/-- what repr may be asked of: ints of less than 1920 bits, nested at most 60 deep, a text that fits -/
def Fine (d : PyData) : Prop := d.showable = true ∧ d.depth ≤ 60 ∧ d.shown.length ≤ sizeLine
def rReprD (K : PySem.W.Frag) : List V → Hp → VK → Prop := fun xs H Q => ∃ x d, xs = [x] ∧ Dx K H x d ∧ Fine d ∧ Q (.str d.shown) H
theorem call_reprD (hA : X.A.guards = some []) (hu : X.A.units + 64 < cLine) (sm : HasSm X.K) : CallR X (.builtin "repr") (rReprD X.K) := by
  intro pins s σ H xs us Q I r h
  obtain ⟨x, d, rfl, hd, ⟨h1, h2, h3⟩, q⟩ := h
  obtain ⟨u, rfl, ru⟩ := vals1 r
  obtain ⟨as, hr, hn⟩ := Dx.reads I sm d x u hd ru
  have fin : ∀ (h' : Heap) (t : Tok) (tk : Nat), (∀ b o, s.heap.get? b = some o → h'.get? b = some o) → EP X pins σ Q (.str d.shown t) { s with heap := h', toks := tk } := fun h' t tk hk =>
    ⟨.str _, H, I.kept (t' := tk) hk, ⟨t, rfl⟩, q⟩
  cases hr with
  | none => exact PySem.P.repr_of_none (fin s.heap _ _ fun _ _ e => e)
  | bool b => exact PySem.P.repr_of_bool (fin s.heap _ _ fun _ _ e => e)
  | int i t => exact PySem.P.repr_of_int (by simpa [PyData.showable] using h1) (fin s.heap _ _ fun _ _ e => e)
  | str y t => exact PySem.P.repr_of_str (fin s.heap _ _ fun _ _ e => e) h3
  | list a1 a2 a3 a4 => exact repr_of_reads' (.list a1 a2 a3 a4) h1 (fun _ => hn) hA (by omega) (fun _ _ e => e) (fun h' u tk hk => fin h' u tk hk) h3
  | tuple a1 a2 a3 a4 => exact repr_of_reads' (.tuple a1 a2 a3 a4) h1 (fun _ => hn) hA (by omega) (fun _ _ e => e) (fun h' u tk hk => fin h' u tk hk) h3
  | dict a1 a2 a3 a4 a5 => exact repr_of_reads' (.dict a1 a2 a3 a4 a5) h1 (fun _ => hn) hA (by omega) (fun _ _ e => e) (fun h' u tk hk => fin h' u tk hk) h3
end
end L2

namespace L2
open PySem PySem.Spec PyProof.Rows
section
variable {P : Program} {w : World} {K : PySem.W.Frag} {mg mb : Str → Option Value} {s₁ : Shared}
/-- the state behind the top, seen with the objects of H tracked: none of them holds names, none is the written part's -/
theorem top_env0 (KX : K.In s₁.heap) (hns : s₁.heap.Ns mainGlobals mg) (hb : s₁.heap.Ns builtinsNs mb) (hbb : ∀ x : Str, x ≠ "__name__" → mb x = bootBuiltins x) (hlim : s₁.heap.NoLimit) (hg : s₁.gens = #[])
    {H : Hp} (hok : HOk P w H s₁.heap) (hA : ∀ b o, H b ≠ none → s₁.heap.get? b = some o → ∀ es ep, o.data ≠ .dict es ep) (hK : ∀ b, H b ≠ none → K.lookup b = none) :
    Env0 P w K mg (hidT s₁.heap H) callerA [] s₁ H ∧ K.In (hidT s₁.heap H) ∧ (hidT s₁.heap H).Ns mainGlobals mg := by
  have keepN : ∀ {b : Addr} {m : Str → Option Value}, s₁.heap.Ns b m → (hidT s₁.heap H).Ns b m := fun {b m} ⟨o, es, ep, e, d, r⟩ =>
    ⟨o, es, ep, hidT_get e (Classical.byContradiction fun z => hA b o z e es ep d), d, r⟩
  have keepK : K.In (hidT s₁.heap H) := fun b o e => hidT_get (KX b o e) (Classical.byContradiction fun z => by rw [hK b z] at e; cases e)
  refine ⟨⟨rfl, ⟨keepK, keepN hns, ⟨mb, keepN hb, hbb⟩, ?_⟩, fun b o e => of_hidT e, Nat.le_of_eq (hidT_size _ _), trivial, fun b hb => ?_, hok, .of_eq hg⟩, keepK, keepN hns⟩
  · obtain ⟨mc, h1, h2⟩ := hlim
    exact ⟨mc, keepN h1, h2⟩
  · exact absurd (show b ∈ ([] : List Addr) from hb) (List.not_mem_nil)
/-- the law's call: its def promises where no repr is under way -/
theorem law_callG {CX : CXT} {k : Nat} {fa a : Addr} {fd : FuncData} {x : Str} {sp : Sp} {vs : List Value} {ns : List Int}
    (KX : K.In s₁.heap) (hns : s₁.heap.Ns mainGlobals mg) (hb : s₁.heap.Ns builtinsNs mb) (hbb : ∀ x : Str, x ≠ "__name__" → mb x = bootBuiltins x) (hlim : s₁.heap.NoLimit) (hg : s₁.gens = #[])
    (ha : s₁.heap.get? a = some { cls := .type "list", data := .seq vs.toArray }) (hi : IntsAre vs ns) (hl : ns.length ≤ sizeLine) (hr : Room k callerA)
    (F : ∀ base : Heap, K.In base → base.Ns mainGlobals mg → FnG P w K mg base CX k fa fd [x] sp) (hbind : ∀ (s : Shared) (u : Value), BindsTo s fd ⟨[u], []⟩ [(x, u)])
    (hsp : ∀ H : Hp, Only H → SqL K H a (ns.map V.int) → sp [.ref a] H (fun v _ => v = .bl true) fun _ _ _ => False)
    (hCX : ∀ H e s', CX [] H s₁ (fun _ _ _ => False) e s' → False) :
    codeAny (model P w) callerA (.call (.ref fa) ⟨[.ref a], []⟩) (fun r s' => r = .ok (.ret (.bool true)) ∧ OldK s₁.heap s'.heap ∧ s'.os = s₁.os ∧ AllBare s'.gens) s₁ := by
  have rv := vals_ints hi
  -- once H is chosen
  have go : ∀ H : Hp, Only H → SqL K H a (ns.map V.int) → HOk P w H s₁.heap → (∀ b, H b ≠ none → b = a ∧ K.lookup b = none) →
      codeAny (model P w) callerA (.call (.ref fa) ⟨[.ref a], []⟩) (fun r s' => r = .ok (.ret (.bool true)) ∧ OldK s₁.heap s'.heap ∧ s'.os = s₁.os ∧ AllBare s'.gens) s₁ := by
    intro H hO hS hok hA
    obtain ⟨e0, b1, b2⟩ := top_env0 (P := P) (w := w) KX hns hb hbb hlim hg hok (fun b o z e es ep d => by
      rw [(hA b z).1, ha] at e
      cases e
      exact Data.noConfusion d) fun b z => (hA b z).2
    refine codeAny_mono ((F _ b1 b2).run callerA [] s₁ H ⟨[.ref a], []⟩ [.ref a] [.ref a] _ _ hr rfl e0 (hbind s₁ (.ref a)) (.cons rfl .nil) (hsp H hO hS)) fun r s' h => ?_
    match r, h with
    | .error e, h => exact (hCX H e s' h).elim
    | .ok .next, h => exact h.elim
    | .ok .brk, h => exact h.elim
    | .ok .cont, h => exact h.elim
    | .ok (.ret u), h =>
      obtain ⟨v, H', os, bare, un, hok', r', q⟩ := h
      have q2 : v = .bl true := q
      subst q2
      obtain rfl : u = Value.bool true := r'
      refine ⟨rfl, OldK.of_keep fun b o e => ?_, os, bare⟩
      rcases hO b with z | ⟨ob, xs, z⟩
      · exact un.keep b o e z (List.not_mem_nil) (List.not_mem_nil)
      · have e1 := (hok b _ z).1
        have e2 := (hok' b _ (un.frzs b ob _ z)).1
        rw [e] at e1
        cases e1
        exact e2
  cases hk : K.lookup a with
  | some o =>
    have e := KX a o hk
    rw [ha] at e
    cases e
    refine go (fun _ => none) (fun _ => .inl rfl) (.inr ⟨_, vs.toArray, _, hk, rfl, rfl, rfl, ?_, by simpa using rv⟩) (fun b u z => nomatch (show (none : Option HO) = some u from z)) fun b z => absurd rfl z
    rw [List.size_toArray, hi.length]
    exact hl
  | none =>
    have at_a : ∀ {b : Addr} {u : HO}, (if b = a then some (HO.frz { cls := .type "list", data := .seq vs.toArray } (.lst (ns.map V.int))) else none) = some u → b = a ∧ u = .frz { cls := .type "list", data := .seq vs.toArray } (.lst (ns.map V.int)) := fun {b u} z => by
      split at z
      · rename_i hb
        cases z
        exact ⟨hb, rfl⟩
      · cases z
    refine go (fun b => if b = a then some (.frz { cls := .type "list", data := .seq vs.toArray } (.lst (ns.map V.int))) else none) (fun b => ?_) (.inl (.inr ⟨{ cls := .type "list", data := .seq vs.toArray }, if_pos rfl⟩)) (fun b u z => ?_) fun b z => ?_
    · by_cases hb : b = a
      · exact .inr ⟨_, _, if_pos hb⟩
      · exact .inl (if_neg hb)
    · obtain ⟨rfl, rfl⟩ := at_a z
      exact ⟨ha, by rw [List.length_map]; exact hl, vs, _, rv, ha⟩
    · obtain ⟨u, hu⟩ := Option.ne_none_iff_exists'.mp z
      obtain ⟨rfl, _⟩ := at_a hu
      exact ⟨rfl, hk⟩
end
/-- a law over a head by facts, its def under no repr -/
theorem walk_ofG {l : PySem.W.OpenLaw} {n k : Nat} {q : Program} {loose : List Str} {XP : (Str → Option Value) → Heap → Prop} {YP : World → Heap → Prop} {d : DefRec} {CX : CXT} {x : Str}
    (hn : l.most = some n) (hn2 : n ≤ sizeLine) (hdf : d.params.defaults = []) (hr : Room k callerA)
    (F : ∀ (w : World) (mg : Str → Option Value) (fa : Addr) (h : Heap), YP w h → h.Ns mainGlobals mg → mg d.name = some (.ref fa) →
      ∃ (K : PySem.W.Frag) (fd : FuncData) (sp : Sp), K.In h ∧ (∀ (s : Shared) (u : Value), BindsTo s fd ⟨[u], []⟩ [(x, u)]) ∧
        (∀ (H : Hp) (a : Addr) (ns : List Int), ns.length ≤ n → Only H → SqL K H a (ns.map V.int) → sp [.ref a] H (fun v _ => v = .bl true) fun _ _ _ => False) ∧
        ∀ base : Heap, K.In base → base.Ns mainGlobals mg → FnG l.prog w K mg base CX k fa fd [x] sp)
    (hCX : ∀ (H : Hp) (s : Shared) (e : Value) (s' : Shared), CX [] H s (fun _ _ _ => False) e s' → False) :
    PySem.W.WalkO q loose XP YP l.row.toRowW d [] (fun f vs => PySem.call f vs) := by
  refine Att.attach_call hn hdf fun w s₀ s₁ mg mb fa o pm cd doc a vs ns G Y ho hd hcd hmg hobj hints hlen hg => ?_
  obtain ⟨K, fd, sp, KX, hb, hsp, hF⟩ := F w mg fa _ Y G.T.g hmg
  exact law_callG KX G.T.g G.T.b G.T.builtins G.T.nolimit hg hobj hints (Nat.le_trans hlen hn2) hr hF hb (fun H => hsp H a ns hlen) fun H e s' => hCX H s₁ e s'
end L2

namespace PySem
namespace EXV
open PySem.W PySem.Calls PyProof.Rows PySem.HandSPX He L2
/-! ### a Hook: facts, defs, any tests of the written part, own error classes -/
abbrev FnC : Type := Option (Str × Str × Arguments × FuncBody × Scope × Addr × List Str × Value × Value × Addr)
def fnC (K : Frag) (a : Addr) : FnC := match K.lookup a with
  | some ⟨_, _, .func fd, _⟩ => some (fd.name, fd.qualname, fd.params, fd.body, fd.scope, fd.globals, fd.closure.map (·.1), fd.defaults, fd.kwdefaults, fd.builtins)
  | _ => none
/-- the text of an own error class: its name, its __init__'s qualified name, the field, the message, the places -/
structure ExD where
  x : Str
  q : Str
  fld : Str
  txt : Str
  k : Nat
  p : Nat → Pos
  p1 : Pos
  p2 : Pos
  b : Nat := 0
  /-- an __init__ without arguments -/
  z : Bool := false
/-- the bases: 0 ValueError, 1 LookupError, 2 KeyError -/
def bNm : Nat → String
  | 0 => "ValueError"
  | 1 => "LookupError"
  | _ => "KeyError"
def bNw : Nat → String
  | 0 => "ValueError.__new__"
  | _ => "LookupError.__new__"
def bIn : Nat → String
  | 0 => "ValueError.__init__"
  | 1 => "LookupError.__init__"
  | _ => "KeyError.__init__"
def bTl : Nat → List Value
  | 0 => [.type "ValueError", .type "Exception", .type "BaseException", .type "object"]
  | 1 => [.type "LookupError", .type "Exception", .type "BaseException", .type "object"]
  | _ => keT
theorem b_base : ∀ b : Nat, BaseX (bNm b) (bNw b) (bIn b) (bTl b)
  | 0 => base_ValueError
  | 1 => base_LookupError
  | _ + 2 => base_KeyError
def ExD.val (d : ExD) : FnC := match d.z with
  | false => some ("__init__", d.q, xArgs d.fld d.p1 d.p2, .stmts (xBody d.fld d.txt d.k d.p), xScope d.fld, mainGlobals, ["__class__"], .none, .none, builtinsNs)
  | true => some ("__init__", d.q, xArgs0 d.p1, .stmts (xBody0 d.txt d.k d.p), xScope0, mainGlobals, ["__class__"], .none, .none, builtinsNs)
def clsB (nw : String) (T : List Value) (K : Frag) (C : Addr) : Bool := match K.lookup C with
  | some ⟨.type "type", _, .cls cd, sl⟩ => (match cd.mro, sl.toList with
    | .ref C' :: bm, [_, _, _, _, some (.builtin n), _] => C' == C && n == nw && !cd.hasDel && cd.hasDict && refsT T bm
    | _, _ => false)
  | _ => false
theorem clsB_ok {nw : String} {T : List Value} {K : Frag} {C : Addr} (h : clsB nw T K C = true) :
    ∃ nm q N bs bm sn sub ab col dd k0 k1 k2 k3 k5, K.lookup C = some (excClassObj nm q C N bs bm true sn sub ab col dd k0 k1 k2 k3 k5 nw) ∧ refsT T bm = true := by
  unfold clsB at h
  split at h
  · rename_i dd cd sl ho
    split at h
    · rename_i C' bm k0 k1 k2 k3 n k5 hm hs
      simp only [Bool.and_eq_true, beq_iff_eq, Bool.not_eq_true'] at h
      obtain ⟨⟨⟨⟨rfl, rfl⟩, h1⟩, h2⟩, h3⟩ := h
      obtain ⟨nm, bs, mro, ns, qn, hd, sn, sub, ab, col, del⟩ := cd
      dsimp only at hm h1 h2
      subst hm h1 h2
      obtain ⟨l⟩ := sl
      have hl : l = [k0, k1, k2, k3, some (.builtin n), k5] := hs
      subst hl
      exact ⟨nm, qn, ns, bs, bm, sn, sub, ab, col, dd, k0, k1, k2, k3, k5, ho, h3⟩
    · cases h
  · cases h
def fileB (K : Frag) (cd : Value) (file : Str) : Bool := match cd with
  | .ref c => (match K.lookup c with
    | some (⟨_, _, .fields vs, _⟩ : Obj) => (match (vs[2]? : Option Value) with
      | some (.str f _) => file == f
      | _ => false)
    | _ => false)
  | _ => false
theorem fileB_ok {K : Frag} {c : Addr} {file : Str} (h : fileB K (.ref c) file = true) :
    ∃ ccl cdd vs ccs f tf, K.lookup c = some ⟨ccl, cdd, .fields vs, ccs⟩ ∧ vs[2]? = some (.str f tf) ∧ (file == f) = true := by
  have h1 : (match K.lookup c with
    | some (⟨_, _, .fields vs, _⟩ : Obj) => (match (vs[2]? : Option Value) with
      | some (.str f _) => file == f
      | _ => false)
    | _ => false) = true := h
  split at h1
  · rename_i a b vs d e
    split at h1
    · rename_i f t e2
      exact ⟨_, _, _, _, _, _, e, e2, h1⟩
    · cases h1
  · cases h1
def cellB (K : Frag) (C : Addr) (l : List (Str × Addr)) : Bool := match l with
  | [(_, cc)] => (match K.lookup cc with
    | some ⟨_, _, .cell (some (.ref D)), _⟩ => D == C
    | _ => false)
  | _ => false
theorem cellB_ok {K : Frag} {C cc : Addr} {y : Str} (h : cellB K C [(y, cc)] = true) : ∃ cl cld csl, K.lookup cc = some ⟨cl, cld, .cell (some (.ref C)), csl⟩ := by
  have h1 : (match K.lookup cc with
    | some ⟨_, _, .cell (some (.ref D)), _⟩ => D == C
    | _ => false) = true := h
  split at h1
  · rename_i a b D d e
    rw [beq_iff_eq] at h1
    rw [← h1]
    exact ⟨_, _, _, e⟩
  · cases h1
def initB (K : Frag) (C fI : Addr) (q file : Str) : Bool := match K.lookup fI with
  | some ⟨_, _, .func fd, _⟩ => codeIn K fd.code q && fileB K fd.code file && cellB K C fd.closure
  | _ => false
def fldB (fld : Str) : Bool := (fld == ("self" : Str)) == false && ((("self" : Str) == fld) == false && ((fld == ("__class__" : Str)) == false && ((("__class__" : Str) == fld) == false && ((fld == ("super" : Str)) == false && ((("super" : Str) == fld) == false && (fld == ("__debug__" : Str)) == false)))))
def ExD.ok (file : Str) (K : Frag) (d : ExD) : Bool :=
  let C := ga K d.x
  let fI := ma K C "__init__"
  eqO (nsIn K mainGlobals d.x) (some (some (.ref C))) && (clsB (bNw d.b) (bTl d.b) K C && (eqO (findIn K (.ref C) "__setattr__") (some (some (.builtin "object.__setattr__"))) && (eqO (findIn K (.ref C) "__getattribute__") (some (some (.builtin "BaseException.__getattribute__"))) &&
  (eqO (findIn K (.ref C) "__getattr__") (some none) && (eqO (findIn K (.ref C) d.fld) (some none) && (eqO (findIn K (.ref C) "__init__") (some (some (.ref fI))) && (decide (typeIn K (.ref fI) = some (.type "function")) && (keepIn K (.ref C) &&
  (decide (subIn K (.ref C) (.type "BaseException") = some true) && (decide (subIn K (.ref C) (.type (bNm d.b)) = some true) && (decide (typeIn K (.ref C) = some (.type "type")) && (hasDictIn K C && (eqO (ks_superIn K C C "__init__") (some (some (.builtin (bIn d.b)))) &&
  (excInitIn K C (bTl d.b) (bNw d.b) && (decide (mroIn K C (.ref C) = some true) && (eqO (nsIn K cStatics "thirdparty.any") (some none) && (eqO (nsIn K mainGlobals "super") (some none) &&
  (initB K C fI d.q file && (((d.p 2).endLine == (d.p 4).line) && fldB d.fld)))))))))))))))))))
theorem ExD.toTxt {P : Program} {K : Frag} {h : Heap} {mg : Str → Option Value} {d : ExD} {file : Str} (X : K.In h) (G : h.Ns mainGlobals mg) (e : fnC K (ma K (ga K d.x) "__init__") = d.val) (c : d.ok file K = true) (hf : P.main.file = file) (hz : d.z = false)
    (topS : (P.main.scope.names.lookup ("super" : Str)).isSome = false)
    (hb : ∀ (doc pm : Value) (an : Option Addr) (cdv ct : Value) (cc : Addr) (a b : Value), bindArgs (ksFn "__init__" d.q (xArgs d.fld d.p1 d.p2) (xBody d.fld d.txt d.k d.p) (xScope d.fld) .none .none doc pm an cdv ct cc) ⟨[a, b], []⟩ = pure [(("self" : Str), a), (d.fld, b)]) :
    ExcTxt P K mg d.x d.q d.fld (ga K d.x) (ma K (ga K d.x) "__init__") := by
  unfold ExD.ok at c
  simp only [Bool.and_eq_true] at c
  obtain ⟨c1, c2, c3, c4, c5, c6, c7, c8, c9, c10, c11, c12, c13, c14, c15, c16, c17, c18, c19, c20, c21⟩ := c
  refine { gC := mg_of X G (eqO_ok c1), base := ⟨_, _, _, _, b_base d.b, clsB_ok c2, of_decide_eq_true c11, eqO_ok c14, c15⟩, sa := eqO_ok c3, ga := eqO_ok c4, gg := eqO_ok c5, noN := eqO_ok c6, iC := eqO_ok c7, tC := of_decide_eq_true c8, kC := c9, exC := of_decide_eq_true c10,
           tyC := of_decide_eq_true c12, hdC := c13, self := of_decide_eq_true c16, third := eqO_ok c17, noS := eqO_ok c18, fn := ?_, fldOk := ?_, topS := topS }
  · unfold initB at c19
    unfold fnC at e
    split at c19
    · rename_i oc od fd osl ho
      rw [ho] at e
      obtain ⟨n1, n2, n3, n4, n5, n6, n7, n8, n9, n10, n11, n12, n13, n14, n15⟩ := fd
      have e2 : (some (n1, n2, n3, n4, n5, n6, n7.map (·.1), n8, n9, n15) : FnC) = d.val := e
      unfold ExD.val at e2
      rw [hz] at e2
      simp only [Option.some.injEq, Prod.mk.injEq] at e2
      obtain ⟨h1, h2, h3, h4, h5, h6, h7, h8, h9, h10⟩ := e2
      subst h1 h2 h3 h4 h5 h6 h8 h9 h10
      match n7, h7 with
      | [(y, cc)], h7 =>
        obtain rfl : y = "__class__" := (List.cons.inj h7).1
        simp only [Bool.and_eq_true] at c19
        obtain ⟨⟨k1, k2⟩, k3⟩ := c19
        have k1' : codeIn K n13 d.q = true := k1
        obtain ⟨cda, rfl⟩ : ∃ c, n13 = .ref c := by
          cases n13 with
          | ref c => exact ⟨c, rfl⟩
          | _ => cases k1'
        refine ⟨oc, od, n10, n11, n12, cda, n14, osl, cc, d.txt, d.k, d.p, d.p1, d.p2, ho, k1', ?_, c20, cellB_ok k3, fun a b => hb _ _ _ _ _ _ _ _⟩
        rw [hf]
        exact fileB_ok k2
    · cases c19
  · unfold fldB at c21
    simp only [Bool.and_eq_true, beq_iff_eq] at c21
    exact c21
theorem ExD.toTxt0 {P : Program} {K : Frag} {h : Heap} {mg : Str → Option Value} {d : ExD} {file : Str} (X : K.In h) (G : h.Ns mainGlobals mg) (e : fnC K (ma K (ga K d.x) "__init__") = d.val) (c : d.ok file K = true) (hf : P.main.file = file) (hz : d.z = true)
    (topS : (P.main.scope.names.lookup ("super" : Str)).isSome = false)
    (hb : ∀ (doc pm : Value) (an : Option Addr) (cdv ct : Value) (cc : Addr) (a : Value), bindArgs (ksFn "__init__" d.q (xArgs0 d.p1) (xBody0 d.txt d.k d.p) xScope0 .none .none doc pm an cdv ct cc) ⟨[a], []⟩ = pure [(("self" : Str), a)]) :
    ExcTxt0 P K mg d.x d.q (ga K d.x) (ma K (ga K d.x) "__init__") := by
  unfold ExD.ok at c
  simp only [Bool.and_eq_true] at c
  obtain ⟨c1, c2, c3, c4, c5, c6, c7, c8, c9, c10, c11, c12, c13, c14, c15, c16, c17, c18, c19, c20, c21⟩ := c
  refine { gC := mg_of X G (eqO_ok c1), base := ⟨_, _, _, _, b_base d.b, clsB_ok c2, of_decide_eq_true c11, eqO_ok c14, c15⟩, sa := eqO_ok c3, ga := eqO_ok c4, gg := eqO_ok c5, iC := eqO_ok c7, tC := of_decide_eq_true c8, kC := c9, exC := of_decide_eq_true c10,
           tyC := of_decide_eq_true c12, hdC := c13, self := of_decide_eq_true c16, third := eqO_ok c17, noS := eqO_ok c18, fn := ?_, topS := topS }
  · unfold initB at c19
    unfold fnC at e
    split at c19
    · rename_i oc od fd osl ho
      rw [ho] at e
      obtain ⟨n1, n2, n3, n4, n5, n6, n7, n8, n9, n10, n11, n12, n13, n14, n15⟩ := fd
      have e2 : (some (n1, n2, n3, n4, n5, n6, n7.map (·.1), n8, n9, n15) : FnC) = d.val := e
      unfold ExD.val at e2
      rw [hz] at e2
      simp only [Option.some.injEq, Prod.mk.injEq] at e2
      obtain ⟨h1, h2, h3, h4, h5, h6, h7, h8, h9, h10⟩ := e2
      subst h1 h2 h3 h4 h5 h6 h8 h9 h10
      match n7, h7 with
      | [(y, cc)], h7 =>
        obtain rfl : y = "__class__" := (List.cons.inj h7).1
        simp only [Bool.and_eq_true] at c19
        obtain ⟨⟨k1, k2⟩, k3⟩ := c19
        have k1' : codeIn K n13 d.q = true := k1
        obtain ⟨cda, rfl⟩ : ∃ c, n13 = .ref c := by
          cases n13 with
          | ref c => exact ⟨c, rfl⟩
          | _ => cases k1'
        refine ⟨oc, od, n10, n11, n12, cda, n14, osl, cc, d.txt, d.k, d.p, d.p1, ho, k1', ?_, c20, cellB_ok k3, fun a => hb _ _ _ _ _ _ _⟩
        rw [hf]
        exact fileB_ok k2
    · cases c19
/-! the Hook -/
abbrev AlX : Type := Bool × List FnW × List FnC
def obsX (file : Str) (bs : List (Frag → Bool)) (fa : List Fa) (fn : List DefD) (ex : List ExD) (K : Frag) : AlX :=
  ((fa.all fun f => f.ok K) && ((fn.all fun d => d.ok K) && ((bs.all fun b => b K) && ex.all fun d => d.ok file K)), fn.map fun d => fnW K d.at_, ex.map fun d => fnC K (ma K (ga K d.x) "__init__"))
def valX (fn : List DefD) (ex : List ExD) : AlX := (true, fn.map DefD.val, ex.map ExD.val)
def SaysX (file : Str) (bs : List (Frag → Bool)) (fa : List Fa) (fn : List DefD) (ex : List ExD) (K : Frag) : Prop := obsX file bs fa fn ex K = valX fn ex
def obsXG (n : Nat) (file : Str) (bs : List (Frag → Bool)) (fa : List Fa) (fn : List DefD) (ex : List ExD) (g : Addr → Option Obj) : AlX := obsX file bs fa fn ex (frG g (asD g n ++ [cStatics, sysModules]))
def hookX (n : Nat) (file : Str) (bs : List (Frag → Bool)) (fa : List Fa) (fn : List DefD) (ex : List ExD) : Hook where
  α := AlX
  obs := fun s => obsXG n file bs fa fn ex s.heap.get?
  val := fun _ => valX fn ex
  says := fun _ h => ∃ K : Frag, K.In h ∧ SaysX file bs fa fn ex K
  of := fun _ _ e => ⟨_, frG_in, e⟩
  keeps := fun _ _ _ ⟨K, hK, c⟩ k => ⟨K, Frag.In.keeps hK k, c⟩
/-- the same over given addresses: no walk through the heap to find them -/
def obsYG (as : List Addr) (file : Str) (bs : List (Frag → Bool)) (fa : List Fa) (fn : List DefD) (ex : List ExD) (g : Addr → Option Obj) : AlX := obsX file bs fa fn ex (frG g as)
def hookY (as : List Addr) (file : Str) (bs : List (Frag → Bool)) (fa : List Fa) (fn : List DefD) (ex : List ExD) : Hook where
  α := AlX
  obs := fun s => obsYG as file bs fa fn ex s.heap.get?
  val := fun _ => valX fn ex
  says := fun _ h => ∃ K : Frag, K.In h ∧ SaysX file bs fa fn ex K
  of := fun _ _ e => ⟨_, frG_in, e⟩
  keeps := fun _ _ _ ⟨K, hK, c⟩ k => ⟨K, Frag.In.keeps hK k, c⟩
theorem obsYG_eq {as : List Addr} {file : Str} {bs : List (Frag → Bool)} {fa : List Fa} {fn : List DefD} {ex : List ExD} {g : Addr → Option Obj} {s : Shared} (h : ∀ a, g a = s.heap.get? a) : obsYG as file bs fa fn ex g = (hookY as file bs fa fn ex).obs s := by
  have e : g = s.heap.get? := funext h
  rw [e] <;> rfl
theorem obsXG_eq {n : Nat} {file : Str} {bs : List (Frag → Bool)} {fa : List Fa} {fn : List DefD} {ex : List ExD} {g : Addr → Option Obj} {s : Shared} (h : ∀ a, g a = s.heap.get? a) : obsXG n file bs fa fn ex g = (hookX n file bs fa fn ex).obs s := by
  have e : g = s.heap.get? := funext h
  rw [e] <;> rfl
section
variable {file : Str} {bs : List (Frag → Bool)} {fa : List Fa} {fn : List DefD} {ex : List ExD} {K : Frag}
theorem SaysX.all (c : SaysX file bs fa fn ex K) : ((fa.all fun f => f.ok K) && ((fn.all fun d => d.ok K) && ((bs.all fun b => b K) && ex.all fun d => d.ok file K))) = true := congrArg (fun z : AlX => z.1) c
theorem SaysX.fact (c : SaysX file bs fa fn ex K) (i : Nat) {f : Fa} (h : fa[i]? = some f := by rfl) : f.ok K = true := List.all_eq_true.mp (ba c.all).1 f (List.mem_of_getElem? h)
theorem SaysX.test (c : SaysX file bs fa fn ex K) (i : Nat) {b : Frag → Bool} (h : bs[i]? = some b := by rfl) : b K = true := List.all_eq_true.mp (ba (ba (ba c.all).2).2).1 b (List.mem_of_getElem? h)
theorem SaysX.def_ (c : SaysX file bs fa fn ex K) (i : Nat) {d : DefD} (h : fn[i]? = some d := by rfl) : ∃ fd, FunD K d.name d.qual d.params d.body d.scope (d.dvs K) (d.kws K) (fAd K d.at_) fd := by
  have c2 := (ba (ba c.all).2).1
  have e : fn.map (fun d => fnW K d.at_) = fn.map DefD.val := congrArg (fun z : AlX => z.2.1) c
  have e2 : (fn.map fun d => fnW K d.at_)[i]? = (fn.map DefD.val)[i]? := by rw [e]
  rw [List.getElem?_map, List.getElem?_map, h] at e2
  exact DefD.funD (Option.some.inj e2) (List.all_eq_true.mp c2 d (List.mem_of_getElem? h))
theorem SaysX.exc (c : SaysX file bs fa fn ex K) {P : Program} {h : Heap} {mg : Str → Option Value} (X : K.In h) (G : h.Ns mainGlobals mg) (hf : P.main.file = file) (topS : (P.main.scope.names.lookup ("super" : Str)).isSome = false) (i : Nat) {d : ExD} (hd : ex[i]? = some d := by rfl)
    (hb : ∀ (doc pm : Value) (an : Option Addr) (cdv ct : Value) (cc : Addr) (a b : Value), bindArgs (ksFn "__init__" d.q (xArgs d.fld d.p1 d.p2) (xBody d.fld d.txt d.k d.p) (xScope d.fld) .none .none doc pm an cdv ct cc) ⟨[a, b], []⟩ = pure [(("self" : Str), a), (d.fld, b)]) (hz : d.z = false := by rfl) :
    ExcTxt P K mg d.x d.q d.fld (ga K d.x) (ma K (ga K d.x) "__init__") := by
  have c2 := (ba (ba (ba c.all).2).2).2
  have e : ex.map (fun d => fnC K (ma K (ga K d.x) "__init__")) = ex.map ExD.val := congrArg (fun z : AlX => z.2.2) c
  have e2 : (ex.map fun d => fnC K (ma K (ga K d.x) "__init__"))[i]? = (ex.map ExD.val)[i]? := by rw [e]
  rw [List.getElem?_map, List.getElem?_map, hd] at e2
  exact ExD.toTxt X G (Option.some.inj e2) (List.all_eq_true.mp c2 d (List.mem_of_getElem? hd)) hf hz topS hb
theorem SaysX.exc0 (c : SaysX file bs fa fn ex K) {P : Program} {h : Heap} {mg : Str → Option Value} (X : K.In h) (G : h.Ns mainGlobals mg) (hf : P.main.file = file) (topS : (P.main.scope.names.lookup ("super" : Str)).isSome = false) (i : Nat) {d : ExD} (hd : ex[i]? = some d := by rfl)
    (hb : ∀ (doc pm : Value) (an : Option Addr) (cdv ct : Value) (cc : Addr) (a : Value), bindArgs (ksFn "__init__" d.q (xArgs0 d.p1) (xBody0 d.txt d.k d.p) xScope0 .none .none doc pm an cdv ct cc) ⟨[a], []⟩ = pure [(("self" : Str), a)]) (hz : d.z = true := by rfl) :
    ExcTxt0 P K mg d.x d.q (ga K d.x) (ma K (ga K d.x) "__init__") := by
  have c2 := (ba (ba (ba c.all).2).2).2
  have e : ex.map (fun d => fnC K (ma K (ga K d.x) "__init__")) = ex.map ExD.val := congrArg (fun z : AlX => z.2.2) c
  have e2 : (ex.map fun d => fnC K (ma K (ga K d.x) "__init__"))[i]? = (ex.map ExD.val)[i]? := by rw [e]
  rw [List.getElem?_map, List.getElem?_map, hd] at e2
  exact ExD.toTxt0 X G (Option.some.inj e2) (List.all_eq_true.mp c2 d (List.mem_of_getElem? hd)) hf hz topS hb
end
def smB (K : Frag) : Bool := match K.lookup sysModules with
  | some ⟨.type c, _, _, _⟩ => c == "dict"
  | _ => false
theorem smB_ok {K : Frag} (h : smB K = true) : L2.HasSm K := by
  unfold smB at h
  split at h
  · rename_i c a b d e
    rw [beq_iff_eq] at h
    subst h
    exact ⟨_, e, rfl⟩
  · cases h
end EXV
end PySem

namespace L2
open PySem PySem.Spec PyProof.Rows
/-! ### try with several clauses, each by one name, with or without 'as'; clauses that are never reached may be of any form -/
inductive Cl where
  | one (c : Value) (ts : Addr → Value → Option Addr → TS)
  | as_ (c : Value) (i : Nat) (ts : Addr → Value → Option Addr → TS)
/-- the ends of a suite whose name goes at its end -/
abbrev goneE (i : Nat) (D : Ends) : Ends := { nx := fun σ' H' => D.nx (σ'.set i none) H', rt := D.rt, bk := fun σ' H' => D.bk (σ'.set i none) H', ct := fun σ' H' => D.ct (σ'.set i none) H' }
def wG (K : PySem.W.Frag) (D : Ends) : List Cl → WX
  | [] => fun _ _ _ _ => False
  | .one c ts :: r => fun cls d σ H => ∃ b, PySem.W.exmOne K cls c = some b ∧ (b = true → ∀ a, H a = none → ts a cls d D σ H) ∧ (b = false → wG K D r cls d σ H)
  | .as_ c i ts :: r => fun cls d σ H => ∃ b, PySem.W.exmOne K cls c = some b ∧ (b = true → ∀ a, H a = none → ts a cls d (goneE i D) (σ.set i (some (.ref a))) H) ∧ (b = false → wG K D r cls d σ H)
/-- a suite of a clause -/
abbrev SuOk (X : Cx) (suite : List Stmt) (ts : Addr → Value → Option Addr → TS) : Prop :=
  ∀ (a : Addr) (oe : Obj) (cls : Value) (d : Option Addr) (pn : List (Addr × Obj)), Zc cls d oe → (∃ vs, oe.data = .fields vs) → PSs (X.suite a ((a, oe) :: pn)) suite (ts a cls d)
inductive HdsG (X : Cx) : List ExceptHandler → List Cl → Prop
  | stop {hds : List ExceptHandler} : HdsG X hds []
  | one {x : Str} {c : Value} {ts : Addr → Value → Option Addr → TS} {b₀ : Stmt} {suite : List Stmt} {np pos' : Pos} {hds : List ExceptHandler} {l : List Cl} (hc : Names X x c) (hsu : SuOk X (b₀ :: suite) ts) (r : HdsG X hds l) :
      HdsG X (.ExceptHandler (some (.Name x np)) none (b₀ :: suite) pos' :: hds) (.one c ts :: l)
  | as_ {x n : Str} {c : Value} {i : Nat} {ts : Addr → Value → Option Addr → TS} {b₀ : Stmt} {suite : List Stmt} {np pos' : Pos} {hds : List ExceptHandler} {l : List Cl} (hN : X.N.Nodup) (hi : X.N[i]? = some n) (hln : X.env.kindOf n = some .local) (hc : Names X x c)
      (hsu : SuOk X (b₀ :: suite) ts) (r : HdsG X hds l) : HdsG X (.ExceptHandler (some (.Name x np)) (some n) (b₀ :: suite) pos' :: hds) (.as_ c i ts :: l)
section
variable {X : Cx} {body : List Stmt} {h₀ : ExceptHandler} {hds : List ExceptHandler} {l : List Cl} {pos : Pos} {tb : WX → TS}
theorem ps_tryG (hs : X.stack = X.env :: X.outer) (hf : X.env.frame = some X.env.locals)
    (hb : ∀ (W : WX) (pn : List (Addr × Obj)) (xe : Value → Shared → Prop), Takes (X.tr pn xe) W → PassesOwn (model X.prog X.w) X.A X.env xe → PSs (X.tr pn xe) body (tb W))
    (hh : HdsG X (h₀ :: hds) l) : PS X (.Try body (h₀ :: hds) [] [] pos) (fun D σ H => tb (wG X.K D l) D σ H) := by
  refine ⟨fun pins s σ H D I h => ?_⟩
  have ok := I.ok
  have hfr : X.A.frames = some (X.env :: X.outer) := by rw [ok.frames, hs]
  -- an end of the body, of a suite
  have done : ∀ {f : Flow} {s1 : Shared} {pn : List (Addr × Obj)} {xe : Value → Shared → Prop}, SP (X.tr (X.pn ++ pins) xe) pn D f s1 → SP X pins D f s1 := fun {f s1 pn xe} hsp => by
    cases f with
    | next => obtain ⟨σ', H', J', q⟩ := hsp; exact ⟨σ', H', J'.ofTry ok, q⟩
    | brk => obtain ⟨σ', H', J', q⟩ := hsp; exact ⟨σ', H', J'.ofTry ok, q⟩
    | cont => obtain ⟨σ', H', J', q⟩ := hsp; exact ⟨σ', H', J'.ofTry ok, q⟩
    | ret u => obtain ⟨v, σ', H', J', r, q⟩ := hsp; exact ⟨v, σ', H', J'.ofTry ok, r, q⟩
  refine wpAny_Try_except ?_
  refine wpAny_mono ((hb (wG X.K D l) (X.pn ++ pins) (fun e s₁ => wpAny (model X.prog X.w) X.A (noteFrame e X.env) (fun _ s₂ => wpAny (model X.prog X.w) X.A (setFlight e none) (fun _ s₃ =>
    wpAny (model X.prog X.w) X.A (handleBy e X.env (h₀ :: hds)) (SP X pins D) X.xe s₃) X.xe s₂) X.xe s₁) (fun u s' xx => ?_) PassesOwn.looking).run [] s σ H D (I.toTry _) h) (fun f s1 hsp => ?_) (fun e s1 he => he)
  · obtain ⟨a, B, sI, pins', σ', H', cls, d, rfl, J', nb, up, sky, na, os, ag, w⟩ := xx
    have J : Inv X pins σ' H' sI := J'.ofTry ok
    have sky' : Sky B (X.env :: X.outer) a (Zc cls d) X.env.locals s'.heap := by rw [← hs]; exact sky
    show wpAny (model X.prog X.w) X.A (noteFrame (.ref a) X.env) _ _ _
    refine Sky.land Zc.steady hfr hf sky' fun h3 fl3 up3 => ?_
    have J3 : Inv X pins σ' H' { s' with heap := h3 } := J.landed nb fl3.1 (up.trans up3) os ag
    obtain ⟨oe3, vs3, he3, hz3, hd3⟩ := fl3.there
    have nfr : a ∉ frs (X.env :: X.outer) := fun hm => by
      obtain ⟨_, o', e', hnf⟩ := fl3.2.2.1.mem hm
      rw [he3] at e'
      cases e'
      exact hnf _ hd3
    have nL : a ≠ X.env.locals := fun z => nfr (List.mem_filterMap.mpr ⟨X.env, List.mem_cons_self, by rw [hf, z]⟩)
    have nF : a ∉ X.fs := fun hm => by
      obtain ⟨e, he, q⟩ := List.mem_filterMap.mp hm
      exact nfr (List.mem_filterMap.mpr ⟨e, List.mem_cons_of_mem _ he, q⟩)
    have S3 := J3.suite he3 hd3 na nL nF
    have LT : PySem.W.Looks (model X.prog X.w) h3 (typeOf (.ref a)) cls := fun A Q E s k q => wpAny_typeOf_ref (k _ _ he3) (by rw [hz3.1]; exact q)
    have test : ∀ {x : Str} {np : Pos} {c : Value} {Q E : Value → Shared → Prop}, Names X x c → Q c { s' with heap := h3 } → wpAny (model X.prog X.w) (X.A.mark (some (.ref a))) (eval (.Name x np) X.env) Q E { s' with heap := h3 } := fun hc q => by
      obtain ⟨hg, hdbg, hm | ⟨hm, hv, hnn⟩⟩ := hc
      · exact ld_glob (X := X.suite a ((a, oe3) :: (X.pn ++ pins))) S3 hg hm q hdbg
      · exact ld_blt (X := X.suite a ((a, oe3) :: (X.pn ++ pins))) S3 hg hm hv q hnn hdbg
    have go : ∀ {hds' : List ExceptHandler} {l' : List Cl}, HdsG X hds' l' → wG X.K D l' cls d σ' H' → wpAny (model X.prog X.w) X.A (handleBy (.ref a) X.env hds') (SP X pins D) X.xe { s' with heap := h3 } := by
      intro hds' l' hk
      induction hk with
      | stop => exact fun w => False.elim w
      | one hc hsu r ih =>
        intro w
        obtain ⟨b, hb1, hyes, hno⟩ := w
        refine wpAny_handleBy_cons (codeAny_handlers_test ?_) (by intro q; cases q)
        refine test hc ((PySem.W.exm_one (M := model X.prog X.w) J3.kIn LT hb1).here ?_)
        cases b with
        | false => exact ih (hno rfl)
        | true =>
          refine codeAny_handlers_suite (HandSPX.lands_againZ fl3 fun h4 fl4 up4 => ?_)
          have J4 : Inv X pins σ' H' { s' with heap := h4 } := J.landed nb fl4.1 ((up.trans up3).trans up4) os ag
          obtain ⟨oe4, vs4, he4, hz4, hd4⟩ := fl4.there
          refine wpAny_mono ((hsu a oe4 cls d (X.pn ++ pins) hz4 ⟨_, hd4⟩).run [] _ _ H' _ (J4.suite he4 hd4 na nL nF) (hyes rfl a na)) (fun f s6 hsp => ?_) (fun _ _ z => False.elim z)
          cases f with
          | next => obtain ⟨σ6, H6, S6, q6⟩ := hsp; exact ⟨_, _, S6.unsuite ok, q6⟩
          | brk => obtain ⟨σ6, H6, S6, q6⟩ := hsp; exact ⟨_, _, S6.unsuite ok, q6⟩
          | cont => obtain ⟨σ6, H6, S6, q6⟩ := hsp; exact ⟨_, _, S6.unsuite ok, q6⟩
          | ret u => obtain ⟨v6, σ6, H6, S6, r6, q6⟩ := hsp; exact ⟨_, _, _, S6.unsuite ok, r6, q6⟩
      | as_ hN hi hln hc hsu r ih =>
        intro w
        obtain ⟨b, hb1, hyes, hno⟩ := w
        refine wpAny_handleBy_cons (codeAny_handlers_test ?_) (by intro q; cases q)
        refine test hc ((PySem.W.exm_one (M := model X.prog X.w) J3.kIn LT hb1).here ?_)
        cases b with
        | false => exact ih (hno rfl)
        | true =>
          refine codeAny_handlers_suite_as (HandSPX.lands_againZ fl3 fun h4 fl4 up4 => ?_)
          have J4 : Inv X pins σ' H' { s' with heap := h4 } := J.landed nb fl4.1 ((up.trans up3).trans up4) os ag
          obtain ⟨oe4, vs4, he4, hz4, hd4⟩ := fl4.there
          refine store_ok (X := X.suite a ((a, oe4) :: (X.pn ++ pins))) (v := .ref a) (J4.suite he4 hd4 na nL nF) hN hi (.inl hln) rfl (fun s5 S5 => ?_) (.inr hln)
          refine wpAny_mono ((hsu a oe4 cls d (X.pn ++ pins) hz4 ⟨_, hd4⟩).run [] s5 _ H' _ S5 (hyes rfl a na)) (fun f s6 hsp => ?_) (fun _ _ z => False.elim z)
          cases f with
          | next => obtain ⟨σ6, H6, S6, q6⟩ := hsp; exact gone_ok (S6.unsuite ok) hN hi hln fun s7 J7 => ⟨_, _, J7, q6⟩
          | brk => obtain ⟨σ6, H6, S6, q6⟩ := hsp; exact gone_ok (S6.unsuite ok) hN hi hln fun s7 J7 => ⟨_, _, J7, q6⟩
          | cont => obtain ⟨σ6, H6, S6, q6⟩ := hsp; exact gone_ok (S6.unsuite ok) hN hi hln fun s7 J7 => ⟨_, _, J7, q6⟩
          | ret u => obtain ⟨v6, σ6, H6, S6, r6, q6⟩ := hsp; exact gone_ok (S6.unsuite ok) hN hi hln fun s7 J7 => ⟨_, _, _, J7, r6, q6⟩
    exact go hh w
  · have r := done hsp
    cases f with
    | next => exact wpAny_execs_nil r
    | brk => exact r
    | cont => exact r
    | ret u => exact r
end
end L2

namespace PySem
namespace EXV
open PySem.W PySem.Calls PyProof.Rows PySem.Spec
section
variable {prog : Program} {w : World} {M : Model} {A : Around} {E : Value → Shared → Prop} {s : Shared} {K : Frag} {x C f : Addr} {ox : Obj} {od : Option Obj}
theorem ifBound_B {name : Str} {id : String} {args : List Value} {Q : Option Value → Shared → Prop} (X : K.In s.heap) (I : InstAt s.heap x ox C od) (hs : findIn K (.ref C) name = some (some (.builtin id)))
    (hb : ∀ self, bindSpecial (.builtin id) self = pure (.builtin id, [self])) (h : wpAny M A (call (.builtin id) (.ref x :: args)) (fun v => Q (some v)) E s) : wpAny M A (callSpecialIfBound? (.ref x) name args) Q E s := by
  simp only [callSpecialIfBound?, bindSpecialIfBound?]
  refine wpAny_holding (wpAny_bind (wpAny_bind (wpAny_bind (I.type.here ((looks_findIn X hs).here ?_)))))
  refine wpAny_bind (wpAny_askSetting (wpAny_ite ?_))
  have fin : wpAny M A (call (.builtin id) ([.ref x] ++ args) >>= fun v => pure (some v)) Q E s := wpAny_bind (wpAny_mono h (fun v s' h' => wpAny_pure h') fun _ _ h' => h')
  split
  · exact wpAny_bind ((Looks.of_pure (hb _)).here (wpAny_pure (by exact fin)))
  · exact wpAny_tryCatch (wpAny_bind ((Looks.of_pure (hb _)).here (wpAny_pure (by exact fin))))
open Builtin in
/-- x != b, x's class has its own __eq__, object's __ne__ -/
theorem ne_K {b tb : Value} {Q : Value → Shared → Prop} (hu : A.units + 1 < cLine) (X : K.In s.heap) (I : InstAt s.heap x ox C od) (hb : Looks (model prog w) s.heap (typeOf b) tb) (hn : notFirst K C tb = true)
    (hne : findIn K (.ref C) "__ne__" = some (some (.builtin "object.__ne__"))) (hm : mroIn K C (.type "object") = some true) (hs : findIn K (.ref C) "__eq__" = some (some (.ref f))) (hf : isFn K (.ref f) = true)
    (h : wpAny (model prog w) A.in1 (call (.ref f) [.ref x, b]) (fun v s' => ∃ r, v = .bool r ∧ Q (.bool (!r)) s') E s) : wpAny (model prog w) A (richCompare .NotEq (.ref x) b) Q E s := by
  have entry : wpAny (model prog w) A.in1 (Builtin.«object.__ne__» ⟨[.ref x, b], []⟩) (fun fin s' => ∃ v, fin = .done (.ret v) ∧ ∃ r, v = .bool (!r) ∧ Q (.bool (!r)) s') E s := by
    unfold Builtin.«object.__ne__»
    repeat (first
      | with_reducible refine wpAny_cRoomFor (by show A.units + 1 < cLine; exact hu) ?_
      | (refine wpAny_bind (m := callSpecialIfBound? (.ref x) (Str.ofString "__eq__") [b])
          (ifBound_K X I hs hf (wpAny_mono h (fun r s' hr => by
            obtain ⟨r, rfl, hq⟩ := hr
            repeat (first | exact ⟨_, rfl, _, rfl, hq⟩ | exact wpAny_pure ⟨_, rfl, _, rfl, hq⟩ | exact wpAny_truthy_bool ⟨_, rfl, _, rfl, hq⟩ | (refine wpAny_bind (m := truthy (.bool _)) (wpAny_truthy_bool ?_)) | wp_step)) fun _ _ e => e)))
      | wp_step)
  have one : wpAny (model prog w) A (tryCompare (.ref x) "__ne__" b) (fun r s' => ∃ v, r = some v ∧ Q v s') E s := by
    unfold tryCompare
    refine wpAny_bind (ifBound_B X I hne PySem.F.slot_object_ne.bind (wpAny_call (codeAny_call_builtin PySem.F.slot_object_ne.plain PySem.F.entry_object_ne
      (check_slot (i := "object.__ne__") (owner := "object") (n := "__ne__") (by decide +kernel) (by decide +kernel) (I.type.andThen (looks_mroIn X hm)) (PySem.F.args_object_ne_2 _ _) (wpAny_mono entry (fun fin s' z => ?_) fun _ _ z => z)))))
    obtain ⟨v, rfl, r, rfl, q⟩ := z
    first | exact wpAny_pure ⟨_, rfl, q⟩ | (show wpAny _ _ _ _ _ _; exact wpAny_pure ⟨_, rfl, q⟩)
  unfold richCompare
  simp only [oneThing_ref]
  refine wpAny_holding (wpAny_bind (wpAny_cRoomFor (Nat.lt_of_succ_lt hu) ?_))
  rw [cmpInfo_NotEq]
  dsimp only
  refine wpAny_bind (I.type.here (wpAny_bind (hb.here ?_)))
  split
  · rename_i q
    have e : subIn K tb (.ref C) = some false := by
      rcases Bool.or_eq_true_iff.mp hn with e | e
      · rw [beq_iff_eq.mp e] at q; simp at q
      · exact beq_iff_eq.mp e
    refine wpAny_bind ((looks_subIn X e).here ?_)
    simp only [Bool.false_eq_true, if_false]
    refine wpAny_bind (wpAny_mono one (fun r s' z => ?_) fun _ _ e => e)
    obtain ⟨v, rfl, hq⟩ := z
    exact wpAny_pure hq
  · refine wpAny_bind (wpAny_pure ?_)
    simp only [Bool.false_eq_true, if_false]
    refine wpAny_bind (wpAny_mono one (fun r s' z => ?_) fun _ _ e => e)
    obtain ⟨v, rfl, hq⟩ := z
    exact wpAny_pure hq
end
end EXV
end PySem
namespace L2
open PySem PySem.Spec PyProof.Rows
section
variable {X : Cx} {CX : CXT} {k : Nat} {C f : Addr} {fd : FuncData} {ps : List Str} {sp : Sp} {E : XK}
/-- the callee runs at another depth of the same frames -/
theorem run_fnAt {A' : Around} {pins : List (Addr × Obj)} {σ : St} {H : Hp} {s : Shared} {Q : VK} {us : List Value} {vs : List V} (hfr : A'.frames = X.A.frames) (F : FnOk X.prog X.w X.K X.mg X.base CX k f fd ps sp) (hr : Room k A') (hb : Binds X.K fd ps []) (hx : Passes CX X E)
    (I : Inv X pins σ H s) (r : Vals vs us) (h : sp vs H Q E) : wpAny (model X.prog X.w) A' (call (.ref f) us) (EP X pins σ Q) X.xe s := by
  have e := I.env0
  have e0 : Env0 X.prog X.w X.K X.mg X.base A' X.stack s H := ⟨by rw [hfr]; exact e.frames, e.mod, e.bs, e.bsz, e.funs, e.frf, e.hok, e.bare⟩
  have b := hb s us I.kIn (by rw [List.append_nil, ← r.length]; exact F.len _ _ _ _ h)
  rw [List.append_nil] at b
  refine wpAny_call (codeAny_mono (F.run A' X.stack s H ⟨us, []⟩ us vs Q E hr e0 b r h) fun r s' hq => ?_)
  match r, hq with
  | .error e, hq => exact hx pins σ H s e s' I hq
  | .ok (.ret u), hq => exact I.after hq
  | .ok .next, hq => exact hq.elim
  | .ok .brk, hq => exact hq.elim
  | .ok .cont, hq => exact hq.elim
/-! ### own ==, != and str, with both answers, the other operand of any type -/
def rEqX (K : PySem.W.Frag) (C : Addr) (sp : Sp) (E : XK) : R2 := fun x y H Q => ∃ a dx fs t, x = .ref a ∧ H a = some (.ins C dx fs) ∧ TyX K H y t ∧ PySem.W.notFirst K C t = true ∧ sp [x, y] H (fun v H' => ∃ b, v = .bl b ∧ Q (.bl b) H') E
def rNeX (K : PySem.W.Frag) (C : Addr) (sp : Sp) (E : XK) : R2 := fun x y H Q => ∃ a dx fs t, x = .ref a ∧ H a = some (.ins C dx fs) ∧ TyX K H y t ∧ PySem.W.notFirst K C t = true ∧ sp [x, y] H (fun v H' => ∃ b, v = .bl b ∧ Q (.bl (!b)) H') E
def rStrX (C : Addr) (sp : Sp) (E : XK) : List V → Hp → VK → Prop := fun xs H Q => ∃ a dx fs, xs = [.ref a] ∧ H a = some (.ins C dx fs) ∧ sp [.ref a] H (fun v H' => ∃ b, v = .str b ∧ Q (.str b) H') E
theorem op_eqX (F : FnOk X.prog X.w X.K X.mg X.base CX k f fd ps sp) (hr : Room k X.A) (hb : Binds X.K fd ps []) (hx : Passes CX X E) (hs : PySem.W.findIn X.K (.ref C) "__eq__" = some (some (.ref f))) (hf : PySem.W.isFn X.K (.ref f) = true) :
    OpR X (compareOp .Eq) (rEqX X.K C sp E) := by
  intro pins s σ H x y v u Q I rx ry h
  obtain ⟨a, dx, fs, t, rfl, ha, ty, hn, hsp⟩ := h
  cases rx
  obtain ⟨mA, J, _⟩ := ins_get I.hok ha
  obtain ⟨od, J, _⟩ := J.look
  obtain ⟨m, hF⟩ := I.fr
  obtain ⟨P, Z, p, _⟩ := kit_of I ry ty
  refine PySem.W.cmp_K (op := .Eq) (tb := t) hr.units0 hF I.ok.mod.kin J (Z.ty _ _ I.kIn p) hn hs hf ?_
  refine wpAny_mono (run_fnAt (vs := [.ref a, y]) rfl F hr hb hx I (.cons rfl (.cons ry .nil)) hsp) (fun w s' z => ?_) fun _ _ z => z
  obtain ⟨v', H', I', rv, b, rfl, q⟩ := z
  obtain rfl : w = .bool b := rv
  exact ⟨.bl b, H', I', rfl, q⟩
theorem op_neX (F : FnOk X.prog X.w X.K X.mg X.base CX k f fd ps sp) (hr : Room (k + 1) X.A) (hb : Binds X.K fd ps []) (hx : Passes CX X E) (hne : PySem.W.findIn X.K (.ref C) "__ne__" = some (some (.builtin "object.__ne__"))) (hm : PySem.W.mroIn X.K C (.type "object") = some true)
    (hs : PySem.W.findIn X.K (.ref C) "__eq__" = some (some (.ref f))) (hf : PySem.W.isFn X.K (.ref f) = true) : OpR X (compareOp .NotEq) (rNeX X.K C sp E) := by
  intro pins s σ H x y v u Q I rx ry h
  obtain ⟨a, dx, fs, t, rfl, ha, ty, hn, hsp⟩ := h
  cases rx
  obtain ⟨mA, J, _⟩ := ins_get I.hok ha
  obtain ⟨od, J, _⟩ := J.look
  obtain ⟨P, Z, p, _⟩ := kit_of I ry ty
  refine PySem.EXV.ne_K (by have := hr.un; omega) I.kIn J (Z.ty _ _ I.kIn p) hn hne hm hs hf ?_
  refine wpAny_mono (run_fnAt (vs := [.ref a, y]) rfl F hr.in1 hb hx I (.cons rfl (.cons ry .nil)) hsp) (fun w s' z => ?_) fun _ _ z => z
  obtain ⟨v', H', I', rv, b, rfl, q⟩ := z
  obtain rfl : w = .bool b := rv
  exact ⟨b, rfl, .bl (!b), H', I', rfl, q⟩
theorem call_strX (F : FnOk X.prog X.w X.K X.mg X.base CX k f fd ps sp) (hr : Room (k + 2) X.A) (hb : Binds X.K fd ps []) (hx : Passes CX X E) (hs : PySem.W.findIn X.K (.ref C) "__str__" = some (some (.ref f))) (hf : PySem.W.isFn X.K (.ref f) = true) :
    CallR X (.type "str") (rStrX C sp E) := by
  intro pins s σ H xs us Q I r h
  obtain ⟨a, dx, fs, rfl, ha, hsp⟩ := h
  obtain ⟨u, rfl, ru⟩ := vals1 r
  cases ru
  obtain ⟨mA, J, _⟩ := ins_get I.hok ha
  obtain ⟨od, J, _⟩ := J.look
  refine PySem.W.kso_call hr.in1.in1.units0 I.kIn J hs hf ?_
  refine wpAny_mono (run_fnAt (vs := [.ref a]) rfl F hr.in1.in1 hb hx I (.cons rfl .nil) hsp) (fun w s' z => ?_) fun _ _ z => z
  obtain ⟨v', H', I', rv, b, rfl, q⟩ := z
  obtain ⟨t, rfl⟩ := rv
  exact ⟨.str b, H', I', ⟨t, rfl⟩, q⟩
end
end L2

namespace PySem
namespace EXV
open L2
/-- an own error class's text, read off its __init__ -/
def exdOf (x q fld txt : Str) (st : Stmt) (b : Nat := 0) : ExD :=
  match defBody st, (defArgs st).args with
  | [.Expr (.Call (.Attribute (.Call (.Name _ a0) _ _ a1) _ a2) [.Constant _ k a3] _ a4) a5, .Assign [.Attribute (.Name _ a6) _ a7] (.Name _ a8) a9], [u, v] =>
    ⟨x, q, fld, txt, k, fun i => [a0, a1, a2, a3, a4, a5, a6, a7, a8, a9].getD i a0, u.pos, v.pos, b, false⟩
  | _, _ => ⟨x, q, fld, txt, 0, fun _ => ⟨0, 0, 0, 0⟩, ⟨0, 0, 0, 0⟩, ⟨0, 0, 0, 0⟩, b, false⟩
/-- .. of an __init__ without arguments -/
def exdOf0 (x q txt : Str) (st : Stmt) (b : Nat := 0) : ExD :=
  match defBody st, (defArgs st).args with
  | [.Expr (.Call (.Attribute (.Call (.Name _ a0) _ _ a1) _ a2) [.Constant _ k a3] _ a4) a5], [u] =>
    ⟨x, q, "", txt, k, fun i => [a0, a1, a2, a3, a4, a5].getD i a0, u.pos, u.pos, b, true⟩
  | _, _ => ⟨x, q, "", txt, 0, fun _ => ⟨0, 0, 0, 0⟩, ⟨0, 0, 0, 0⟩, ⟨0, 0, 0, 0⟩, b, true⟩
end EXV
end PySem
namespace L2
open PySem PySem.Spec PyProof.Rows
/-! ### making an instance, the wish of what is raised at the caller's slots -/
def tMakeS (C : Addr) (sp : Sp) (dvs : List V) (E : St → XK) (t : TA) : TE := fun σ H Q => t σ H fun vs H1 => ∀ x dx, H1 x = none → H1 dx = none → dx ≠ x →
  sp (.ref x :: (vs ++ dvs)) (upd (upd H1 dx (.own x)) x (.ins C dx [])) (fun v H2 => v = .non ∧ Q (.ref x) H2) (E σ)
section
variable {X : Cx} {CX : CXT} {k : Nat} {f C : Addr} {fd : FuncData} {ps : List Str} {sp : Sp} {dvs : List V} {ds : List Value} {E : St → XK} {x : Str} {p pos : Pos} {e : Expr} {es : List Expr} {t : TA}
theorem run_makeS {pins : List (Addr × Obj)} {σ : St} {H : Hp} {s : Shared} {Q : VK} {us : List Value} {vs : List V} (M : Mk X.K C f) (F : FnOk X.prog X.w X.K X.mg X.base CX k f fd ps sp) (hr : Room (k + 1) X.A) (hb : Binds X.K fd ps ds) (hd : Vals dvs ds)
    (hx : PassesAt CX X σ (E σ)) (I : Inv X pins σ H s) (r : Vals vs us)
    (h : ∀ x dx, H x = none → H dx = none → dx ≠ x → sp (.ref x :: (vs ++ dvs)) (upd (upd H dx (.own x)) x (.ins C dx [])) (fun v H2 => v = .non ∧ Q (.ref x) H2) (E σ)) :
    wpAny (model X.prog X.w) X.A (call (.ref C) us) (EP X pins σ Q) X.xe s := by
  have hq := h (s.heap.objs.size + 1) s.heap.objs.size (I.hok.fresh (Nat.le_succ _)) (I.hok.fresh (Nat.le_refl _)) (Nat.ne_of_lt (Nat.lt_succ_self _))
  have I2 := Inv.made (C := C) I
  have r2 : Vals (V.ref (s.heap.objs.size + 1) :: (vs ++ dvs)) (Value.ref (s.heap.objs.size + 1) :: (us ++ ds)) := .cons rfl (r.append hd)
  have hl : (Value.ref (s.heap.objs.size + 1) :: us ++ ds).length = ps.length := (r2.length.symm.trans (F.len _ _ _ _ hq))
  refine wpAny_call (make_map (f := f) I.kIn M.makes M.init (beq_iff_eq.mp M.fn) (codeAny_mono (F.run _ X.stack _ _ ⟨Value.ref (s.heap.objs.size + 1) :: us, []⟩ (Value.ref (s.heap.objs.size + 1) :: (us ++ ds)) _ _ (E σ) (hr.make C us [])
    (I2.env0.make C us []) (hb _ (Value.ref (s.heap.objs.size + 1) :: us) I2.kIn hl) r2 hq) fun r s' hq' => ?_))
  match r, hq' with
  | .error e, hq' => exact hx pins _ _ e s' I2 hq'
  | .ok (.ret u), hq' =>
    obtain ⟨v, H', I3, rv, rfl, q3⟩ := I2.after hq'
    exact ⟨rv, ⟨V.ref (s.heap.objs.size + 1), H', I3, rfl, q3⟩⟩
  | .ok .next, hq' => exact hq'.elim
  | .ok .brk, hq' => exact hq'.elim
  | .ok .cont, hq' => exact hq'.elim
theorem pe_makeS (M : Mk X.K C f) (F : FnOk X.prog X.w X.K X.mg X.base CX k f fd ps sp) (hr : Room (k + 1) X.A) (hg : Gl X x) (hm : X.mg x = some (.ref C)) (hb : Binds X.K fd ps ds) (hd : Vals dvs ds) (hx : ∀ σ, PassesAt CX X σ (E σ))
    (ha : PA X (e :: es) t) (hdb : (x == ("__debug__" : Str)) = false := by decide) (he : starEach (e :: es) X.env = (false, eval e X.env) :: starEach es X.env := by rfl) (hpl : (backTo pos (starEach es X.env)).any (·.1) = false := by rfl) :
    PE X (.Call (.Name x p) (e :: es) [] pos) (tMakeS C sp dvs E t) := by
  refine ⟨fun pins s σ H Q I h => wpAny_Call_Name_kw (ld_glob I hg hm ?_ hdb)⟩
  exact PySem.W.callWith_K (h₀ := X.base) I.ok.mod.kin M.kp (thn (ha.run pos pins s σ H _ I h) fun us s1 ⟨vs, H1, I1, r, q⟩ => ⟨I1.kIn, run_makeS M F hr hb hd (hx σ) I1 r q⟩) he hpl
end
/-- nothing is raised there -/
abbrev E0S : St → XK := fun _ => E0
theorem passS {X : Cx} : ∀ σ, PassesAt (L2.CX X.prog X.w) X σ (E0S σ) := fun _ pins H s e s' I h => passL pins _ H s e s' I h
theorem passS0 {X : Cx} : ∀ σ, PassesAt CX0 X σ (E0S σ) := fun _ _ _ _ _ _ _ h => h.elim
/-! ### an own class among the types -/
def tyNames : List String := ["NoneType", "int", "str", "bool", "list", "tuple", "dict"]
structure OwnC (K : PySem.W.Frag) (C : Addr) : Prop where
  cl : Cls K C
  ia : PySem.W.findIn K (.ref C) "__class__" = some (some (.builtin "object.__class__"))
  ig : PySem.W.specialIn K (.builtin "object.__class__") "__get__" = some (some (.builtin "getset_descriptor.__get__"))
  it : PySem.W.takesIn K (.builtin "object.__class__") = some true
  ob : PySem.W.mroIn K C (.type "object") = some true
  ne : PySem.W.findIn K (.ref C) "__ne__" = some (some (.builtin "object.__ne__"))
  to : ∀ n ∈ ["int", "str", "bool", "list", "tuple", "dict"], PySem.W.kitOne K (.ref C) (.type n) = some false
  fr : ∀ n ∈ tyNames, PySem.W.kitOne K (.type n) (.ref C) = some false
  nf : ∀ n ∈ tyNames, PySem.W.notFirst K C (.type n) = true
  me : PySem.W.kitOne K (.ref C) (.ref C) = some true
  nm : PySem.W.notFirst K C (.ref C) = true
def ownB (K : PySem.W.Frag) (x : Str) : Bool :=
  let C := He.ga K x
  (He.Fa.cls x).ok K && (He.eqO (PySem.W.findIn K (.ref C) "__class__") (some (some (.builtin "object.__class__"))) && (He.eqO (PySem.W.specialIn K (.builtin "object.__class__") "__get__") (some (some (.builtin "getset_descriptor.__get__"))) &&
  (decide (PySem.W.takesIn K (.builtin "object.__class__") = some true) && (decide (PySem.W.mroIn K C (.type "object") = some true) && (He.eqO (PySem.W.findIn K (.ref C) "__ne__") (some (some (.builtin "object.__ne__"))) &&
  ((["int", "str", "bool", "list", "tuple", "dict"].all fun n => decide (PySem.W.kitOne K (.ref C) (.type n) = some false)) && ((tyNames.all fun n => decide (PySem.W.kitOne K (.type n) (.ref C) = some false)) && ((tyNames.all fun n => PySem.W.notFirst K C (.type n)) &&
  (decide (PySem.W.kitOne K (.ref C) (.ref C) = some true) && PySem.W.notFirst K C (.ref C))))))))))
theorem ownB_ok {K : PySem.W.Frag} {x : Str} (h : ownB K x = true) : OwnC K (He.ga K x) := by
  unfold ownB at h
  simp only [Bool.and_eq_true] at h
  obtain ⟨h1, h2, h3, h4, h5, h6, h7, h8, h9, h10, h11⟩ := h
  exact ⟨He.cls_ok h1, He.eqO_ok h2, He.eqO_ok h3, of_decide_eq_true h4, of_decide_eq_true h5, He.eqO_ok h6, fun n hn => of_decide_eq_true (List.all_eq_true.mp h7 n hn), fun n hn => of_decide_eq_true (List.all_eq_true.mp h8 n hn), fun n hn => List.all_eq_true.mp h9 n hn, of_decide_eq_true h10, h11⟩
theorem OwnC.ty {K : PySem.W.Frag} {C : Addr} (O : OwnC K C) {H : Hp} {a dx : Addr} {fs : List (Str × V)} (e : H a = some (.ins C dx fs)) : TyX K H (.ref a) (.ref C) := .base (.ins e O.cl O.ia O.ig O.it O.ob)
theorem Meth.found {X : PySem.W.Frag} {C f : Addr} {m : Str} (h : Meth X C m f) : PySem.W.findIn X (.ref C) m = some (some (.ref f)) := h.1
end L2

/-! module constants, an empty tuple as a default, room for tests of membership -/
namespace PySem
namespace EXV
open PySem.W L2
def conB (x : Str) (i : Int) (K : Frag) : Bool := match nsIn K mainGlobals x with
  | some (some (.int j _)) => decide (j = i)
  | _ => false
theorem conB_ok {K : Frag} {h : Heap} {mg : Str → Option Value} {x : Str} {i : Int} (X : K.In h) (G : h.Ns mainGlobals mg) (c : conB x i K = true) : ∃ t, mg x = some (.int i t) := by
  unfold conB at c
  split at c
  · rename_i j t e
    exact ⟨t, by rw [mg_of X G e, of_decide_eq_true c]⟩
  · cases c
/-- an empty tuple of the written part -/
def IsE (K : Frag) (a : Addr) : Prop := ∃ (o : Obj) (n : Nat), K.lookup a = some o ∧ o.cls = .type "tuple" ∧ o.data = .seq #[] n
theorem IsE.sq {K : Frag} {a : Addr} (h : IsE K a) (H : Hp) : SqT K H a [] := by
  obtain ⟨o, n, h1, h2, h3⟩ := h
  exact .inr ⟨o, #[], n, h1, h2, h3, Nat.zero_le _, .nil⟩
def isEB (K : Frag) (a : Addr) : Bool := match K.lookup a with
  | some ⟨.type c, _, .seq its _, _⟩ => c == "tuple" && its.isEmpty
  | _ => false
theorem isEB_ok {K : Frag} {a : Addr} (h : isEB K a = true) : IsE K a := by
  unfold isEB at h
  split at h
  · rename_i c d its n sl e
    obtain ⟨h1, h2⟩ := Bool.and_eq_true_iff.mp h
    rw [beq_iff_eq] at h1
    have h3 : its = #[] := by simpa using h2
    subst h1 h3
    exact ⟨_, n, e, rfl, rfl⟩
  · cases h
end EXV
end PySem
namespace L2
open PySem
theorem hu65 {A : Around} {k : Nat} (hr : Room k A) : A.units + 65 < cLine := by have := hr.un; omega
def rLenSeq (K : PySem.W.Frag) : List V → Hp → VK → Prop := fun xs H Q => ∃ p ys, xs = [.ref p] ∧ (SqL K H p ys ∨ SqT K H p ys) ∧ Q (.int ys.length) H
def rListOf (K : PySem.W.Frag) : List V → Hp → VK → Prop := fun xs H Q => ∃ p ys, xs = [.ref p] ∧ (SqL K H p ys ∨ SqT K H p ys) ∧ ∀ l, H l = none → Q (.ref l) (upd H l (.lst ys))
def rTupOf (K : PySem.W.Frag) : List V → Hp → VK → Prop := fun xs H Q => ∃ p ys, xs = [.ref p] ∧ ((SqL K H p ys ∧ ∀ l, H l = none → Q (.ref l) (upd H l (.tup ys))) ∨ (SqT K H p ys ∧ Q (.ref p) H))
theorem popP {α : Type} : ∀ {l : List α} {k : Nat} {y : α}, l[k]? = some y → (y :: l.eraseIdx k).Perm l
  | [], _, _, h => by simp at h
  | a :: r, 0, y, h => by
    simp at h
    subst h
    exact List.Perm.refl _
  | a :: r, k + 1, y, h => by
    have h2 := popP (l := r) (k := k) (y := y) (by simpa using h)
    exact (List.Perm.swap a y _).trans (h2.cons a)
end L2

namespace K62
open PySem PySem.Spec PyProof.Rows L2 TL
def top (i : Nat) : Stmt := PySem.Challenge.pw_resampler_k62_whole_trees_of_a_history_d.main.body.getD i (.Pass ⟨0, 0, 0, 0⟩)
abbrev s_is_list : Stmt := top 14
abbrev N_is_list : List Str := ["value", "low", "high"]
theorem sc_is_list : FnScope N_is_list ["value", "low", "high"] (defScope s_is_list) := ⟨rfl, rfl, rfl, by decide +kernel, rfl, by decide +kernel, by decide +kernel⟩
abbrev s_check_distinct : Stmt := top 15
abbrev N_check_distinct : List Str := ["names", "seen", "name"]
theorem sc_check_distinct : FnScope N_check_distinct ["names"] (defScope s_check_distinct) := ⟨rfl, rfl, rfl, by decide +kernel, rfl, by decide +kernel, by decide +kernel⟩
abbrev s_is_name : Stmt := top 17
abbrev N_is_name : List Str := ["value", "letter"]
theorem sc_is_name : FnScope N_is_name ["value"] (defScope s_is_name) := ⟨rfl, rfl, rfl, by decide +kernel, rfl, by decide +kernel, by decide +kernel⟩
abbrev s_is_any_integer : Stmt := top 18
abbrev N_is_any_integer : List Str := ["value"]
theorem sc_is_any_integer : FnScope N_is_any_integer ["value"] (defScope s_is_any_integer) := ⟨rfl, rfl, rfl, by decide +kernel, rfl, by decide +kernel, by decide +kernel⟩
abbrev s_is_integer : Stmt := top 19
abbrev N_is_integer : List Str := ["value", "low", "high"]
theorem sc_is_integer : FnScope N_is_integer ["value", "low", "high"] (defScope s_is_integer) := ⟨rfl, rfl, rfl, by decide +kernel, rfl, by decide +kernel, by decide +kernel⟩
abbrev s_Problem_init : Stmt := inClass (top 23) 0
abbrev N_Problem_init : List Str := ["self", "variables", "events", "name", "size", "place", "scope", "bad_tuples", "_"]
theorem sc_Problem_init : FnScope N_Problem_init ["self", "variables", "events"] (defScope s_Problem_init) := ⟨rfl, rfl, rfl, by decide +kernel, rfl, by decide +kernel, by decide +kernel⟩
abbrev s_Problem_eq : Stmt := inClass (top 23) 1
abbrev N_Problem_eq : List Str := ["self", "other"]
theorem sc_Problem_eq : FnScope N_Problem_eq ["self", "other"] (defScope s_Problem_eq) := ⟨rfl, rfl, rfl, by decide +kernel, rfl, by decide +kernel, by decide +kernel⟩
abbrev s_Problem_events : Stmt := inClass (top 23) 5
abbrev N_Problem_events : List Str := ["self"]
theorem sc_Problem_events : FnScope N_Problem_events ["self"] (defScope s_Problem_events) := ⟨rfl, rfl, rfl, by decide +kernel, rfl, by decide +kernel, by decide +kernel⟩
abbrev s_Problem_are_adjacent : Stmt := inClass (top 23) 9
abbrev N_Problem_are_adjacent : List Str := ["self", "one", "other"]
theorem sc_Problem_are_adjacent : FnScope N_Problem_are_adjacent ["self", "one", "other"] (defScope s_Problem_are_adjacent) := ⟨rfl, rfl, rfl, by decide +kernel, rfl, by decide +kernel, by decide +kernel⟩
abbrev s_Problem_neighbors : Stmt := inClass (top 23) 10
abbrev N_Problem_neighbors : List Str := ["self", "event"]
theorem sc_Problem_neighbors : FnScope N_Problem_neighbors ["self", "event"] (defScope s_Problem_neighbors) := ⟨rfl, rfl, rfl, by decide +kernel, rfl, by decide +kernel, by decide +kernel⟩
abbrev s_Problem_is_event : Stmt := inClass (top 23) 16
abbrev N_Problem_is_event : List Str := ["self", "value"]
theorem sc_Problem_is_event : FnScope N_Problem_is_event ["self", "value"] (defScope s_Problem_is_event) := ⟨rfl, rfl, rfl, by decide +kernel, rfl, by decide +kernel, by decide +kernel⟩
abbrev s_Problem_is_piece : Stmt := inClass (top 23) 17
abbrev N_Problem_is_piece : List Str := ["self", "value", "event", "values"]
theorem sc_Problem_is_piece : FnScope N_Problem_is_piece ["self", "value"] (defScope s_Problem_is_piece) := ⟨rfl, rfl, rfl, by decide +kernel, rfl, by decide +kernel, by decide +kernel⟩
abbrev s_Problem_check_event : Stmt := inClass (top 23) 19
abbrev N_Problem_check_event : List Str := ["self", "value"]
theorem sc_Problem_check_event : FnScope N_Problem_check_event ["self", "value"] (defScope s_Problem_check_event) := ⟨rfl, rfl, rfl, by decide +kernel, rfl, by decide +kernel, by decide +kernel⟩
abbrev s_Problem_scope_sizes : Stmt := inClass (top 23) 22
abbrev N_Problem_scope_sizes : List Str := ["self", "event", "variable"]
theorem sc_Problem_scope_sizes : FnScope N_Problem_scope_sizes ["self", "event"] (defScope s_Problem_scope_sizes) := ⟨rfl, rfl, rfl, by decide +kernel, rfl, by decide +kernel, by decide +kernel⟩
abbrev s_check_problem : Stmt := top 24
abbrev N_check_problem : List Str := ["value"]
theorem sc_check_problem : FnScope N_check_problem ["value"] (defScope s_check_problem) := ⟨rfl, rfl, rfl, by decide +kernel, rfl, by decide +kernel, by decide +kernel⟩
abbrev s__neighbors_of : Stmt := top 25
abbrev N__neighbors_of : List Str := ["event", "scopes", "found", "other", "scope", "variable"]
theorem sc__neighbors_of : FnScope N__neighbors_of ["event", "scopes"] (defScope s__neighbors_of) := ⟨rfl, rfl, rfl, by decide +kernel, rfl, by decide +kernel, by decide +kernel⟩
abbrev s__are_values : Stmt := top 26
abbrev N__are_values : List Str := ["value", "sizes", "item", "size"]
theorem sc__are_values : FnScope N__are_values ["value", "sizes"] (defScope s__are_values) := ⟨rfl, rfl, rfl, by decide +kernel, rfl, by decide +kernel, by decide +kernel⟩
abbrev s__check_variables : Stmt := top 27
abbrev N__check_variables : List Str := ["variables", "name", "_", "row"]
theorem sc__check_variables : FnScope N__check_variables ["variables"] (defScope s__check_variables) := ⟨rfl, rfl, rfl, by decide +kernel, rfl, by decide +kernel, by decide +kernel⟩
abbrev s__is_variable_row : Stmt := top 28
abbrev N__is_variable_row : List Str := ["row"]
theorem sc__is_variable_row : FnScope N__is_variable_row ["row"] (defScope s__is_variable_row) := ⟨rfl, rfl, rfl, by decide +kernel, rfl, by decide +kernel, by decide +kernel⟩
abbrev s__check_events : Stmt := top 29
abbrev N__check_events : List Str := ["events", "sizes", "names", "name", "scope", "bad_tuples", "row", "variable"]
theorem sc__check_events : FnScope N__check_events ["events", "sizes"] (defScope s__check_events) := ⟨rfl, rfl, rfl, by decide +kernel, rfl, by decide +kernel, by decide +kernel⟩
abbrev s__is_event_row : Stmt := top 30
abbrev N__is_event_row : List Str := ["row"]
theorem sc__is_event_row : FnScope N__is_event_row ["row"] (defScope s__is_event_row) := ⟨rfl, rfl, rfl, by decide +kernel, rfl, by decide +kernel, by decide +kernel⟩
abbrev s__check_scope : Stmt := top 31
abbrev N__check_scope : List Str := ["scope", "sizes", "item"]
theorem sc__check_scope : FnScope N__check_scope ["scope", "sizes"] (defScope s__check_scope) := ⟨rfl, rfl, rfl, by decide +kernel, rfl, by decide +kernel, by decide +kernel⟩
abbrev s__check_variable : Stmt := top 32
abbrev N__check_variable : List Str := ["value", "sizes"]
theorem sc__check_variable : FnScope N__check_variable ["value", "sizes"] (defScope s__check_variable) := ⟨rfl, rfl, rfl, by decide +kernel, rfl, by decide +kernel, by decide +kernel⟩
abbrev s__are_bad_tuples : Stmt := top 33
abbrev N__are_bad_tuples : List Str := ["bad_tuples", "sizes", "known", "values"]
theorem sc__are_bad_tuples : FnScope N__are_bad_tuples ["bad_tuples", "sizes"] (defScope s__are_bad_tuples) := ⟨rfl, rfl, rfl, by decide +kernel, rfl, by decide +kernel, by decide +kernel⟩
abbrev s_check_history : Stmt := top 36
abbrev N_check_history : List Str := ["problem", "history", "index", "item"]
theorem sc_check_history : FnScope N_check_history ["problem", "history"] (defScope s_check_history) := ⟨rfl, rfl, rfl, by decide +kernel, rfl, by decide +kernel, by decide +kernel⟩
abbrev s_witness_tree : Stmt := top 38
abbrev N_witness_tree : List Str := ["problem", "history", "step"]
theorem sc_witness_tree : FnScope N_witness_tree ["problem", "history", "step"] (defScope s_witness_tree) := ⟨rfl, rfl, rfl, by decide +kernel, rfl, by decide +kernel, by decide +kernel⟩
abbrev s_witness_trees : Stmt := top 39
abbrev N_witness_trees : List Str := ["problem", "history", "step"]
theorem sc_witness_trees : FnScope N_witness_trees ["problem", "history"] (defScope s_witness_trees) := ⟨rfl, rfl, rfl, by decide +kernel, rfl, by decide +kernel, by decide +kernel⟩
abbrev s_check_tree : Stmt := top 40
abbrev N_check_tree : List Str := ["problem", "history", "step", "value", "tree"]
theorem sc_check_tree : FnScope N_check_tree ["problem", "history", "step", "value"] (defScope s_check_tree) := ⟨rfl, rfl, rfl, by decide +kernel, rfl, by decide +kernel, by decide +kernel⟩
abbrev s__tree_of : Stmt := top 41
abbrev N__tree_of : List Str := ["problem", "history", "step", "event", "near", "values", "rows", "deepest", "found", "above", "parent", "other"]
theorem sc__tree_of : FnScope N__tree_of ["problem", "history", "step"] (defScope s__tree_of) := ⟨rfl, rfl, rfl, by decide +kernel, rfl, by decide +kernel, by decide +kernel⟩
abbrev s__are_rows : Stmt := top 42
abbrev N__are_rows : List Str := ["problem", "value", "row"]
theorem sc__are_rows : FnScope N__are_rows ["problem", "value"] (defScope s__are_rows) := ⟨rfl, rfl, rfl, by decide +kernel, rfl, by decide +kernel, by decide +kernel⟩
abbrev s__is_row : Stmt := top 43
abbrev N__is_row : List Str := ["problem", "value", "depth", "event", "values", "parent"]
theorem sc__is_row : FnScope N__is_row ["problem", "value"] (defScope s__is_row) := ⟨rfl, rfl, rfl, by decide +kernel, rfl, by decide +kernel, by decide +kernel⟩
abbrev s_l_cell : Stmt := top 45
abbrev N_l_cell : List Str := ["_law_script", "_law_k"]
theorem sc_l_cell : FnScope N_l_cell ["_law_script", "_law_k"] (defScope s_l_cell) := ⟨rfl, rfl, rfl, by decide +kernel, rfl, by decide +kernel, by decide +kernel⟩
abbrev s_l_box : Stmt := top 46
abbrev N_l_box : List Str := ["_law_cell_here"]
theorem sc_l_box : FnScope N_l_box ["_law_cell_here"] (defScope s_l_box) := ⟨rfl, rfl, rfl, by decide +kernel, rfl, by decide +kernel, by decide +kernel⟩
abbrev s_l_take : Stmt := top 47
abbrev N_l_take : List Str := ["_law_box_here", "_law_many", "_law_digit", "_law_number"]
theorem sc_l_take : FnScope N_l_take ["_law_box_here", "_law_many"] (defScope s_l_take) := ⟨rfl, rfl, rfl, by decide +kernel, rfl, by decide +kernel, by decide +kernel⟩
abbrev s_l_mixed : Stmt := top 48
abbrev N_l_mixed : List Str := ["_law_box_here", "_law_some", "_law_left", "_law_k"]
theorem sc_l_mixed : FnScope N_l_mixed ["_law_box_here", "_law_some"] (defScope s_l_mixed) := ⟨rfl, rfl, rfl, by decide +kernel, rfl, by decide +kernel, by decide +kernel⟩
abbrev s_l_names : Stmt := top 49
abbrev N_l_names : List Str := ["_law_box_here", "_law_many", "_law_letters", "_law_first", "_law_way", "_law_stem", "_law_singles", "_law_k", "_law_one"]
theorem sc_l_names : FnScope N_l_names ["_law_box_here", "_law_many"] (defScope s_l_names) := ⟨rfl, rfl, rfl, by decide +kernel, rfl, by decide +kernel, by decide +kernel⟩
abbrev s_l_agree : Stmt := top 50
abbrev N_l_agree : List Str := ["_law_scope", "_law_bad", "_law_other", "_law_values", "_law_one", "_law_name", "_law_value"]
theorem sc_l_agree : FnScope N_l_agree ["_law_scope", "_law_bad", "_law_other"] (defScope s_l_agree) := ⟨rfl, rfl, rfl, by decide +kernel, rfl, by decide +kernel, by decide +kernel⟩
abbrev s_l_bads : Stmt := top 51
abbrev N_l_bads : List Str := ["_law_box_here", "_law_sizes", "_law_scope", "_law_rest", "_law_found", "_law_k", "_law_bad", "_law_name", "_law_row"]
theorem sc_l_bads : FnScope N_l_bads ["_law_box_here", "_law_sizes", "_law_scope", "_law_rest"] (defScope s_l_bads) := ⟨rfl, rfl, rfl, by decide +kernel, rfl, by decide +kernel, by decide +kernel⟩
abbrev s_l_problem : Stmt := top 52
abbrev N_l_problem : List Str := ["_law_box_here", "_law_exclusive", "_law_many", "_law_names_here", "_law_name", "_law_variables", "_law_count", "_law_events", "_law_titles", "_law_scope"]
theorem sc_l_problem : FnScope N_l_problem ["_law_box_here", "_law_exclusive"] (defScope s_l_problem) := ⟨rfl, rfl, rfl, by decide +kernel, rfl, by decide +kernel, by decide +kernel⟩
abbrev s_l_pieces : Stmt := top 53
abbrev N_l_pieces : List Str := ["_law_box_here", "_law_events", "_law_upto", "_law_pool", "_law_name", "_law_scope", "_law_bads_here", "_law_k", "_law_bad"]
theorem sc_l_pieces : FnScope N_l_pieces ["_law_box_here", "_law_events", "_law_upto"] (defScope s_l_pieces) := ⟨rfl, rfl, rfl, by decide +kernel, rfl, by decide +kernel, by decide +kernel⟩
abbrev s_l_one_right : Stmt := top 54
abbrev N_l_one_right : List Str := ["_law_problem_here", "_law_rows", "_law_piece", "_law_spot", "_law_row", "_law_alike", "_law_above", "_law_one"]
theorem sc_l_one_right : FnScope N_l_one_right ["_law_problem_here", "_law_rows", "_law_piece"] (defScope s_l_one_right) := ⟨rfl, rfl, rfl, by decide +kernel, rfl, by decide +kernel, by decide +kernel⟩
abbrev s_law : Stmt := top 55
abbrev N_law : List Str := ["_law_script", "_law_k", "_law_box_here", "_law_variables", "_law_events", "_law_problem_here", "_law_pieces_here", "_law_found", "_law_rows", "_law_piece", "_law_turn", "_law_at", "_law_to"]
theorem sc_law : FnScope N_law ["_law_script"] (defScope s_law) := ⟨rfl, rfl, rfl, by decide +kernel, rfl, by decide +kernel, by decide +kernel⟩
structure Txt (P : Program) (K : PySem.W.Frag) (mg : Str → Option Value) where
  e0 : Addr
  t_e0 : PySem.EXV.IsE K e0
  C_Problem : Addr
  g_Problem : mg "Problem" = some (.ref C_Problem)
  f_is_list : Addr
  fd_is_list : FuncData
  F_is_list : FunD K "is_list" "is_list" (defArgs s_is_list) (defBody s_is_list) (defScope s_is_list) [] [] f_is_list fd_is_list
  g_is_list : mg "is_list" = some (.ref f_is_list)
  f_check_distinct : Addr
  fd_check_distinct : FuncData
  F_check_distinct : FunD K "check_distinct" "check_distinct" (defArgs s_check_distinct) (defBody s_check_distinct) (defScope s_check_distinct) [] [] f_check_distinct fd_check_distinct
  g_check_distinct : mg "check_distinct" = some (.ref f_check_distinct)
  f_is_name : Addr
  fd_is_name : FuncData
  F_is_name : FunD K "is_name" "is_name" (defArgs s_is_name) (defBody s_is_name) (defScope s_is_name) [] [] f_is_name fd_is_name
  g_is_name : mg "is_name" = some (.ref f_is_name)
  f_is_any_integer : Addr
  fd_is_any_integer : FuncData
  F_is_any_integer : FunD K "is_any_integer" "is_any_integer" (defArgs s_is_any_integer) (defBody s_is_any_integer) (defScope s_is_any_integer) [] [] f_is_any_integer fd_is_any_integer
  g_is_any_integer : mg "is_any_integer" = some (.ref f_is_any_integer)
  f_is_integer : Addr
  fd_is_integer : FuncData
  F_is_integer : FunD K "is_integer" "is_integer" (defArgs s_is_integer) (defBody s_is_integer) (defScope s_is_integer) [] [] f_is_integer fd_is_integer
  g_is_integer : mg "is_integer" = some (.ref f_is_integer)
  f_Problem_init : Addr
  fd_Problem_init : FuncData
  F_Problem_init : FunD K "__init__" "Problem.__init__" (defArgs s_Problem_init) (defBody s_Problem_init) (defScope s_Problem_init) [.ref e0] [] f_Problem_init fd_Problem_init
  f_Problem_eq : Addr
  fd_Problem_eq : FuncData
  F_Problem_eq : FunD K "__eq__" "Problem.__eq__" (defArgs s_Problem_eq) (defBody s_Problem_eq) (defScope s_Problem_eq) [] [] f_Problem_eq fd_Problem_eq
  m_Problem_eq : Meth K C_Problem "__eq__" f_Problem_eq
  f_Problem_events : Addr
  fd_Problem_events : FuncData
  F_Problem_events : FunD K "events" "Problem.events" (defArgs s_Problem_events) (defBody s_Problem_events) (defScope s_Problem_events) [] [] f_Problem_events fd_Problem_events
  m_Problem_events : Meth K C_Problem "events" f_Problem_events
  f_Problem_are_adjacent : Addr
  fd_Problem_are_adjacent : FuncData
  F_Problem_are_adjacent : FunD K "are_adjacent" "Problem.are_adjacent" (defArgs s_Problem_are_adjacent) (defBody s_Problem_are_adjacent) (defScope s_Problem_are_adjacent) [] [] f_Problem_are_adjacent fd_Problem_are_adjacent
  m_Problem_are_adjacent : Meth K C_Problem "are_adjacent" f_Problem_are_adjacent
  f_Problem_neighbors : Addr
  fd_Problem_neighbors : FuncData
  F_Problem_neighbors : FunD K "neighbors" "Problem.neighbors" (defArgs s_Problem_neighbors) (defBody s_Problem_neighbors) (defScope s_Problem_neighbors) [] [] f_Problem_neighbors fd_Problem_neighbors
  m_Problem_neighbors : Meth K C_Problem "neighbors" f_Problem_neighbors
  f_Problem_is_event : Addr
  fd_Problem_is_event : FuncData
  F_Problem_is_event : FunD K "is_event" "Problem.is_event" (defArgs s_Problem_is_event) (defBody s_Problem_is_event) (defScope s_Problem_is_event) [] [] f_Problem_is_event fd_Problem_is_event
  m_Problem_is_event : Meth K C_Problem "is_event" f_Problem_is_event
  f_Problem_is_piece : Addr
  fd_Problem_is_piece : FuncData
  F_Problem_is_piece : FunD K "is_piece" "Problem.is_piece" (defArgs s_Problem_is_piece) (defBody s_Problem_is_piece) (defScope s_Problem_is_piece) [] [] f_Problem_is_piece fd_Problem_is_piece
  m_Problem_is_piece : Meth K C_Problem "is_piece" f_Problem_is_piece
  f_Problem_check_event : Addr
  fd_Problem_check_event : FuncData
  F_Problem_check_event : FunD K "check_event" "Problem.check_event" (defArgs s_Problem_check_event) (defBody s_Problem_check_event) (defScope s_Problem_check_event) [] [] f_Problem_check_event fd_Problem_check_event
  m_Problem_check_event : Meth K C_Problem "check_event" f_Problem_check_event
  f_Problem_scope_sizes : Addr
  fd_Problem_scope_sizes : FuncData
  F_Problem_scope_sizes : FunD K "_scope_sizes" "Problem._scope_sizes" (defArgs s_Problem_scope_sizes) (defBody s_Problem_scope_sizes) (defScope s_Problem_scope_sizes) [] [] f_Problem_scope_sizes fd_Problem_scope_sizes
  m_Problem_scope_sizes : Meth K C_Problem "_scope_sizes" f_Problem_scope_sizes
  f_check_problem : Addr
  fd_check_problem : FuncData
  F_check_problem : FunD K "check_problem" "check_problem" (defArgs s_check_problem) (defBody s_check_problem) (defScope s_check_problem) [] [] f_check_problem fd_check_problem
  g_check_problem : mg "check_problem" = some (.ref f_check_problem)
  f__neighbors_of : Addr
  fd__neighbors_of : FuncData
  F__neighbors_of : FunD K "_neighbors_of" "_neighbors_of" (defArgs s__neighbors_of) (defBody s__neighbors_of) (defScope s__neighbors_of) [] [] f__neighbors_of fd__neighbors_of
  g__neighbors_of : mg "_neighbors_of" = some (.ref f__neighbors_of)
  f__are_values : Addr
  fd__are_values : FuncData
  F__are_values : FunD K "_are_values" "_are_values" (defArgs s__are_values) (defBody s__are_values) (defScope s__are_values) [] [] f__are_values fd__are_values
  g__are_values : mg "_are_values" = some (.ref f__are_values)
  f__check_variables : Addr
  fd__check_variables : FuncData
  F__check_variables : FunD K "_check_variables" "_check_variables" (defArgs s__check_variables) (defBody s__check_variables) (defScope s__check_variables) [] [] f__check_variables fd__check_variables
  g__check_variables : mg "_check_variables" = some (.ref f__check_variables)
  f__is_variable_row : Addr
  fd__is_variable_row : FuncData
  F__is_variable_row : FunD K "_is_variable_row" "_is_variable_row" (defArgs s__is_variable_row) (defBody s__is_variable_row) (defScope s__is_variable_row) [] [] f__is_variable_row fd__is_variable_row
  g__is_variable_row : mg "_is_variable_row" = some (.ref f__is_variable_row)
  f__check_events : Addr
  fd__check_events : FuncData
  F__check_events : FunD K "_check_events" "_check_events" (defArgs s__check_events) (defBody s__check_events) (defScope s__check_events) [] [] f__check_events fd__check_events
  g__check_events : mg "_check_events" = some (.ref f__check_events)
  f__is_event_row : Addr
  fd__is_event_row : FuncData
  F__is_event_row : FunD K "_is_event_row" "_is_event_row" (defArgs s__is_event_row) (defBody s__is_event_row) (defScope s__is_event_row) [] [] f__is_event_row fd__is_event_row
  g__is_event_row : mg "_is_event_row" = some (.ref f__is_event_row)
  f__check_scope : Addr
  fd__check_scope : FuncData
  F__check_scope : FunD K "_check_scope" "_check_scope" (defArgs s__check_scope) (defBody s__check_scope) (defScope s__check_scope) [] [] f__check_scope fd__check_scope
  g__check_scope : mg "_check_scope" = some (.ref f__check_scope)
  f__check_variable : Addr
  fd__check_variable : FuncData
  F__check_variable : FunD K "_check_variable" "_check_variable" (defArgs s__check_variable) (defBody s__check_variable) (defScope s__check_variable) [] [] f__check_variable fd__check_variable
  g__check_variable : mg "_check_variable" = some (.ref f__check_variable)
  f__are_bad_tuples : Addr
  fd__are_bad_tuples : FuncData
  F__are_bad_tuples : FunD K "_are_bad_tuples" "_are_bad_tuples" (defArgs s__are_bad_tuples) (defBody s__are_bad_tuples) (defScope s__are_bad_tuples) [] [] f__are_bad_tuples fd__are_bad_tuples
  g__are_bad_tuples : mg "_are_bad_tuples" = some (.ref f__are_bad_tuples)
  f_check_history : Addr
  fd_check_history : FuncData
  F_check_history : FunD K "check_history" "check_history" (defArgs s_check_history) (defBody s_check_history) (defScope s_check_history) [] [] f_check_history fd_check_history
  g_check_history : mg "check_history" = some (.ref f_check_history)
  f_witness_tree : Addr
  fd_witness_tree : FuncData
  F_witness_tree : FunD K "witness_tree" "witness_tree" (defArgs s_witness_tree) (defBody s_witness_tree) (defScope s_witness_tree) [] [] f_witness_tree fd_witness_tree
  g_witness_tree : mg "witness_tree" = some (.ref f_witness_tree)
  f_witness_trees : Addr
  fd_witness_trees : FuncData
  F_witness_trees : FunD K "witness_trees" "witness_trees" (defArgs s_witness_trees) (defBody s_witness_trees) (defScope s_witness_trees) [] [] f_witness_trees fd_witness_trees
  g_witness_trees : mg "witness_trees" = some (.ref f_witness_trees)
  f_check_tree : Addr
  fd_check_tree : FuncData
  F_check_tree : FunD K "check_tree" "check_tree" (defArgs s_check_tree) (defBody s_check_tree) (defScope s_check_tree) [] [] f_check_tree fd_check_tree
  g_check_tree : mg "check_tree" = some (.ref f_check_tree)
  f__tree_of : Addr
  fd__tree_of : FuncData
  F__tree_of : FunD K "_tree_of" "_tree_of" (defArgs s__tree_of) (defBody s__tree_of) (defScope s__tree_of) [] [] f__tree_of fd__tree_of
  g__tree_of : mg "_tree_of" = some (.ref f__tree_of)
  f__are_rows : Addr
  fd__are_rows : FuncData
  F__are_rows : FunD K "_are_rows" "_are_rows" (defArgs s__are_rows) (defBody s__are_rows) (defScope s__are_rows) [] [] f__are_rows fd__are_rows
  g__are_rows : mg "_are_rows" = some (.ref f__are_rows)
  f__is_row : Addr
  fd__is_row : FuncData
  F__is_row : FunD K "_is_row" "_is_row" (defArgs s__is_row) (defBody s__is_row) (defScope s__is_row) [] [] f__is_row fd__is_row
  g__is_row : mg "_is_row" = some (.ref f__is_row)
  f_l_cell : Addr
  fd_l_cell : FuncData
  F_l_cell : FunD K "_law_cell" "_law_cell" (defArgs s_l_cell) (defBody s_l_cell) (defScope s_l_cell) [] [] f_l_cell fd_l_cell
  g_l_cell : mg "_law_cell" = some (.ref f_l_cell)
  f_l_box : Addr
  fd_l_box : FuncData
  F_l_box : FunD K "_law_box" "_law_box" (defArgs s_l_box) (defBody s_l_box) (defScope s_l_box) [] [] f_l_box fd_l_box
  g_l_box : mg "_law_box" = some (.ref f_l_box)
  f_l_take : Addr
  fd_l_take : FuncData
  F_l_take : FunD K "_law_take" "_law_take" (defArgs s_l_take) (defBody s_l_take) (defScope s_l_take) [] [] f_l_take fd_l_take
  g_l_take : mg "_law_take" = some (.ref f_l_take)
  f_l_mixed : Addr
  fd_l_mixed : FuncData
  F_l_mixed : FunD K "_law_mixed" "_law_mixed" (defArgs s_l_mixed) (defBody s_l_mixed) (defScope s_l_mixed) [] [] f_l_mixed fd_l_mixed
  g_l_mixed : mg "_law_mixed" = some (.ref f_l_mixed)
  f_l_names : Addr
  fd_l_names : FuncData
  F_l_names : FunD K "_law_names" "_law_names" (defArgs s_l_names) (defBody s_l_names) (defScope s_l_names) [] [] f_l_names fd_l_names
  g_l_names : mg "_law_names" = some (.ref f_l_names)
  f_l_agree : Addr
  fd_l_agree : FuncData
  F_l_agree : FunD K "_law_agree" "_law_agree" (defArgs s_l_agree) (defBody s_l_agree) (defScope s_l_agree) [] [] f_l_agree fd_l_agree
  g_l_agree : mg "_law_agree" = some (.ref f_l_agree)
  f_l_bads : Addr
  fd_l_bads : FuncData
  F_l_bads : FunD K "_law_bads" "_law_bads" (defArgs s_l_bads) (defBody s_l_bads) (defScope s_l_bads) [] [] f_l_bads fd_l_bads
  g_l_bads : mg "_law_bads" = some (.ref f_l_bads)
  f_l_problem : Addr
  fd_l_problem : FuncData
  F_l_problem : FunD K "_law_problem" "_law_problem" (defArgs s_l_problem) (defBody s_l_problem) (defScope s_l_problem) [] [] f_l_problem fd_l_problem
  g_l_problem : mg "_law_problem" = some (.ref f_l_problem)
  f_l_pieces : Addr
  fd_l_pieces : FuncData
  F_l_pieces : FunD K "_law_pieces" "_law_pieces" (defArgs s_l_pieces) (defBody s_l_pieces) (defScope s_l_pieces) [] [] f_l_pieces fd_l_pieces
  g_l_pieces : mg "_law_pieces" = some (.ref f_l_pieces)
  f_l_one_right : Addr
  fd_l_one_right : FuncData
  F_l_one_right : FunD K "_law_one_right" "_law_one_right" (defArgs s_l_one_right) (defBody s_l_one_right) (defScope s_l_one_right) [] [] f_l_one_right fd_l_one_right
  g_l_one_right : mg "_law_one_right" = some (.ref f_l_one_right)
  f_law : Addr
  fd_law : FuncData
  F_law : FunD K "law" "law" (defArgs s_law) (defBody s_law) (defScope s_law) [] [] f_law fd_law
  g_law : mg "law" = some (.ref f_law)
  cl_Problem : Cls K C_Problem
  mk_Problem : Mk K C_Problem f_Problem_init
  na_Problem__variables : NoAttr K C_Problem "_variables"
  na_Problem__sizes : NoAttr K C_Problem "_sizes"
  na_Problem__places : NoAttr K C_Problem "_places"
  na_Problem__events : NoAttr K C_Problem "_events"
  na_Problem__scopes : NoAttr K C_Problem "_scopes"
  na_Problem__bad_tuples : NoAttr K C_Problem "_bad_tuples"
  na_Problem__neighbors : NoAttr K C_Problem "_neighbors"
  ow_Problem : OwnC K C_Problem
  sm : HasSm K
  n_all : mg "all" = none
  n_any : mg "any" = none
  n_bool : mg "bool" = none
  n_dict : mg "dict" = none
  n_enumerate : mg "enumerate" = none
  n_int : mg "int" = none
  n_isinstance : mg "isinstance" = none
  n_len : mg "len" = none
  n_list : mg "list" = none
  n_max : mg "max" = none
  n_min : mg "min" = none
  n_range : mg "range" = none
  n_repr : mg "repr" = none
  n_reversed : mg "reversed" = none
  n_sorted : mg "sorted" = none
  n_str : mg "str" = none
  n_tuple : mg "tuple" = none
  n_zip : mg "zip" = none
  c_MOST_VARIABLES : ∃ t, mg "MOST_VARIABLES" = some (.int 8 t)
  c_MOST_EVENTS : ∃ t, mg "MOST_EVENTS" = some (.int 8 t)
  c_MOST_PIECES : ∃ t, mg "MOST_PIECES" = some (.int 240 t)
theorem b_is_list {P : Program} {K : PySem.W.Frag} {mg : Str → Option Value} (T : Txt P K mg) : Binds K T.fd_is_list ["value", "low", "high"] [] := T.F_is_list.bindsN fun _ _ _ _ _ _ us hl => match us, hl with | [_, _, _], _ => rfl
theorem b_check_distinct {P : Program} {K : PySem.W.Frag} {mg : Str → Option Value} (T : Txt P K mg) : Binds K T.fd_check_distinct ["names"] [] := T.F_check_distinct.bindsN fun _ _ _ _ _ _ us hl => match us, hl with | [_], _ => rfl
theorem b_is_name {P : Program} {K : PySem.W.Frag} {mg : Str → Option Value} (T : Txt P K mg) : Binds K T.fd_is_name ["value"] [] := T.F_is_name.bindsN fun _ _ _ _ _ _ us hl => match us, hl with | [_], _ => rfl
theorem b_is_any_integer {P : Program} {K : PySem.W.Frag} {mg : Str → Option Value} (T : Txt P K mg) : Binds K T.fd_is_any_integer ["value"] [] := T.F_is_any_integer.bindsN fun _ _ _ _ _ _ us hl => match us, hl with | [_], _ => rfl
theorem b_is_integer {P : Program} {K : PySem.W.Frag} {mg : Str → Option Value} (T : Txt P K mg) : Binds K T.fd_is_integer ["value", "low", "high"] [] := T.F_is_integer.bindsN fun _ _ _ _ _ _ us hl => match us, hl with | [_, _, _], _ => rfl
theorem b_Problem_init_1 {P : Program} {K : PySem.W.Frag} {mg : Str → Option Value} (T : Txt P K mg) : ∃ ds, Vals (([.ref T.e0] : List V).drop 0) ds ∧ Binds K T.fd_Problem_init ["self", "variables", "events"] ds := T.F_Problem_init.binds1 (ps := ["self", "variables", "events"]) 2 0 (by simp) (by rfl) fun _ _ _ _ _ _ _ us its h1 h2 => match us, its, h1, h2 with | [_, _], [_], _, _ => ⟨_, rfl, rfl⟩
theorem b_Problem_init {P : Program} {K : PySem.W.Frag} {mg : Str → Option Value} (T : Txt P K mg) : Binds K T.fd_Problem_init ["self", "variables", "events"] [] := by
  obtain ⟨ds, v, b⟩ := T.F_Problem_init.binds1 (ps := ["self", "variables", "events"]) 3 1 (by simp) (by rfl) fun _ _ _ _ _ _ _ us its h1 h2 => match us, its, h1, h2 with | [_, _, _], [_], _, _ => ⟨_, rfl, rfl⟩
  cases v
  exact b
theorem b_Problem_eq {P : Program} {K : PySem.W.Frag} {mg : Str → Option Value} (T : Txt P K mg) : Binds K T.fd_Problem_eq ["self", "other"] [] := T.F_Problem_eq.bindsN fun _ _ _ _ _ _ us hl => match us, hl with | [_, _], _ => rfl
theorem b_Problem_events {P : Program} {K : PySem.W.Frag} {mg : Str → Option Value} (T : Txt P K mg) : Binds K T.fd_Problem_events ["self"] [] := T.F_Problem_events.bindsN fun _ _ _ _ _ _ us hl => match us, hl with | [_], _ => rfl
theorem b_Problem_are_adjacent {P : Program} {K : PySem.W.Frag} {mg : Str → Option Value} (T : Txt P K mg) : Binds K T.fd_Problem_are_adjacent ["self", "one", "other"] [] := T.F_Problem_are_adjacent.bindsN fun _ _ _ _ _ _ us hl => match us, hl with | [_, _, _], _ => rfl
theorem b_Problem_neighbors {P : Program} {K : PySem.W.Frag} {mg : Str → Option Value} (T : Txt P K mg) : Binds K T.fd_Problem_neighbors ["self", "event"] [] := T.F_Problem_neighbors.bindsN fun _ _ _ _ _ _ us hl => match us, hl with | [_, _], _ => rfl
theorem b_Problem_is_event {P : Program} {K : PySem.W.Frag} {mg : Str → Option Value} (T : Txt P K mg) : Binds K T.fd_Problem_is_event ["self", "value"] [] := T.F_Problem_is_event.bindsN fun _ _ _ _ _ _ us hl => match us, hl with | [_, _], _ => rfl
theorem b_Problem_is_piece {P : Program} {K : PySem.W.Frag} {mg : Str → Option Value} (T : Txt P K mg) : Binds K T.fd_Problem_is_piece ["self", "value"] [] := T.F_Problem_is_piece.bindsN fun _ _ _ _ _ _ us hl => match us, hl with | [_, _], _ => rfl
theorem b_Problem_check_event {P : Program} {K : PySem.W.Frag} {mg : Str → Option Value} (T : Txt P K mg) : Binds K T.fd_Problem_check_event ["self", "value"] [] := T.F_Problem_check_event.bindsN fun _ _ _ _ _ _ us hl => match us, hl with | [_, _], _ => rfl
theorem b_Problem_scope_sizes {P : Program} {K : PySem.W.Frag} {mg : Str → Option Value} (T : Txt P K mg) : Binds K T.fd_Problem_scope_sizes ["self", "event"] [] := T.F_Problem_scope_sizes.bindsN fun _ _ _ _ _ _ us hl => match us, hl with | [_, _], _ => rfl
theorem b_check_problem {P : Program} {K : PySem.W.Frag} {mg : Str → Option Value} (T : Txt P K mg) : Binds K T.fd_check_problem ["value"] [] := T.F_check_problem.bindsN fun _ _ _ _ _ _ us hl => match us, hl with | [_], _ => rfl
theorem b__neighbors_of {P : Program} {K : PySem.W.Frag} {mg : Str → Option Value} (T : Txt P K mg) : Binds K T.fd__neighbors_of ["event", "scopes"] [] := T.F__neighbors_of.bindsN fun _ _ _ _ _ _ us hl => match us, hl with | [_, _], _ => rfl
theorem b__are_values {P : Program} {K : PySem.W.Frag} {mg : Str → Option Value} (T : Txt P K mg) : Binds K T.fd__are_values ["value", "sizes"] [] := T.F__are_values.bindsN fun _ _ _ _ _ _ us hl => match us, hl with | [_, _], _ => rfl
theorem b__check_variables {P : Program} {K : PySem.W.Frag} {mg : Str → Option Value} (T : Txt P K mg) : Binds K T.fd__check_variables ["variables"] [] := T.F__check_variables.bindsN fun _ _ _ _ _ _ us hl => match us, hl with | [_], _ => rfl
theorem b__is_variable_row {P : Program} {K : PySem.W.Frag} {mg : Str → Option Value} (T : Txt P K mg) : Binds K T.fd__is_variable_row ["row"] [] := T.F__is_variable_row.bindsN fun _ _ _ _ _ _ us hl => match us, hl with | [_], _ => rfl
theorem b__check_events {P : Program} {K : PySem.W.Frag} {mg : Str → Option Value} (T : Txt P K mg) : Binds K T.fd__check_events ["events", "sizes"] [] := T.F__check_events.bindsN fun _ _ _ _ _ _ us hl => match us, hl with | [_, _], _ => rfl
theorem b__is_event_row {P : Program} {K : PySem.W.Frag} {mg : Str → Option Value} (T : Txt P K mg) : Binds K T.fd__is_event_row ["row"] [] := T.F__is_event_row.bindsN fun _ _ _ _ _ _ us hl => match us, hl with | [_], _ => rfl
theorem b__check_scope {P : Program} {K : PySem.W.Frag} {mg : Str → Option Value} (T : Txt P K mg) : Binds K T.fd__check_scope ["scope", "sizes"] [] := T.F__check_scope.bindsN fun _ _ _ _ _ _ us hl => match us, hl with | [_, _], _ => rfl
theorem b__check_variable {P : Program} {K : PySem.W.Frag} {mg : Str → Option Value} (T : Txt P K mg) : Binds K T.fd__check_variable ["value", "sizes"] [] := T.F__check_variable.bindsN fun _ _ _ _ _ _ us hl => match us, hl with | [_, _], _ => rfl
theorem b__are_bad_tuples {P : Program} {K : PySem.W.Frag} {mg : Str → Option Value} (T : Txt P K mg) : Binds K T.fd__are_bad_tuples ["bad_tuples", "sizes"] [] := T.F__are_bad_tuples.bindsN fun _ _ _ _ _ _ us hl => match us, hl with | [_, _], _ => rfl
theorem b_check_history {P : Program} {K : PySem.W.Frag} {mg : Str → Option Value} (T : Txt P K mg) : Binds K T.fd_check_history ["problem", "history"] [] := T.F_check_history.bindsN fun _ _ _ _ _ _ us hl => match us, hl with | [_, _], _ => rfl
theorem b_witness_tree {P : Program} {K : PySem.W.Frag} {mg : Str → Option Value} (T : Txt P K mg) : Binds K T.fd_witness_tree ["problem", "history", "step"] [] := T.F_witness_tree.bindsN fun _ _ _ _ _ _ us hl => match us, hl with | [_, _, _], _ => rfl
theorem b_witness_trees {P : Program} {K : PySem.W.Frag} {mg : Str → Option Value} (T : Txt P K mg) : Binds K T.fd_witness_trees ["problem", "history"] [] := T.F_witness_trees.bindsN fun _ _ _ _ _ _ us hl => match us, hl with | [_, _], _ => rfl
theorem b_check_tree {P : Program} {K : PySem.W.Frag} {mg : Str → Option Value} (T : Txt P K mg) : Binds K T.fd_check_tree ["problem", "history", "step", "value"] [] := T.F_check_tree.bindsN fun _ _ _ _ _ _ us hl => match us, hl with | [_, _, _, _], _ => rfl
theorem b__tree_of {P : Program} {K : PySem.W.Frag} {mg : Str → Option Value} (T : Txt P K mg) : Binds K T.fd__tree_of ["problem", "history", "step"] [] := T.F__tree_of.bindsN fun _ _ _ _ _ _ us hl => match us, hl with | [_, _, _], _ => rfl
theorem b__are_rows {P : Program} {K : PySem.W.Frag} {mg : Str → Option Value} (T : Txt P K mg) : Binds K T.fd__are_rows ["problem", "value"] [] := T.F__are_rows.bindsN fun _ _ _ _ _ _ us hl => match us, hl with | [_, _], _ => rfl
theorem b__is_row {P : Program} {K : PySem.W.Frag} {mg : Str → Option Value} (T : Txt P K mg) : Binds K T.fd__is_row ["problem", "value"] [] := T.F__is_row.bindsN fun _ _ _ _ _ _ us hl => match us, hl with | [_, _], _ => rfl
theorem b_l_cell {P : Program} {K : PySem.W.Frag} {mg : Str → Option Value} (T : Txt P K mg) : Binds K T.fd_l_cell ["_law_script", "_law_k"] [] := T.F_l_cell.bindsN fun _ _ _ _ _ _ us hl => match us, hl with | [_, _], _ => rfl
theorem b_l_box {P : Program} {K : PySem.W.Frag} {mg : Str → Option Value} (T : Txt P K mg) : Binds K T.fd_l_box ["_law_cell_here"] [] := T.F_l_box.bindsN fun _ _ _ _ _ _ us hl => match us, hl with | [_], _ => rfl
theorem b_l_take {P : Program} {K : PySem.W.Frag} {mg : Str → Option Value} (T : Txt P K mg) : Binds K T.fd_l_take ["_law_box_here", "_law_many"] [] := T.F_l_take.bindsN fun _ _ _ _ _ _ us hl => match us, hl with | [_, _], _ => rfl
theorem b_l_mixed {P : Program} {K : PySem.W.Frag} {mg : Str → Option Value} (T : Txt P K mg) : Binds K T.fd_l_mixed ["_law_box_here", "_law_some"] [] := T.F_l_mixed.bindsN fun _ _ _ _ _ _ us hl => match us, hl with | [_, _], _ => rfl
theorem b_l_names {P : Program} {K : PySem.W.Frag} {mg : Str → Option Value} (T : Txt P K mg) : Binds K T.fd_l_names ["_law_box_here", "_law_many"] [] := T.F_l_names.bindsN fun _ _ _ _ _ _ us hl => match us, hl with | [_, _], _ => rfl
theorem b_l_agree {P : Program} {K : PySem.W.Frag} {mg : Str → Option Value} (T : Txt P K mg) : Binds K T.fd_l_agree ["_law_scope", "_law_bad", "_law_other"] [] := T.F_l_agree.bindsN fun _ _ _ _ _ _ us hl => match us, hl with | [_, _, _], _ => rfl
theorem b_l_bads {P : Program} {K : PySem.W.Frag} {mg : Str → Option Value} (T : Txt P K mg) : Binds K T.fd_l_bads ["_law_box_here", "_law_sizes", "_law_scope", "_law_rest"] [] := T.F_l_bads.bindsN fun _ _ _ _ _ _ us hl => match us, hl with | [_, _, _, _], _ => rfl
theorem b_l_problem {P : Program} {K : PySem.W.Frag} {mg : Str → Option Value} (T : Txt P K mg) : Binds K T.fd_l_problem ["_law_box_here", "_law_exclusive"] [] := T.F_l_problem.bindsN fun _ _ _ _ _ _ us hl => match us, hl with | [_, _], _ => rfl
theorem b_l_pieces {P : Program} {K : PySem.W.Frag} {mg : Str → Option Value} (T : Txt P K mg) : Binds K T.fd_l_pieces ["_law_box_here", "_law_events", "_law_upto"] [] := T.F_l_pieces.bindsN fun _ _ _ _ _ _ us hl => match us, hl with | [_, _, _], _ => rfl
theorem b_l_one_right {P : Program} {K : PySem.W.Frag} {mg : Str → Option Value} (T : Txt P K mg) : Binds K T.fd_l_one_right ["_law_problem_here", "_law_rows", "_law_piece"] [] := T.F_l_one_right.bindsN fun _ _ _ _ _ _ us hl => match us, hl with | [_, _, _], _ => rfl
theorem b_law {P : Program} {K : PySem.W.Frag} {mg : Str → Option Value} (T : Txt P K mg) : Binds K T.fd_law ["_law_script"] [] := T.F_law.bindsN fun _ _ _ _ _ _ us hl => match us, hl with | [_], _ => rfl

end K62
namespace K62
open PySem PySem.Spec PyProof.Rows L2 TL
def d_is_list : He.DefD := ⟨("is_list", none), "is_list", "is_list", defArgs s_is_list, defBody s_is_list, defScope s_is_list, [], []⟩
def d_check_distinct : He.DefD := ⟨("check_distinct", none), "check_distinct", "check_distinct", defArgs s_check_distinct, defBody s_check_distinct, defScope s_check_distinct, [], []⟩
def d_is_name : He.DefD := ⟨("is_name", none), "is_name", "is_name", defArgs s_is_name, defBody s_is_name, defScope s_is_name, [], []⟩
def d_is_any_integer : He.DefD := ⟨("is_any_integer", none), "is_any_integer", "is_any_integer", defArgs s_is_any_integer, defBody s_is_any_integer, defScope s_is_any_integer, [], []⟩
def d_is_integer : He.DefD := ⟨("is_integer", none), "is_integer", "is_integer", defArgs s_is_integer, defBody s_is_integer, defScope s_is_integer, [], []⟩
def d_Problem_init : He.DefD := ⟨("Problem", some "__init__"), "__init__", "Problem.__init__", defArgs s_Problem_init, defBody s_Problem_init, defScope s_Problem_init, [.adr (He.dflAt ("Problem", some "__init__") 0)], []⟩
def d_Problem_eq : He.DefD := ⟨("Problem", some "__eq__"), "__eq__", "Problem.__eq__", defArgs s_Problem_eq, defBody s_Problem_eq, defScope s_Problem_eq, [], []⟩
def d_Problem_events : He.DefD := ⟨("Problem", some "events"), "events", "Problem.events", defArgs s_Problem_events, defBody s_Problem_events, defScope s_Problem_events, [], []⟩
def d_Problem_are_adjacent : He.DefD := ⟨("Problem", some "are_adjacent"), "are_adjacent", "Problem.are_adjacent", defArgs s_Problem_are_adjacent, defBody s_Problem_are_adjacent, defScope s_Problem_are_adjacent, [], []⟩
def d_Problem_neighbors : He.DefD := ⟨("Problem", some "neighbors"), "neighbors", "Problem.neighbors", defArgs s_Problem_neighbors, defBody s_Problem_neighbors, defScope s_Problem_neighbors, [], []⟩
def d_Problem_is_event : He.DefD := ⟨("Problem", some "is_event"), "is_event", "Problem.is_event", defArgs s_Problem_is_event, defBody s_Problem_is_event, defScope s_Problem_is_event, [], []⟩
def d_Problem_is_piece : He.DefD := ⟨("Problem", some "is_piece"), "is_piece", "Problem.is_piece", defArgs s_Problem_is_piece, defBody s_Problem_is_piece, defScope s_Problem_is_piece, [], []⟩
def d_Problem_check_event : He.DefD := ⟨("Problem", some "check_event"), "check_event", "Problem.check_event", defArgs s_Problem_check_event, defBody s_Problem_check_event, defScope s_Problem_check_event, [], []⟩
def d_Problem_scope_sizes : He.DefD := ⟨("Problem", some "_scope_sizes"), "_scope_sizes", "Problem._scope_sizes", defArgs s_Problem_scope_sizes, defBody s_Problem_scope_sizes, defScope s_Problem_scope_sizes, [], []⟩
def d_check_problem : He.DefD := ⟨("check_problem", none), "check_problem", "check_problem", defArgs s_check_problem, defBody s_check_problem, defScope s_check_problem, [], []⟩
def d__neighbors_of : He.DefD := ⟨("_neighbors_of", none), "_neighbors_of", "_neighbors_of", defArgs s__neighbors_of, defBody s__neighbors_of, defScope s__neighbors_of, [], []⟩
def d__are_values : He.DefD := ⟨("_are_values", none), "_are_values", "_are_values", defArgs s__are_values, defBody s__are_values, defScope s__are_values, [], []⟩
def d__check_variables : He.DefD := ⟨("_check_variables", none), "_check_variables", "_check_variables", defArgs s__check_variables, defBody s__check_variables, defScope s__check_variables, [], []⟩
def d__is_variable_row : He.DefD := ⟨("_is_variable_row", none), "_is_variable_row", "_is_variable_row", defArgs s__is_variable_row, defBody s__is_variable_row, defScope s__is_variable_row, [], []⟩
def d__check_events : He.DefD := ⟨("_check_events", none), "_check_events", "_check_events", defArgs s__check_events, defBody s__check_events, defScope s__check_events, [], []⟩
def d__is_event_row : He.DefD := ⟨("_is_event_row", none), "_is_event_row", "_is_event_row", defArgs s__is_event_row, defBody s__is_event_row, defScope s__is_event_row, [], []⟩
def d__check_scope : He.DefD := ⟨("_check_scope", none), "_check_scope", "_check_scope", defArgs s__check_scope, defBody s__check_scope, defScope s__check_scope, [], []⟩
def d__check_variable : He.DefD := ⟨("_check_variable", none), "_check_variable", "_check_variable", defArgs s__check_variable, defBody s__check_variable, defScope s__check_variable, [], []⟩
def d__are_bad_tuples : He.DefD := ⟨("_are_bad_tuples", none), "_are_bad_tuples", "_are_bad_tuples", defArgs s__are_bad_tuples, defBody s__are_bad_tuples, defScope s__are_bad_tuples, [], []⟩
def d_check_history : He.DefD := ⟨("check_history", none), "check_history", "check_history", defArgs s_check_history, defBody s_check_history, defScope s_check_history, [], []⟩
def d_witness_tree : He.DefD := ⟨("witness_tree", none), "witness_tree", "witness_tree", defArgs s_witness_tree, defBody s_witness_tree, defScope s_witness_tree, [], []⟩
def d_witness_trees : He.DefD := ⟨("witness_trees", none), "witness_trees", "witness_trees", defArgs s_witness_trees, defBody s_witness_trees, defScope s_witness_trees, [], []⟩
def d_check_tree : He.DefD := ⟨("check_tree", none), "check_tree", "check_tree", defArgs s_check_tree, defBody s_check_tree, defScope s_check_tree, [], []⟩
def d__tree_of : He.DefD := ⟨("_tree_of", none), "_tree_of", "_tree_of", defArgs s__tree_of, defBody s__tree_of, defScope s__tree_of, [], []⟩
def d__are_rows : He.DefD := ⟨("_are_rows", none), "_are_rows", "_are_rows", defArgs s__are_rows, defBody s__are_rows, defScope s__are_rows, [], []⟩
def d__is_row : He.DefD := ⟨("_is_row", none), "_is_row", "_is_row", defArgs s__is_row, defBody s__is_row, defScope s__is_row, [], []⟩
def d_l_cell : He.DefD := ⟨("_law_cell", none), "_law_cell", "_law_cell", defArgs s_l_cell, defBody s_l_cell, defScope s_l_cell, [], []⟩
def d_l_box : He.DefD := ⟨("_law_box", none), "_law_box", "_law_box", defArgs s_l_box, defBody s_l_box, defScope s_l_box, [], []⟩
def d_l_take : He.DefD := ⟨("_law_take", none), "_law_take", "_law_take", defArgs s_l_take, defBody s_l_take, defScope s_l_take, [], []⟩
def d_l_mixed : He.DefD := ⟨("_law_mixed", none), "_law_mixed", "_law_mixed", defArgs s_l_mixed, defBody s_l_mixed, defScope s_l_mixed, [], []⟩
def d_l_names : He.DefD := ⟨("_law_names", none), "_law_names", "_law_names", defArgs s_l_names, defBody s_l_names, defScope s_l_names, [], []⟩
def d_l_agree : He.DefD := ⟨("_law_agree", none), "_law_agree", "_law_agree", defArgs s_l_agree, defBody s_l_agree, defScope s_l_agree, [], []⟩
def d_l_bads : He.DefD := ⟨("_law_bads", none), "_law_bads", "_law_bads", defArgs s_l_bads, defBody s_l_bads, defScope s_l_bads, [], []⟩
def d_l_problem : He.DefD := ⟨("_law_problem", none), "_law_problem", "_law_problem", defArgs s_l_problem, defBody s_l_problem, defScope s_l_problem, [], []⟩
def d_l_pieces : He.DefD := ⟨("_law_pieces", none), "_law_pieces", "_law_pieces", defArgs s_l_pieces, defBody s_l_pieces, defScope s_l_pieces, [], []⟩
def d_l_one_right : He.DefD := ⟨("_law_one_right", none), "_law_one_right", "_law_one_right", defArgs s_l_one_right, defBody s_l_one_right, defScope s_l_one_right, [], []⟩
def d_law : He.DefD := ⟨("law", none), "law", "law", defArgs s_law, defBody s_law, defScope s_law, [], []⟩
def fn : List He.DefD := [d_is_list, d_check_distinct, d_is_name, d_is_any_integer, d_is_integer, d_Problem_init, d_Problem_eq, d_Problem_events, d_Problem_are_adjacent, d_Problem_neighbors, d_Problem_is_event, d_Problem_is_piece, d_Problem_check_event, d_Problem_scope_sizes, d_check_problem, d__neighbors_of, d__are_values, d__check_variables, d__is_variable_row, d__check_events, d__is_event_row, d__check_scope, d__check_variable, d__are_bad_tuples, d_check_history, d_witness_tree, d_witness_trees, d_check_tree, d__tree_of, d__are_rows, d__is_row, d_l_cell, d_l_box, d_l_take, d_l_mixed, d_l_names, d_l_agree, d_l_bads, d_l_problem, d_l_pieces, d_l_one_right, d_law]
def fa : List He.Fa := [.glo "is_list", .glo "check_distinct", .glo "is_name", .glo "is_any_integer", .glo "is_integer", .glo "check_problem", .glo "_neighbors_of", .glo "_are_values", .glo "_check_variables", .glo "_is_variable_row", .glo "_check_events", .glo "_is_event_row", .glo "_check_scope", .glo "_check_variable", .glo "_are_bad_tuples", .glo "check_history", .glo "witness_tree", .glo "witness_trees", .glo "check_tree", .glo "_tree_of", .glo "_are_rows", .glo "_is_row", .glo "_law_cell", .glo "_law_box", .glo "_law_take", .glo "_law_mixed", .glo "_law_names", .glo "_law_agree", .glo "_law_bads", .glo "_law_problem", .glo "_law_pieces", .glo "_law_one_right", .glo "law", .glo "Problem", .meth "Problem" "__eq__", .meth "Problem" "events", .meth "Problem" "are_adjacent", .meth "Problem" "neighbors", .meth "Problem" "is_event", .meth "Problem" "is_piece", .meth "Problem" "check_event", .meth "Problem" "_scope_sizes", .free "all", .free "any", .free "bool", .free "dict", .free "enumerate", .free "int", .free "isinstance", .free "len", .free "list", .free "max", .free "min", .free "range", .free "repr", .free "reversed", .free "sorted", .free "str", .free "tuple", .free "zip", .cls "Problem", .mkr "Problem", .noat "Problem" "_variables", .noat "Problem" "_sizes", .noat "Problem" "_places", .noat "Problem" "_events", .noat "Problem" "_scopes", .noat "Problem" "_bad_tuples", .noat "Problem" "_neighbors"]
abbrev R : PySem.W.OpenRow := PySem.W.OpenLaw.row PySem.Challenge.rw_resampler_k62_whole_trees_of_a_history_d
def exs : List PySem.EXV.ExD := []
def tests : List (PySem.W.Frag → Bool) := [(fun K => ownB K "Problem"), PySem.EXV.smB, (PySem.EXV.conB "MOST_VARIABLES" 8), (PySem.EXV.conB "MOST_EVENTS" 8), (PySem.EXV.conB "MOST_PIECES" 240), (fun K => PySem.EXV.isEB K (He.dflAt ("Problem", some "__init__") 0 K))]
def file : Str := PySem.Challenge.pw_resampler_k62_whole_trees_of_a_history_d.main.file
def asv : List PySem.Addr := [3, 438, 437, 243, 242, 250, 249, 255, 254, 262, 261, 269, 268, 283, 282, 278, 290, 289, 318, 317, 346, 345, 353, 352, 395, 394, 402, 401, 416, 415, 435, 434, 449, 448, 454, 453, 459, 458, 464, 463, 471, 470, 476, 475, 483, 482, 490, 489, 497, 496, 504, 503, 511, 510, 518, 517, 523, 522, 530, 529, 535, 534, 540, 539, 547, 546, 554, 553, 561, 560, 568, 567, 573, 572, 578, 577, 583, 582, 588, 587, 593, 592, 598, 597, 603, 602, 608, 607, 277, 1, 2]
abbrev hk : PySem.W.Hook := PySem.EXV.hookY asv file tests fa fn exs
def ob (s : PySem.W.SharedT) : PySem.EXV.AlX := PySem.EXV.obsYG asv file tests fa fn exs (HandSHeadRun.getT s)
theorem ob_eq (s : PySem.W.SharedT) : ob s = hk.obs s.abs := PySem.EXV.obsYG_eq (HandSHeadRun.getT_eq s)
def loose : List Str := [("_wall" : Str), ("ResampleError" : Str), ("MissingError" : Str), ("InvalidInteger" : Str), ("InvalidVariables" : Str), ("InvalidEvents" : Str), ("InvalidProblem" : Str), ("InvalidPieces" : Str), ("InvalidHistory" : Str), ("DuplicateName" : Str), ("UnknownVariable" : Str), ("UnknownEvent" : Str), ("is_list" : Str), ("check_distinct" : Str), ("is_name" : Str), ("is_any_integer" : Str), ("is_integer" : Str), ("Problem" : Str), ("check_problem" : Str), ("_neighbors_of" : Str), ("_are_values" : Str), ("_check_variables" : Str), ("_is_variable_row" : Str), ("_check_events" : Str), ("_is_event_row" : Str), ("_check_scope" : Str), ("_check_variable" : Str), ("_are_bad_tuples" : Str), ("check_history" : Str), ("witness_tree" : Str), ("witness_trees" : Str), ("check_tree" : Str), ("_tree_of" : Str), ("_are_rows" : Str), ("_is_row" : Str), ("_law_cell" : Str), ("_law_box" : Str), ("_law_take" : Str), ("_law_mixed" : Str), ("_law_names" : Str), ("_law_agree" : Str), ("_law_bads" : Str), ("_law_problem" : Str), ("_law_pieces" : Str), ("_law_one_right" : Str), ("MOST_VARIABLES" : Str), ("MOST_EVENTS" : Str), ("MOST_PIECES" : Str)]
theorem run (w : World) : HandSHeadRun.RunEq R (PySem.W.view R.prog [55]) hk ob 8000 loose w := by
  intro os
  kernel_rfl


end K62
namespace L2
open PySem PySem.Spec PyProof.Rows
/-! ### data whose repr fits -/
def CpOk (x : Str) : Prop := ∀ c ∈ x.cps.toList, c < 16 ^ 8
theorem cpOk_of (s : String) : CpOk (Str.ofString s) := by
  intro c hc
  rw [Str.ofString_eq_toList] at hc
  obtain ⟨ch, _, rfl⟩ := List.mem_map.mp (show c ∈ s.toList.map Char.toNat by simpa using hc)
  have h : ch.toNat < 4294967296 := ch.val.toNat_lt
  exact h
theorem cpOk_app {x y : Str} (hx : CpOk x) (hy : CpOk y) : CpOk (x ++ y) := by
  intro c hc
  have e : (x ++ y).cps.toList = x.cps.toList ++ y.cps.toList := by show (x.cps ++ y.cps).toList = _; simp
  rw [e] at hc
  exact (List.mem_append.mp hc).elim (hx c) (hy c)
theorem cpOk_empty : CpOk Str.empty := fun c hc => by cases hc
/-- repr fits in B signs, nested at most k deep -/
structure OkD (B k : Nat) (d : PyData) : Prop where
  sh : d.showable = true
  dp : d.depth ≤ k
  ln : d.shown.length ≤ B
theorem OkD.mono {B B' k k' : Nat} {d : PyData} (h : OkD B k d) (hB : B ≤ B') (hk : k ≤ k') : OkD B' k' d := ⟨h.sh, Nat.le_trans h.dp hk, Nat.le_trans h.ln hB⟩
theorem OkD.fine {B k : Nat} {d : PyData} (h : OkD B k d) (hB : B ≤ 16777216) (hk : k ≤ 60) : Fine d := ⟨h.sh, Nat.le_trans h.dp hk, by rw [sizeLine_eq]; exact Nat.le_trans h.ln hB⟩
theorem okd_none : OkD 4 0 .none := ⟨rfl, Nat.le_refl _, Nat.le_refl _⟩
theorem okd_bool (b : Bool) : OkD 5 0 (.bool b) := ⟨rfl, Nat.le_refl _, by cases b <;> decide⟩
theorem okd_int {i : Int} (h : i.natAbs < 10 ^ 500) : OkD 501 0 (.int i) := by
  refine ⟨?_, Nat.le_refl _, ?_⟩
  · have e : i.natAbs.log2 < 1900 := PySem.Flt.log2_lt_of (k := 1900) (by decide) (Nat.lt_of_lt_of_le h (by decide +kernel))
    simp only [PyData.showable, decide_eq_true_eq]
    omega
  · show (Str.ofString (toString i)).length ≤ 501
    rw [PySem.ofString_length]
    exact int_text_length_le10 (k := 500) (by decide) h
theorem okd_str {x : Str} {n : Nat} (h : CpOk x) (l : x.length ≤ n) : OkD (10 * n + 2) 0 (.str x) := by
  refine ⟨rfl, Nat.le_refl _, ?_⟩
  have := StrLaws.reprText_len x h
  simp only [PyData.shown]
  omega
theorem showableAll_of : ∀ {ds : List PyData}, (∀ d ∈ ds, d.showable = true) → PyData.showableAll ds = true
  | [], _ => rfl
  | d :: ds, h => by
    simp only [PyData.showableAll, Bool.and_eq_true]
    exact ⟨h d List.mem_cons_self, showableAll_of fun x hx => h x (List.mem_cons_of_mem _ hx)⟩
theorem depthAll_of {k : Nat} : ∀ {ds : List PyData}, (∀ d ∈ ds, d.depth ≤ k) → PyData.depthAll ds ≤ k
  | [], _ => Nat.zero_le _
  | d :: ds, h => by
    simp only [PyData.depthAll]
    exact Nat.max_le.mpr ⟨h d List.mem_cons_self, depthAll_of fun x hx => h x (List.mem_cons_of_mem _ hx)⟩
theorem shownAll_sum {B : Nat} : ∀ {ds : List PyData}, (∀ d ∈ ds, d.shown.length ≤ B) → ((PyData.shownAll ds).map (·.length)).sum ≤ ds.length * B
  | [], _ => Nat.zero_le _
  | d :: ds, h => by
    have h1 := h d List.mem_cons_self
    have h2 := shownAll_sum (ds := ds) fun x hx => h x (List.mem_cons_of_mem _ hx)
    simp only [PyData.shownAll, List.map_cons, List.sum_cons, List.length_cons, Nat.add_mul, Nat.one_mul]
    omega
theorem okd_list {B k m : Nat} {ds : List PyData} (h : ∀ d ∈ ds, OkD B k d) (hm : ds.length ≤ m) : OkD (m * (B + 2) + 3) (k + 1) (.list ds) := by
  refine ⟨?_, ?_, ?_⟩
  · simp only [PyData.showable]; exact showableAll_of fun d hd => (h d hd).sh
  · simp only [PyData.depth]; exact Nat.succ_le_succ (depthAll_of fun d hd => (h d hd).dp)
  · have h1 := shownAll_sum fun d hd => (h d hd).ln
    have h2 := listText_len_le (PyData.shownAll ds)
    have h3 := PyData.shownAll_length ds
    have h4 : ds.length * (B + 2) ≤ m * (B + 2) := Nat.mul_le_mul_right _ hm
    rw [Nat.mul_add] at h4
    simp only [PyData.shown]
    omega
theorem okd_tuple {B k m : Nat} {ds : List PyData} (h : ∀ d ∈ ds, OkD B k d) (hm : ds.length ≤ m) : OkD (m * (B + 2) + 3) (k + 1) (.tuple ds) := by
  refine ⟨?_, ?_, ?_⟩
  · simp only [PyData.showable]; exact showableAll_of fun d hd => (h d hd).sh
  · simp only [PyData.depth]; exact Nat.succ_le_succ (depthAll_of fun d hd => (h d hd).dp)
  · have h1 := shownAll_sum fun d hd => (h d hd).ln
    have h2 := tupleText_len_le (PyData.shownAll ds)
    have h3 := PyData.shownAll_length ds
    have h4 : ds.length * (B + 2) ≤ m * (B + 2) := Nat.mul_le_mul_right _ hm
    rw [Nat.mul_add] at h4
    simp only [PyData.shown]
    omega
theorem all1 {P : PyData → Prop} {a : PyData} (ha : P a) : ∀ d ∈ [a], P d := fun d hd => by
  rw [List.mem_singleton.mp hd]; exact ha
theorem allC {P : PyData → Prop} {a : PyData} {l : List PyData} (ha : P a) (hl : ∀ d ∈ l, P d) : ∀ d ∈ a :: l, P d := fun d hd => (List.mem_cons.mp hd).elim (fun e => e ▸ ha) (hl d)
theorem all0 {P : PyData → Prop} : ∀ d ∈ ([] : List PyData), P d := fun d hd => by cases hd
/-! ### data that stays -/
mutual
theorem Dx.same {K : PySem.W.Frag} {H H' : Hp} (s : ∀ a o, H a = some o → H' a = some o) : ∀ {d : PyData} {v : V}, Dx K H v d → Dx K H' v d
  | .none, _, h => by cases h; exact .non
  | .bool b, _, h => by cases h; exact .bl b
  | .int i, _, h => by cases h; exact .int i
  | .str x, _, h => by cases h; exact .str x
  | .list ds, _, h => by
    cases h with
    | lst hs ha => exact .lst (hs.ext s) (DxAll.same s ha)
  | .tuple ds, _, h => by
    cases h with
    | tup hs ha => exact .tup (hs.ext s) (DxAll.same s ha)
  | .dict kvs, _, h => by
    cases h with
    | dic hs hk ha => exact .dic (hs.elim (fun h => .inl (s _ _ h)) fun ⟨o, h⟩ => .inr ⟨o, s _ _ h⟩) hk (DxKv.same s ha)
theorem DxAll.same {K : PySem.W.Frag} {H H' : Hp} (s : ∀ a o, H a = some o → H' a = some o) : ∀ {ds : List PyData} {vs : List V}, DxAll K H vs ds → DxAll K H' vs ds
  | [], _, h => by cases h; exact .nil
  | d :: ds, _, h => by
    cases h with
    | cons h1 h2 => exact .cons (Dx.same s h1) (DxAll.same s h2)
theorem DxKv.same {K : PySem.W.Frag} {H H' : Hp} (s : ∀ a o, H a = some o → H' a = some o) : ∀ {kvs : List (PyData × PyData)} {vs : List V}, DxAll K H vs (kvs.map (·.2)) → DxAll K H' vs (kvs.map (·.2))
  | [], _, h => by cases h; exact .nil
  | (k, d) :: ds, _, h => by
    rw [List.map_cons] at h ⊢
    cases h with
    | cons h1 h2 => exact .cons (Dx.same s h1) (DxKv.same s h2)
end
end L2

/-! enumerate(a dict): its keys by turns. -/
namespace PySem
open Sem (wp)
section
variable {prog : Program} {w : World} {A : Around} {E : Value → Shared → Prop} {st : Shared}
theorem ekey_item {jt dd : Addr} {j n ep : Nat} {ob : Obj} {es : Array DictEntry} {en : DictEntry} {P : Value → Shared → Prop} (g : st.heap.IsKeyIter jt dd j n ep) (gd : st.heap.get? dd = some ob) (cd : ob.data = .dict es ep)
    (zs : es.size = n) (hx : es[j]? = some en) (hQ : ∀ h', h'.IsKeyIter jt dd (j + 1) n ep → Heap.SameBut jt st.heap h' → P en.key { st with heap := h' }) :
    wpAny (model prog w) A (Builtin.SmallTypes.nextOf (.ref jt)) P E st := by
  obtain ⟨oi, gi, ci, di⟩ := id g
  unfold Builtin.SmallTypes.nextOf
  refine wpAny_bind (wpAny_callSpecial?_slot (name := Str.ofString "__next__") g.typeIs F.slot_dict_keyiterator_next (wpAny_call_entry F.slot_dict_keyiterator_next g.typeIs F.entry_dict_keyiterator_next ?_ (F.args_dict_keyiterator_next_1 _)))
  refine wpAny_bind <| wpAny_pure ?_
  refine wpAny_bind (wpAny_bind ?_)
  first | refine wpAny_bind (wpAny_typeNameOfWhole_keyiter g.typeIs (wpAny_pure ?_)) | refine wpAny_bind (wpAny_typeNameOf_keyiter g.typeIs (wpAny_pure ?_))
  refine wpAny_bind (wpAny_fieldsOf gi di ?_)
  have ow : Builtin.Dict_items.ownsTuple "dict_keyiterator" = false := by decide
  simp only [ow, Bool.false_eq_true, if_false]
  show wpAny _ _ (if (Value.ref dd == Value.none) = true then _ else _) _ _ st
  rw [if_neg (show ¬ ((Value.ref dd == Value.none) = true) from Bool.false_ne_true)]
  refine wpAny_bind (wpAny_pure (wpAny_bind (wpAny_dictEntries gd cd ?_)))
  rw [if_neg (by rw [zs]; simp)]
  refine wpAny_bind (wpAny_pure (wpAny_bind (wpAny_dictEpoch gd cd ?_)))
  rw [if_neg (by simp)]
  refine wpAny_pure ?_
  obtain ⟨lt, hen⟩ := Array.getElem?_eq_some_iff.mp hx
  simp only [show ¬ ((j : Int) < 0) from by omega, if_false, Int.toNat_natCast, Array.getElem?_eq_getElem lt]
  refine wpAny_bind ?_
  first | refine wpAny_bind (wpAny_typeNameOfWhole_keyiter g.typeIs (wpAny_pure ?_)) | refine wpAny_bind (wpAny_typeNameOf_keyiter g.typeIs (wpAny_pure ?_))
  refine wpAny_bind (wpAny_isOneOf_keyiter g.typeIs ?_)
  show wpAny _ _ (setField (.ref jt) 1 (rawInt ((j : Int) + 1)) >>= _) _ _ st
  refine wpAny_bind (wpAny_setField gi di (by simp) ?_)
  have g' : (st.heap.update jt (Obj.mapFields (·.setIfInBounds 1 (rawInt ((j : Int) + 1))))).IsKeyIter jt dd (j + 1) n ep :=
    ⟨_, Heap.get?_update_self _ gi (Obj.isFreed_of_fields (Obj.data_mapFields di _)), (Obj.cls_mapFields ..).trans ci, by rw [Obj.data_mapFields di]; simp [rawInt]⟩
  refine wpAny_bind (wpAny_holding (wpAny_bind (wpAny_isOneOf_keyiter (s := { st with heap := st.heap.update jt (Obj.mapFields (·.setIfInBounds 1 (rawInt ((j : Int) + 1)))) }) g'.typeIs ?_)))
  show wpAny _ _ (pure es[j].key) _ _ _
  rw [hen]
  exact wpAny_pure (wpAny_pure ⟨_, rfl, wpAny_pure (hQ _ g' (Heap.SameBut.update ..))⟩)
theorem ekey_end {jt dd : Addr} {j n ep : Nat} {ob : Obj} {es : Array DictEntry} {P : Value → Shared → Prop} (hh : A.handled = none) (g : st.heap.IsKeyIter jt dd j n ep) (gd : st.heap.get? dd = some ob) (cd : ob.data = .dict es ep)
    (zs : es.size = n) (ge : n ≤ j) (hE : ∀ h' e, Heap.ExtBut jt st.heap h' → (∃ o, h'.get? e = some o ∧ o.cls = .type "StopIteration") → E (.ref e) { st with heap := h' }) :
    wpAny (model prog w) A (Builtin.SmallTypes.nextOf (.ref jt)) P E st := by
  obtain ⟨oi, gi, ci, di⟩ := id g
  unfold Builtin.SmallTypes.nextOf
  refine wpAny_bind (wpAny_callSpecial?_slot (name := Str.ofString "__next__") g.typeIs F.slot_dict_keyiterator_next (wpAny_call_entry F.slot_dict_keyiterator_next g.typeIs F.entry_dict_keyiterator_next ?_ (F.args_dict_keyiterator_next_1 _)))
  refine wpAny_bind <| wpAny_pure ?_
  refine wpAny_bind (wpAny_bind ?_)
  first | refine wpAny_bind (wpAny_typeNameOfWhole_keyiter g.typeIs (wpAny_pure ?_)) | refine wpAny_bind (wpAny_typeNameOf_keyiter g.typeIs (wpAny_pure ?_))
  refine wpAny_bind (wpAny_fieldsOf gi di ?_)
  have ow : Builtin.Dict_items.ownsTuple "dict_keyiterator" = false := by decide
  simp only [ow, Bool.false_eq_true, if_false]
  show wpAny _ _ (if (Value.ref dd == Value.none) = true then _ else _) _ _ st
  rw [if_neg (show ¬ ((Value.ref dd == Value.none) = true) from Bool.false_ne_true)]
  refine wpAny_bind (wpAny_pure (wpAny_bind (wpAny_dictEntries gd cd ?_)))
  rw [if_neg (by rw [zs]; simp)]
  refine wpAny_bind (wpAny_pure (wpAny_bind (wpAny_dictEpoch gd cd ?_)))
  rw [if_neg (by simp)]
  refine wpAny_pure ?_
  have ge' : es.size ≤ j := by rw [zs]; exact ge
  simp only [show ¬ ((j : Int) < 0) from by omega, if_false, Int.toNat_natCast, Array.getElem?_eq_none ge']
  refine wpAny_bind ?_
  first | refine wpAny_bind (wpAny_typeNameOfWhole_keyiter g.typeIs (wpAny_pure ?_)) | refine wpAny_bind (wpAny_typeNameOf_keyiter g.typeIs (wpAny_pure ?_))
  show wpAny _ _ (setField (.ref jt) 0 .none >>= _) _ _ st
  refine wpAny_bind (wpAny_setField gi di (by simp) ?_)
  show wpAny _ _ (newExc (.type "StopIteration") [] >>= fun x => raiseNew x) _ _ _
  refine wpAny_bind (by
    simp only [newExc, newTuple]
    refine wpAny_bind (wpAny_newObj_type ?_ (by size_fits))
    refine wpAny_bind (m := firstArgMember _ _) (wpAny_of_eq (a := Value.none) (by first | rfl | (simp only [firstArgMember]; rfl)) (wpAny_newObj_type ?_ (by size_fits)))
    simp only [raiseNew]
    refine wpAny_bind (wpAny_handled ?_)
    rw [show A.in1.handled = none from hh]
    exact wpAny_bind (wpAny_pure (wpAny_throw (hE _ _ (((Heap.SameBut.update ..).extBut.push _).push _) ⟨_, Heap.get?_push_size _ rfl, rfl⟩))))
/-- the keys' iterator drawn, over a dict that stands -/
theorem ekey_draws (hh : A.handled = none) (jt dd : Addr) (ne : dd ≠ jt) (ob : Obj) (es : Array DictEntry) (ep : Nat) (cd : ob.data = .dict es ep) :
    Draws prog w A jt [jt, dd] es.size (fun j v => ∃ en, es[j]? = some en ∧ v = en.key) (fun j h => h.IsKeyIter jt dd j es.size ep ∧ h.get? dd = some ob) where
  live := fun _ _ s => let ⟨o, ho, _⟩ := s.1; ⟨o, ho⟩
  frame := fun _ _ _ s hk => ⟨s.1.at fun o e => hk jt (by simp) o e, hk dd (by simp) _ s.2⟩
  item := fun j s Q E hj g hQ => ekey_item g.1 g.2 cd rfl (Array.getElem?_eq_getElem hj) fun h' g' sb => hQ _ h' s.toks ⟨_, Array.getElem?_eq_getElem hj, rfl⟩ ⟨g', (sb.2 dd ne).trans g.2⟩ sb
  done := fun s Q E g hE => ekey_end hh g.1 g.2 cd rfl (Nat.le_refl _) hE
end
end PySem
namespace PySem
open Sem (wp)
section
theorem begins_keys {dd : Addr} {ob : Obj} {es : Array DictEntry} {ep : Nat} (sys : (dd == sysModules) = false) (cx : ob.ExactDict) (cd : ob.data = .dict es ep) :
    Begins (.ref dd) { cls := .type "dict_keyiterator", data := .fields #[.ref dd, .int 0 0, .int es.size 0, .int ep 0] } fun h => h.get? dd = some ob where
  iter := fun _ _ _ _ _ _ gd h => L2.iter_keys sys gd cx cd h
  keeps := fun _ _ x hk => hk _ _ x
  free := rfl
theorem meets_enum1 {v : Value} {o : Obj} {H : Heap → Prop} (B : Begins v o H) :
    Meets (Builtin.«enumerate.__new__» ⟨[.type "enumerate", v], []⟩) (fun _ R z => H z.heap ∧
      R (.ok (.ret (.ref (z.heap.push o).objs.size))) { z with heap := (z.heap.push o).push { cls := .type "enumerate", data := .fields #[.none, .bool false, .ref z.heap.objs.size, rawInt 0, .none, .none] } }) :=
  .of_wp fun prog w A R z h => by
    obtain ⟨hp, g, d, tk, os⟩ := z; obtain ⟨h1, h⟩ := h
    have hsub := sub_enumerate
    have q1 : ∀ {A' : Around} {E : Value → Shared → Prop} {Q : Value → Shared → Prop}, Q (.ref hp.objs.size) ⟨hp.push o, g, d, tk, os⟩ → wpAny (model prog w) A' (pyIter v) Q E ⟨hp, g, d, tk, os⟩ := fun q => B.iter prog w _ _ ⟨hp, g, d, tk, os⟩ _ h1 q
    wp_walk using q1
    refine wpAny_stack_any fun ss => wpAny_pure ?_
    split
    · rename_i c _ _ _ _ _
      cases (c == Value.type "enumerate") <;> (wp_walk using q1; exact ⟨_, rfl, h⟩)
    · wp_walk using q1
      exact ⟨_, rfl, h⟩
variable {prog : Program} {w : World} {A : Around} {E : Value → Shared → Prop} {st : Shared}
theorem enum1_begins {v : Value} {o : Obj} {H : Heap → Prop} {Q : Value → Shared → Prop} (B : Begins v o H) (h1 : H st.heap)
    (h : ∀ h', IsEnum h' (st.heap.objs.size + 1) st.heap.objs.size 0 .none → h'.get? st.heap.objs.size = some o → (∀ b o, st.heap.get? b = some o → h'.get? b = some o) → Q (.ref (st.heap.objs.size + 1)) { st with heap := h' }) :
    wpAny (model prog w) A (call (.type "enumerate") [v]) Q E st := by
  refine callType_new F.called_enumerate (by decide) (F.typeCall_enumerate_1 _) (F.newCall_enumerate_1 _) (fun obj => F.args_object_init_2 obj _) F.entry_enumerate_new (meets_enum1 B) ⟨h1, ?_⟩
  have z1 : (st.heap.push o).objs.size = st.heap.objs.size + 1 := Heap.size_push ..
  show _ ∧ _
  rw [z1]
  have g : IsEnum ((st.heap.push o).push { cls := .type "enumerate", data := .fields #[.none, .bool false, .ref st.heap.objs.size, rawInt 0, .none, .none] }) (st.heap.objs.size + 1) st.heap.objs.size 0 .none := by
    have q := Heap.get?_push_size (st.heap.push o) (o := { cls := .type "enumerate", data := .fields #[.none, .bool false, .ref st.heap.objs.size, rawInt 0, .none, .none] }) rfl
    rw [z1] at q; exact q
  exact ⟨⟨_, g, rfl⟩, h _ g (Heap.get?_push_of_some _ (Heap.get?_push_size _ B.free)) fun b o x => Heap.get?_push_of_some _ (Heap.get?_push_of_some _ x)⟩
end
end PySem
namespace L2
open PySem PySem.Spec PyProof.Rows
/-- the keys of a locked dict, numbered, each in a new pair -/
def Ited (d : Addr) (o : Obj) (kvs : List (Key × V)) : It :=
  ⟨fun i H => H d = some (.frz o (.dK kvs)) ∧ i < kvs.length, fun i H x H' => ∃ T k v, kvs[i]? = some (k, v) ∧ x = .ref T ∧ H T = none ∧ H' = upd H T (.tup [.int (i : Nat), kV k]), fun i H => H d = some (.frz o (.dK kvs)) ∧ kvs.length ≤ i⟩
theorem turn_enumD {P : Program} {w : World} {K : PySem.W.Frag} {elts : List Expr} {kk : Nat} {tpos : Pos} {d : Addr} {o : Obj} {es : Array DictEntry} {ep : Nat} {kvs : List (Key × V)} (e it : Addr) (hod : o.data = .dict es ep) :
    Turn P w K (.Tuple elts kk tpos) (Ited d o kvs) [e, it] e (fun i h => (∃ old, IsEnum h e it ((i : Nat) : Int) old) ∧ h.IsKeyIter it d i es.size ep ∧ e ≠ it ∧ i ≤ es.size) where
  mem := by simp
  obj := fun i h sx b hb => by
    obtain ⟨⟨old, he⟩, ⟨o, ho, hc, hd⟩, _⟩ := sx
    rcases (by simpa using hb : b = e ∨ b = it) with z | z
    · rw [z]; exact ⟨_, he, fun v q => nomatch q⟩
    · rw [z]; exact ⟨o, ho, fun v q => by rw [hd] at q; cases q⟩
  keep := fun i h h' sx k => let ⟨⟨old, he⟩, hi, hne⟩ := sx; ⟨⟨old, k e (by simp) _ he⟩, hi.at fun o q => k it (by simp) o q, hne⟩
  item := by
    intro X hP hw hK hc i pins s σ H E I hf sx hg
    subst hP hw hK
    obtain ⟨⟨old, he⟩, hit, hne, hle⟩ := sx
    obtain ⟨hd, hi⟩ := hg
    obtain ⟨hs, hgd, hx, es', ep', vs, hdt, hsz, kv, hm⟩ := I.frzK hd
    obtain ⟨rfl, rfl⟩ := dict_ep hod hdt
    obtain ⟨⟨k, v⟩, hkv⟩ : ∃ p, kvs[i]? = some p := ⟨kvs[i], List.getElem?_eq_getElem hi⟩
    obtain ⟨u, hu, ru⟩ := kv_get kv hkv
    have hel : e < s.heap.objs.size := Heap.lt_size he
    have hil : it < s.heap.objs.size := by obtain ⟨_, q, _⟩ := hit; exact Heap.lt_size q
    have ned : ∀ b ∈ [e, it], b ≠ d := fun b hb z => by have q := (hf b hb).1; rw [z, hd] at q; cases q
    refine wpAny_pyNext_enum_itemD (ekey_draws (A := X.A.in1) (I.ok.hd hc) it d (ned it (by simp)).symm o es' ep' hdt) he ⟨hit, hgd⟩ (by rw [hsz]; exact hi) hne (by simp; exact ⟨hne, ned e (by simp)⟩) fun x h' tk hen ho hit' hT hz hk => ?_
    obtain ⟨en, hen, rfl⟩ := hen
    have hkey : keyIs k en.key = true := by
      obtain ⟨o2, es2, g2, c2, d2, ko, ps, nd⟩ := hm
      rw [hgd] at g2
      cases g2
      obtain ⟨rfl, _⟩ := dict_ep hdt d2
      exact (Pairs.get? ps (by rw [Array.getElem?_toList]; exact hen) hu).1
    refine ⟨_, rfl, wpAny_letOwnedTupleGo_enum (s := { s with heap := h', toks := tk + 1 }) ho fun h'' he' sb => ?_⟩
    have hT2 : h''.get? s.heap.objs.size = some { cls := .type "tuple", data := .seq #[.int i tk, en.key] } := (sb.2 _ (Nat.ne_of_gt hel)).trans hT
    have new : ObjOk X.prog X.w (upd H s.heap.objs.size (.tup [.int (i : Nat), kV k])) h'' s.heap.objs.size (.tup [.int (i : Nat), kV k]) :=
      ⟨by show 2 ≤ sizeLine; decide, [.int i tk, en.key], .cons ⟨_, rfl⟩ (.cons (relV_key hkey) .nil), ⟨_, hT2, rfl, _, rfl⟩⟩
    have I1 : Inv X pins σ (upd H s.heap.objs.size (.tup [.int (i : Nat), kV k])) { s with heap := h'', toks := tk + 1 } :=
      I.turnedNew (ch := [e, it]) (fun b ob hb q => (sb.2 b (fun z => hb (by simp [z]))).trans (hk b ob (fun z => hb (by simp [z])) (fun z => hb (by simp [z])) q)) hf (Nat.le_refl _) new
    have he3 : IsEnum h'' e it (((i + 1 : Nat) : Int)) en.key := by
      have e1 : ((i + 1 : Nat) : Int) = (i : Int) + 1 := by omega
      rw [e1]; exact he'
    have fz : ∀ b ∈ [e, it], upd H s.heap.objs.size (.tup [.int (i : Nat), kV k]) b = none := fun b hb => by
      have hb' : b < s.heap.objs.size := by
        rcases (by simpa using hb : b = e ∨ b = it) with z | z
        · rw [z]; exact hel
        · rw [z]; exact hil
      rw [upd_ne (Nat.ne_of_lt hb')]
      exact (hf b hb).1
    exact ⟨.ref s.heap.objs.size, _, I1, rfl, ⟨_, k, v, hkv, rfl, I.hok.fresh (Nat.le_refl _), rfl⟩, ⟨⟨en.key, he3⟩, hit'.1.at fun o q => (sb.2 it (Ne.symm hne)).trans q, hne, by rw [hsz]; exact hi⟩, fz⟩
  done := by
    intro X hP hw hK hc i pins s σ H E I hf sx hg
    subst hP hw hK
    obtain ⟨⟨old, he⟩, hit, hne, hle⟩ := sx
    obtain ⟨hd, hi⟩ := hg
    obtain ⟨hs, hgd, hx, es', ep', vs, hdt, hsz, kv, hm⟩ := I.frzK hd
    obtain ⟨rfl, rfl⟩ := dict_ep hod hdt
    obtain ⟨f0, f1, f2, f3, f4, f5⟩ := hf it (by simp)
    have ned : it ≠ d := fun z => by rw [z, hd] at f0; cases f0
    have ei : i = es'.size := Nat.le_antisymm hle (by rw [hsz]; exact hi)
    subst ei
    exact wpAny_pyNext_enum_endD (ekey_draws (A := X.A.in1) (I.ok.hd hc) it d ned.symm o es' ep' hdt) he ⟨hit, hgd⟩ fun h' eb => ⟨rfl, I.turned (t' := s.toks) (fun b o hb q => eb b o hb q) f0 f1 f3 f4 f5⟩
  self := fun A i s Q E sx h => let ⟨⟨_, he⟩, _⟩ := sx; wpAny_pyIter_enum he h
def iEnumD (td : TA) : TI := fun σ H R => td σ H fun vs H1 => ∃ d o kvs, vs = [.ref d] ∧ H1 d = some (.frz o (.dK kvs)) ∧ R (Ited d o kvs) H1
theorem pi_enumD {X : Cx} {e : Expr} {ta : TA} {p pos tpos : Pos} {elts : List Expr} {kk : Nat} (hg : Gl X "enumerate") (hm : X.mg "enumerate" = none) (ha : PA X [e] ta) (hs : starEach [e] X.env = [(false, eval e X.env)] := by rfl) :
    PI X (.Tuple elts kk tpos) (.Call (.Name "enumerate" p) [e] [] pos) (iEnumD ta) := by
  refine ⟨fun pins s σ H R I h => ?_⟩
  refine Call_ (ld_blt I hg hm boot_enumerate (PyProof.Rows.callWith_type1 (thn (ha.run pos pins s σ H _ I h) fun us s1 ⟨vs, H1, I1, r1, d, o, kvs, ex, hd, q⟩ => ?_) hs rfl))
  subst ex
  cases r1 with
  | cons r rr =>
    cases rr
    cases r
    obtain ⟨sys, hgd, hx, es, ep, ws, hdt, hsz, kv, hm⟩ := I1.frzK hd
    refine enum1_begins (begins_keys sys hx hdt) hgd fun h' he hit hk => wpAny_pyIter_enum he ?_
    have I2 : Inv X pins σ H1 { s1 with heap := h' } := I1.kept (t' := s1.toks) hk
    refine ⟨s1.heap.objs.size + 1, [s1.heap.objs.size + 1, s1.heap.objs.size], _, _, H1, rfl, I2, turn_enumD (s1.heap.objs.size + 1) s1.heap.objs.size hdt, ⟨⟨.none, he⟩, ⟨_, hit, rfl, rfl⟩, Nat.succ_ne_self _, Nat.zero_le _⟩, fun b hb => ?_, q⟩
    have le : s1.heap.objs.size ≤ b := by
      rcases (by simpa using hb : b = s1.heap.objs.size + 1 ∨ b = s1.heap.objs.size) with z | z
      · rw [z]; exact Nat.le_add_right _ _
      · rw [z]; exact Nat.le_refl _
    exact I1.fpOk le (I1.hok.fresh le)
/-- walked by one rule or by another, as the value is -/
theorem pi_or {X : Cx} {tg e : Expr} {w1 w2 : TI} (h1 : PI X tg e w1) (h2 : PI X tg e w2) : PI X tg e fun σ H R => w1 σ H R ∨ w2 σ H R :=
  ⟨fun pins s σ H R I h => h.elim (h1.run pins s σ H R I) (h2.run pins s σ H R I)⟩
end L2

/-! sorted(xs), xs a list or a tuple of tuples of small ints, all of one length. -/
namespace STT
open PySem PyProof.Rows TS
section
variable {prog : Program} {w : World} {A : Around} {E : Value → Shared → Prop} {st : Shared}
theorem coll_seq {l : Addr} {o : Obj} {vs : List Value} {n : Nat} {Q : List Value → Shared → Prop} (gl : st.heap.get? l = some o) (cl : o.cls = .type "list" ∨ o.cls = .type "tuple") (dl : o.data = .seq vs.toArray n) (z : vs.length ≤ sizeLine)
    (h : Q vs { st with heap := (st.heap.push (seqObj "list" #[] 0)).update st.heap.objs.size (Obj.mapSeq (· ++ vs.toArray)) }) : wpAny (model prog w) A (collect (.ref l)) Q E st := by
  rcases cl with cl | cl
  · exact collect_list ⟨o, gl, cl, n, dl⟩ h z
  · unfold collect
    refine wpAny_bind (wpAny_runValue (codeAny_builtin entry_proto_collect' ?_))
    show wpAny _ _ (do again (.builtin "list.__iadd__" ⟨[← newList [], .ref l], []⟩)) _ _ st
    refine wpAny_bind (wpAny_newList (wpAny_pure ⟨Code.quiet_builtin _ (by decide +kernel), codeAny_builtin entry_list_iadd' ?_⟩))
    show wpAny _ _ (Builtin.List.listExtendWith (.ref st.heap.objs.size) (.ref l) (.ref st.heap.objs.size)) _ _ { st with heap := st.heap.push (seqObj "list" #[] 0) }
    unfold Builtin.List.listExtendWith
    have gl' : (st.heap.push (seqObj "list" #[] 0)).get? l = some o := Heap.get?_push_of_some _ gl
    refine wpAny_bind (wpAny_typeOf (T := "tuple") ⟨o, gl', cl⟩ ?_)
    rw [if_pos (by rw [show (Value.type "tuple" == Value.type "tuple") = true from rfl]; simp)]
    refine wpAny_bind (listItems_at gl' dl (wpAny_bind (listItems_at (xs := #[]) (n := 0) (Heap.get?_push_size _ rfl) rfl ?_)))
    rw [if_neg (by simp)]
    refine wpAny_bind (listUpdate_at (xs := #[]) (n := 0) (Heap.get?_push_size _ rfl) rfl ?_ (Nat.zero_le _) (by show (#[] ++ vs.toArray).size ≤ sizeLine + 1; simp only [Array.size_append, List.size_toArray, List.length_nil]; omega))
    refine wpAny_pure ?_
    show wpAny (model prog w) A (do
        let oo ← load st.heap.objs.size
        match oo.data with
        | .seq xs _ => pure xs.toList
        | _ => unsupported "internal:collect") Q E { st with heap := (st.heap.push (seqObj "list" #[] 0)).update st.heap.objs.size (Obj.mapSeq (· ++ vs.toArray)) }
    refine wpAny_bind (wpAny_load (get?_update_seq (Heap.get?_push_size _ rfl) _) ?_)
    show wpAny _ _ (pure ((#[] : Array Value) ++ vs.toArray).toList) Q E _
    rw [show ((#[] : Array Value) ++ vs.toArray).toList = vs by simp]
    exact wpAny_pure h
theorem sorted_tt {l : Addr} {o : Obj} {vs : List Value} {n d : Nat} {B : Int} {Q : Value → Shared → Prop} (gl : st.heap.get? l = some o) (cl : o.cls = .type "list" ∨ o.cls = .type "tuple") (dl : o.data = .seq vs.toArray n) (lt : vs.length < 64) (hd : 1 ≤ d) (x : TupsOk st.heap d B vs)
    (h : ∀ out : Array Value, out.toList.Perm vs → out.toList.Pairwise (fun u v => code B (intsOf st.heap u) ≤ code B (intsOf st.heap v)) → Q (.ref (st.heap.objs.size + 1)) { st with heap := sortedAll st.heap vs out }) :
    wpAny (model prog w) A (call (.builtin "sorted") [.ref l]) Q E st := by
  refine Calls.call_function_entry kind_sorted plain_sorted entry_sorted (args_sorted1 _) ?_
  unfold Builtin.«sorted»
  refine wpAny_bind (m := checkCount "sorted" 1 1 _) (wpAny_pure (wpAny_bind (coll_seq gl cl dl (by rw [sizeLine_eq]; omega) (wpAny_bind (wpAny_newList ?_ (by rw [sizeLine_eq]; omega))))))
  have zz : ((st.heap.push (seqObj "list" #[] 0)).update st.heap.objs.size (Obj.mapSeq (· ++ vs.toArray))).objs.size = st.heap.objs.size + 1 := by rw [Heap.size_update, size_push']
  have gN : (((st.heap.push (seqObj "list" #[] 0)).update st.heap.objs.size (Obj.mapSeq (· ++ vs.toArray))).push (seqObj "list" vs.toArray 0)).get? (st.heap.objs.size + 1) = some (seqObj "list" vs.toArray 0) := by rw [← zz]; exact Heap.get?_push_size _ rfl
  have keep : ∀ b o, st.heap.get? b = some o → o.cls = .type "tuple" → (((st.heap.push (seqObj "list" #[] 0)).update st.heap.objs.size (Obj.mapSeq (· ++ vs.toArray))).push (seqObj "list" vs.toArray 0)).get? b = some o := fun b o q _ => by
    have lb : b < st.heap.objs.size := Heap.lt_size q
    rw [Heap.get?_push_ne _ _ _ (by rw [zz]; exact Nat.ne_of_lt (Nat.lt_succ_of_lt lb)), Heap.get?_update_ne _ _ _ _ (Nat.ne_of_lt lb), Heap.get?_push_ne _ _ _ (Nat.ne_of_lt lb)]
    exact q
  show wpAny _ _ _ _ _ { st with heap := ((st.heap.push (seqObj "list" #[] 0)).update st.heap.objs.size (Obj.mapSeq (· ++ vs.toArray))).push (seqObj "list" vs.toArray 0) }
  rw [zz]
  refine wpAny_bind (wpAny_holding (wpAny_call_entry slot_list_sort ⟨_, gN, rfl⟩ entry_list_sort (sort_tups gN lt hd (x.keeps keep) (fun v => code B (intsOf st.heap v)) (fun v hv ns t => ?_) fun out a1 a2 => ⟨_, rfl, ?_⟩) (args_list_sort _)))
  · obtain ⟨ns0, t0, _⟩ := x v hv
    rw [show ns = ns0 from t.ints.symm.trans (t0.keeps keep).ints]
    show code B (intsOf st.heap v) = code B ns0
    rw [t0.ints]
  · exact wpAny_pure ⟨_, rfl, h out a1 a2⟩
end
end STT
namespace L2
open PySem PySem.Spec PyProof.Rows
section
variable {X : Cx}
/-- sorted(xs), xs a list or a tuple of tuples of ints, d each, within [0, B) -/
def rSortTT (K : PySem.W.Frag) : List V → Hp → VK → Prop := fun vs H Q => ∃ (a : Addr) (xs : List V) (f : V → List Int) (d : Nat) (B : Int), vs = [V.ref a] ∧ (SqL K H a xs ∨ SqT K H a xs) ∧ xs.length < 64 ∧ 1 ≤ d ∧
  (∀ x ∈ xs, ∃ t, x = V.ref t ∧ SqT K H t ((f x).map V.int) ∧ (f x).length = d ∧ TS.Bd B (f x)) ∧
  ∀ ys p, ys.Perm xs → ys.Pairwise (fun x y => TS.code B (f x) ≤ TS.code B (f y)) → H p = none → Q (.ref p) (upd H p (.lst ys))
theorem cr_sortTT : CallR X (.builtin "sorted") (rSortTT X.K) := by
  intro pins s σ H vs us Q I r h
  obtain ⟨a, xs, f, d, B, rfl, hs, lt, hd, hx, q⟩ := h
  obtain ⟨u, rfl, ru⟩ := vals1 r
  obtain rfl : u = Value.ref a := ru
  obtain ⟨its, rv, o, n, gl, cl, dl⟩ : ∃ its : List Value, Vals xs its ∧ ∃ o n, s.heap.get? a = some o ∧ (o.cls = .type "list" ∨ o.cls = .type "tuple") ∧ o.data = .seq its.toArray n := by
    rcases hs with hs | hs
    · obtain ⟨its, rv, pl, _⟩ := I.list hs
      obtain ⟨o, go, co, n, dn⟩ := pl.isList
      exact ⟨its, rv, o, n, go, .inl co, dn⟩
    · obtain ⟨its, rv, ⟨o, go, co, n, dn⟩, _⟩ := I.tuple hs
      exact ⟨its, rv, o, n, go, .inr co, dn⟩
  obtain ⟨e1, e2⟩ := refs_back rv fun x m => by
    obtain ⟨t, e, _⟩ := hx x m
    exact ⟨t, e⟩
  have tups : ∀ v ∈ its, TS.TupInts s.heap v (f (backV v)) ∧ (f (backV v)).length = d ∧ TS.Bd B (f (backV v)) := fun v hv => by
    obtain ⟨t, rfl⟩ := e2 v hv
    have hm : V.ref t ∈ xs := by rw [e1]; exact List.mem_map.mpr ⟨_, hv, rfl⟩
    obtain ⟨t', e, sq, l, b⟩ := hx _ hm
    cases e
    obtain ⟨us, r2, tp, _⟩ := I.tuple sq
    exact ⟨⟨t, _, rfl, tp, by rw [List.toList_toArray]; exact intsAre_of r2⟩, l, b⟩
  refine STT.sorted_tt gl cl dl (by rw [← rv.length]; exact lt) hd (fun v hv => ⟨_, tups v hv⟩) fun out pm pw => ?_
  obtain ⟨e, ge⟩ := sortedAll_at s.heap its out
  have h3 : ∀ u ∈ out.toList, ∃ a, u = Value.ref a := fun u hu => e2 u (pm.mem_iff.mp hu)
  have lo : (out.toList.map backV).length ≤ sizeLine := by
    rw [List.length_map, pm.length_eq, ← rv.length, sizeLine_eq]; omega
  have hp : s.heap.objs.size ≤ s.heap.objs.size + 1 := Nat.le_succ _
  refine ⟨.ref (s.heap.objs.size + 1), upd H (s.heap.objs.size + 1) (.lst (out.toList.map backV)), I.laid (t' := s.toks) (fun b o q => sortedAll_old q) hp ⟨lo, out.toList, e, vals_back h3, by simpa using ge⟩, rfl, q _ _ ?_ ?_ (I.hok.fresh hp)⟩
  · rw [e1]; exact pm.map backV
  · rw [List.pairwise_map]
    refine pw.imp_of_mem fun {u v} hu hv l => ?_
    rw [(tups u (pm.mem_iff.mp hu)).1.ints, (tups v (pm.mem_iff.mp hv)).1.ints] at l
    exact l
end
end L2

/-! len(o), repr(o) of an own instance with __len__, __repr__; {x!r} of nested data. -/
namespace PySem
namespace EXV
open PySem.W PySem.Calls PyProof.Rows PySem.Spec
section
variable {prog : Program} {w : World} {A : Around} {E : Value → Shared → Prop} {st : Shared} {K : Frag} {x C f : Addr} {ox : Obj} {od : Option Obj}
theorem own_len {Q : Value → Shared → Prop} (X : K.In st.heap) (I : InstAt st.heap x ox C od) (hl : findIn K (.ref C) "__len__" = some (some (.ref f))) (hf : typeIn K (.ref f) = some (.type "function"))
    (h : wpAny (model prog w) A.in1 (call (.ref f) [.ref x]) (fun v s' => ∃ (n : Nat) (t : Tok), v = .int n t ∧ n < 2 ^ 62 ∧ ∀ t', Q (.int n t') { s' with toks := s'.toks + 1 }) E st) : wpAny (model prog w) A (call (.builtin "len") [.ref x]) Q E st := by
  refine Calls.call_function_entry kind_len plain_len entry_len (args_len1 _) ?_
  unfold Builtin.«len»
  refine wpAny_bind (m := oneArg "len" _) (wpAny_pure (wpAny_bind (m := callSpecial? (.ref x) (Str.ofString "__len__")) (special_fn X I hl hf (wpAny_mono h (fun r s' z => ?_) fun _ _ z => z))))
  obtain ⟨n, t, rfl, lt, q⟩ := z
  refine wpAny_bind (wpAny_holding (wpAny_pure (wpAny_bind (wpAny_letGo ?_))))
  show wpAny _ _ (if ((n : Nat) : Int) < 0 then _ else _) _ _ _
  rw [if_neg (by omega)]
  show wpAny _ _ (if ((n : Nat) : Int) ≥ 2 ^ 63 then _ else _) _ _ _
  rw [if_neg (by omega)]
  exact wpAny_bind (wpAny_mkInt (wpAny_pure ⟨_, rfl, q _⟩))
theorem own_repr {Q : Value → Shared → Prop} (hu : A.units + 1 < cLine) (X : K.In st.heap) (I : InstAt st.heap x ox C od) (hs : findIn K (.ref C) "__repr__" = some (some (.ref f))) (hf : isFn K (.ref f) = true)
    (h : wpAny (model prog w) A.in1 (call (.ref f) [.ref x]) (fun r s₁ => ∃ y t, r = .str y t ∧ Q r s₁) E st) : wpAny (model prog w) A (call (.builtin "repr") [.ref x]) Q E st := by
  refine Calls.call_function_entry PySem.F.kind_repr PySem.F.plain_repr PySem.F.entry_repr (PySem.F.args_repr1 _) ?_
  unfold Builtin.«repr»
  refine wpAny_bind (m := oneArg "repr" _) (wpAny_pure (wpAny_bind (m := cRoomFor _ _) (wpAny_cRoomFor (by show A.units + 1 < cLine; exact hu) ?_)))
  have sp : ∀ {Q' : Option Value → Shared → Prop}, Q' (some (.ref f)) st → wpAny (model prog w) A.in1 (specialOf (.ref x) "__repr__") Q' E st := fun q => by
    unfold specialOf
    exact wpAny_bind (I.type.here ((PySem.W.looks_findIn X hs).here q))
  refine wpAny_bind (sp ?_)
  refine wpAny_bind (m := callSpecialIfBound? (.ref x) (Str.ofString "__repr__")) (ifBound_K X I hs hf (wpAny_mono h (fun r s₁ z => ?_) fun _ _ z => z))
  obtain ⟨y, t, rfl, q⟩ := z
  refine wpAny_bind (wpAny_isInstance (T := "str") (b := true) rfl isSubtype_str_str ?_)
  exact wpAny_pure ⟨_, rfl, q⟩
end
end EXV
end PySem
namespace L2
open PySem PySem.Spec PyProof.Rows
section
variable {X : Cx} {CX : CXT} {k : Nat} {C f : Addr} {fd : FuncData} {ps : List Str} {sp : Sp} {E : XK}
def rLenX (C : Addr) (sp : Sp) (E : XK) : List V → Hp → VK → Prop := fun xs H Q => ∃ a dx fs, xs = [.ref a] ∧ H a = some (.ins C dx fs) ∧ sp [.ref a] H (fun v H' => ∃ n : Nat, v = .int n ∧ n < 2 ^ 62 ∧ Q (.int n) H') E
theorem call_lenX (F : FnOk X.prog X.w X.K X.mg X.base CX k f fd ps sp) (hr : Room (k + 1) X.A) (hb : Binds X.K fd ps []) (hx : Passes CX X E) (hs : PySem.W.findIn X.K (.ref C) "__len__" = some (some (.ref f))) (hf : PySem.W.isFn X.K (.ref f) = true) :
    CallR X (.builtin "len") (rLenX C sp E) := by
  intro pins s σ H xs us Q I r h
  obtain ⟨a, dx, fs, rfl, ha, hsp⟩ := h
  obtain ⟨u, rfl, ru⟩ := vals1 r
  cases ru
  obtain ⟨mA, J, _⟩ := ins_get I.hok ha
  obtain ⟨od, J, _⟩ := J.look
  refine PySem.EXV.own_len I.kIn J hs (beq_iff_eq.mp hf) ?_
  refine wpAny_mono (run_fnAt (vs := [.ref a]) rfl F hr.in1 hb hx I (.cons rfl .nil) hsp) (fun w s' z => ?_) fun _ _ z => z
  obtain ⟨v', H', I', rv, n, rfl, lt, q⟩ := z
  obtain ⟨t, rfl⟩ := rv
  exact ⟨n, t, rfl, lt, fun t' => ⟨.int n, H', I'.tok _, ⟨t', rfl⟩, q⟩⟩
/-- the callee, where no repr is under way, at another depth of the same frames -/
theorem run_fnGAt {A' : Around} {pins : List (Addr × Obj)} {σ : St} {H : Hp} {s : Shared} {Q : VK} {us : List Value} {vs : List V} (hfr : A'.frames = X.A.frames) (hA : A'.guards = some []) (F : FnG X.prog X.w X.K X.mg X.base CX k f fd ps sp) (hr : Room k A') (hb : Binds X.K fd ps []) (hx : Passes CX X E)
    (I : Inv X pins σ H s) (r : Vals vs us) (h : sp vs H Q E) : wpAny (model X.prog X.w) A' (call (.ref f) us) (EP X pins σ Q) X.xe s := by
  have e := I.env0
  have e0 : Env0 X.prog X.w X.K X.mg X.base A' X.stack s H := ⟨by rw [hfr]; exact e.frames, e.mod, e.bs, e.bsz, e.funs, e.frf, e.hok, e.bare⟩
  have b := hb s us I.kIn (by rw [List.append_nil, ← r.length]; exact F.len _ _ _ _ h)
  rw [List.append_nil] at b
  refine wpAny_call (codeAny_mono (F.run A' X.stack s H ⟨us, []⟩ us vs Q E hr hA e0 b r h) fun r s' hq => ?_)
  match r, hq with
  | .error e, hq => exact hx pins σ H s e s' I hq
  | .ok (.ret u), hq => exact I.after hq
  | .ok .next, hq => exact hq.elim
  | .ok .brk, hq => exact hq.elim
  | .ok .cont, hq => exact hq.elim
theorem call_reprX (hA : X.A.guards = some []) (F : FnG X.prog X.w X.K X.mg X.base CX k f fd ps sp) (hr : Room (k + 1) X.A) (hb : Binds X.K fd ps []) (hx : Passes CX X E) (hs : PySem.W.findIn X.K (.ref C) "__repr__" = some (some (.ref f))) (hf : PySem.W.isFn X.K (.ref f) = true) :
    CallR X (.builtin "repr") (rStrX C sp E) := by
  intro pins s σ H xs us Q I r h
  obtain ⟨a, dx, fs, rfl, ha, hsp⟩ := h
  obtain ⟨u, rfl, ru⟩ := vals1 r
  cases ru
  obtain ⟨mA, J, _⟩ := ins_get I.hok ha
  obtain ⟨od, J, _⟩ := J.look
  refine PySem.EXV.own_repr (by have := hr.un; omega) I.kIn J hs hf ?_
  refine wpAny_mono (run_fnGAt (vs := [.ref a]) rfl hA F hr.in1 hb hx I (.cons rfl .nil) hsp) (fun w s' z => ?_) fun _ _ z => z
  obtain ⟨v', H', I', rv, b, rfl, q⟩ := z
  obtain ⟨t, rfl⟩ := rv
  exact ⟨b, t, rfl, .str b, H', I', ⟨t, rfl⟩, q⟩
/-- {x!r} of nested data -/
def tFmtD (K : PySem.W.Frag) (te : TE) : TE := fun σ H Q => te σ H fun x H1 => ∃ (a : Addr) (d : PyData), x = .ref a ∧ Dx K H1 x d ∧ Fine d ∧ Q (.str d.shown) H1
theorem pe_fmtD {e : Expr} {te : TE} {pos : Pos} (hA : X.A.guards = some []) (hu : X.A.units + 64 < cLine) (sm : HasSm X.K) (he : PE X e te) : PE X (.FormattedValue e 114 none pos) (tFmtD X.K te) := by
  refine ⟨fun pins s σ H Q I h => ?_⟩
  refine wpAny_FormattedValue_repr (thn (he.run pins s σ H _ I h) fun v s1 hv => ?_)
  obtain ⟨x, H1, I1, r1, a, d, rfl, hd, ⟨h1, h2, h3⟩, q⟩ := hv
  obtain ⟨as, hr, hn⟩ := Dx.reads I1 sm d _ v hd r1
  cases r1
  refine pyReprObj_of_reads hr h1 (fun _ => hn) hA (by omega) (fun _ _ e => e) (fun h' u tk hk => ?_) h3
  have I2 : Inv X pins σ H1 { s1 with heap := h', toks := tk } := I1.kept (t' := tk) hk
  exact wpAny_formatField_str ⟨.str d.shown, H1, I2, ⟨_, rfl⟩, q⟩ ⟨.str d.shown, H1, I2.tok _, ⟨_, rfl⟩, q⟩ h3
end
end L2

/-! zip(a tuple, a list). -/
namespace L2
open PySem PySem.Spec PyProof.Rows
def Itzm (K : PySem.W.Frag) (a b : Addr) (xs ys : List V) : It :=
  ⟨fun i H => (SqT K H a xs ∧ SqL K H b ys) ∧ i < min xs.length ys.length, fun i H v H' => ∃ T x y, v = .ref T ∧ H T = none ∧ H' = upd H T (.tup [x, y]) ∧ xs[i]? = some x ∧ ys[i]? = some y,
    fun i H => (SqT K H a xs ∧ SqL K H b ys) ∧ min xs.length ys.length ≤ i⟩
theorem turn_zipM {P : Program} {w : World} {K : PySem.W.Frag} {elts : List Expr} {kk : Nat} {tpos : Pos} {a b z TI TO i1 i2 : Addr} {xs ys : List V} (D : ZipSep2 z TI TO i1 i2 [i1, a] [i2, b]) :
    Turn P w K (.Tuple elts kk tpos) (Itzm K a b xs ys) [z, TI, TO, i1, i2] z (fun i h => IsZip h z TI TO .none ∧ IsTupOf2 h TI (.ref i1) (.ref i2) ∧ (∃ x y, IsTupOf2 h TO x y) ∧ h.IsTupleIter i1 a i ∧ h.IsListIter i2 b i ∧ i ≤ xs.length ∧ i ≤ ys.length) where
  mem := by simp
  obj := fun i h st c hc => by
    obtain ⟨hz, hTI, ⟨x, y, hTO⟩, ⟨o1, e1, _, d1⟩, ⟨o2, e2, _, d2⟩, _⟩ := st
    rcases (by simpa using hc : c = z ∨ c = TI ∨ c = TO ∨ c = i1 ∨ c = i2) with q | q | q | q | q
    · rw [q]; exact ⟨_, hz, fun v q => nomatch q⟩
    · rw [q]; exact ⟨_, hTI, fun v q => nomatch q⟩
    · rw [q]; exact ⟨_, hTO, fun v q => nomatch q⟩
    · rw [q]; exact ⟨o1, e1, fun v q => by rw [d1] at q; cases q⟩
    · rw [q]; exact ⟨o2, e2, fun v q => by rw [d2] at q; cases q⟩
  keep := fun i h h' st k => by
    obtain ⟨hz, hTI, ⟨x, y, hTO⟩, h1, h2, l⟩ := st
    exact ⟨k z (by simp) _ hz, k TI (by simp) _ hTI, ⟨x, y, k TO (by simp) _ hTO⟩, h1.at fun o q => k i1 (by simp) o q, h2.at fun o q => k i2 (by simp) o q, l⟩
  item := by
    intro X hP hw hK hc i pins s σ H E I hf st hg
    subst hP hw hK
    obtain ⟨hz, hTI, ⟨x0, y0, hTO⟩, h1, h2, l1, l2⟩ := st
    obtain ⟨⟨hqx, hqy⟩, hi⟩ := hg
    obtain ⟨its, rv, tp, _⟩ := I.tuple hqx
    obtain ⟨its2, rv2, p2, _⟩ := I.list hqy
    have hx : xs[i]? = some (xs[i]'(by omega)) := List.getElem?_eq_getElem _
    have hy : ys[i]? = some (ys[i]'(by omega)) := List.getElem?_eq_getElem _
    obtain ⟨u, hu, ru⟩ := rv.get hx
    obtain ⟨u2, hu2, ru2⟩ := rv2.get hy
    have hzl : z < s.heap.objs.size := Heap.lt_size hz
    have n1 := rv.length
    have n2 := rv2.length
    have hd1 : X.A.in1.handled = none := I.ok.hd hc
    have nea : a ≠ i1 := fun q => by
      obtain ⟨o, ho, hc1, _⟩ := id tp
      obtain ⟨o', ho', hc2, _⟩ := id h1
      rw [q, ho'] at ho; cases ho; rw [hc2] at hc1; exact absurd (Value.type.inj hc1) (by decide)
    have neb : b ≠ i2 := fun q => by
      obtain ⟨o, ho, hc1, _⟩ := id p2.isList
      obtain ⟨o', ho', hc2, _⟩ := id h2
      rw [q, ho'] at ho; cases ho; rw [hc2] at hc1; exact absurd (Value.type.inj hc1) (by decide)
    refine wpAny_pyNext_zipD2_item D (Draws.tuple hd1 i1 a nea its.toArray) (Draws.list hd1 i2 b neb its2.toArray) hz hTI hTO ⟨h1, tp⟩ ⟨h2, p2.isList⟩ (by simp; omega) (by simp; omega) fun v1 v2 h' tk e1 e2 z' TO' s1 s2 hT hsz hk => ?_
    have w1 : v1 = u := by rw [show its.toArray[i]? = some u by simpa using hu] at e1; exact (Option.some.inj e1).symm
    have w2 : v2 = u2 := by rw [show its2.toArray[i]? = some u2 by simpa using hu2] at e2; exact (Option.some.inj e2).symm
    subst w1 w2
    refine ⟨_, rfl, wpAny_letOwnedTupleGo_zip (s := { s with heap := h', toks := tk }) z' fun h'' z'' sb => ?_⟩
    have hT2 : h''.get? s.heap.objs.size = some { cls := .type "tuple", data := .seq #[v1, v2] } := (sb.2 _ (Nat.ne_of_gt hzl)).trans hT
    have new : ObjOk X.prog X.w (upd H s.heap.objs.size (.tup [xs[i]'(by omega), ys[i]'(by omega)])) h'' s.heap.objs.size (.tup [xs[i]'(by omega), ys[i]'(by omega)]) :=
      ⟨by show 2 ≤ sizeLine; decide, [v1, v2], .cons ru (.cons ru2 .nil), ⟨_, hT2, rfl, _, rfl⟩⟩
    have kk5 : ∀ c o, c ∉ [z, TI, TO, i1, i2] → s.heap.get? c = some o → h''.get? c = some o := fun c o hb q => (sb.2 c (fun q' => hb (by simp [q']))).trans (hk c o (fun q' => hb (by simp [q'])) (fun q' => hb (by simp [q'])) (fun q' => hb (by simp [q'])) (fun q' => hb (by simp [q'])) q)
    have I1 : Inv X pins σ (upd H s.heap.objs.size (.tup [xs[i]'(by omega), ys[i]'(by omega)])) { s with heap := h'', toks := tk } := I.turnedNew (t' := tk) (ch := [z, TI, TO, i1, i2]) kk5 hf (Nat.le_refl _) new
    have fz : ∀ c ∈ [z, TI, TO, i1, i2], upd H s.heap.objs.size (.tup [xs[i]'(by omega), ys[i]'(by omega)]) c = none := fun c hcm => by
      have hlt : c < s.heap.objs.size := by
        rcases (by simpa using hcm : c = z ∨ c = TI ∨ c = TO ∨ c = i1 ∨ c = i2) with q | q | q | q | q
        · rw [q]; exact hzl
        · rw [q]; exact Heap.lt_size hTI
        · rw [q]; exact Heap.lt_size hTO
        · rw [q]; obtain ⟨_, e1, _⟩ := h1; exact Heap.lt_size e1
        · rw [q]; obtain ⟨_, e2, _⟩ := h2; exact Heap.lt_size e2
      rw [upd_ne (Nat.ne_of_lt hlt)]
      exact (hf c hcm).1
    have tI : h''.get? TI = some { cls := .type "tuple", data := .seq #[.ref i1, .ref i2] } := (sb.2 _ D.TIz).trans (hk _ _ D.TIz D.TITO D.TIi1 D.TIi2 hTI)
    have nn : i + 1 ≤ xs.length ∧ i + 1 ≤ ys.length := by omega
    exact ⟨.ref s.heap.objs.size, _, I1, rfl, ⟨_, _, _, rfl, I.hok.fresh (Nat.le_refl _), rfl, hx, hy⟩, ⟨z'', tI, ⟨_, _, (sb.2 _ D.TOz).trans TO'⟩, s1.1.at fun o q => (sb.2 _ D.zi1.symm).trans q, s2.1.at fun o q => (sb.2 _ D.zi2.symm).trans q, nn⟩, fz⟩
  done := by
    intro X hP hw hK hc i pins s σ H E I hf st hg
    subst hP hw hK
    obtain ⟨hz, hTI, ⟨x0, y0, hTO⟩, h1, h2, l1, l2⟩ := st
    obtain ⟨⟨hqx, hqy⟩, hi⟩ := hg
    obtain ⟨its, rv, tp, _⟩ := I.tuple hqx
    obtain ⟨its2, rv2, p2, _⟩ := I.list hqy
    have n1 := rv.length
    have n2 := rv2.length
    have hd1 : X.A.in1.handled = none := I.ok.hd hc
    have nea : a ≠ i1 := fun q => by
      obtain ⟨o, ho, hc1, _⟩ := id tp
      obtain ⟨o', ho', hc2, _⟩ := id h1
      rw [q, ho'] at ho; cases ho; rw [hc2] at hc1; exact absurd (Value.type.inj hc1) (by decide)
    have neb : b ≠ i2 := fun q => by
      obtain ⟨o, ho, hc1, _⟩ := id p2.isList
      obtain ⟨o', ho', hc2, _⟩ := id h2
      rw [q, ho'] at ho; cases ho; rw [hc2] at hc1; exact absurd (Value.type.inj hc1) (by decide)
    exact wpAny_pyNext_zipD2_end D (Draws.tuple hd1 i1 a nea its.toArray) (Draws.list hd1 i2 b neb its2.toArray) hz hTI hTO ⟨h1, tp⟩ ⟨h2, p2.isList⟩ (by simp; omega) (by simp; omega) (by simp; omega) fun h' tk hk => ⟨rfl, I.turnedL (t' := tk) (ch := [z, TI, TO, i1, i2]) (fun c o hb q =>
      hk c o (fun q' => hb (by simp [q'])) (fun q' => hb (by simp [q'])) (fun q' => hb (by simp [q'])) (fun q' => hb (by simp [q'])) q) hf⟩
  self := fun A i s Q E st h => wpAny_pyIter_zip st.1 h
def iZipM (K : PySem.W.Frag) (ta : TA) : TI := fun σ H R => ta σ H fun vs H1 => ∃ a b xs ys, vs = [.ref a, .ref b] ∧ SqT K H1 a xs ∧ SqL K H1 b ys ∧ R (Itzm K a b xs ys) H1
theorem pi_zipM {X : Cx} {e e2 : Expr} {ta : TA} {p pos tpos : Pos} {elts : List Expr} {kk : Nat} (hg : Gl X "zip") (hm : X.mg "zip" = none) (ha : PA X [e, e2] ta)
    (hs : starEach [e, e2] X.env = (false, eval e X.env) :: starEach [e2] X.env := by rfl) (hpl : (backTo pos (starEach [e2] X.env)).any (·.1) = false := by rfl) :
    PI X (.Tuple elts kk tpos) (.Call (.Name "zip" p) [e, e2] [] pos) (iZipM X.K ta) := by
  refine ⟨fun pins s σ H R I h => ?_⟩
  refine Call_ (ld_blt I hg hm PyProof.Rows.boot_zip (PyProof.Rows.callWith_type1 (thn (ha.run pos pins s σ H _ I h) fun us s1 ⟨vs, H1, I1, r1, a, b, xs, ys, ex, hqx, hqy, q⟩ => ?_) hs hpl))
  subst ex
  cases r1 with
  | cons r rr =>
    cases rr with
    | cons r' rr =>
      cases rr
      cases r
      cases r'
      obtain ⟨its, rv, tp, _⟩ := I1.tuple hqx
      obtain ⟨its2, rv2, p2, _⟩ := I1.list hqy
      have la : a < s1.heap.objs.size := tp.lt
      have lb : b < s1.heap.objs.size := p2.lt
      refine zip_begins2 (begins_tuple a its.toArray) (begins_list b its2.toArray) tp p2.isList fun h' hz hTI hTO h1 h2 hsz hk => wpAny_pyIter_zip hz ?_
      have I2 : Inv X pins σ H1 { s1 with heap := h' } := I1.kept (t' := s1.toks) hk
      refine ⟨s1.heap.objs.size + 4, [s1.heap.objs.size + 4, s1.heap.objs.size + 2, s1.heap.objs.size + 3, s1.heap.objs.size, s1.heap.objs.size + 1], _, _, H1, rfl, I2, turn_zipM ?_, ⟨hz, hTI, ⟨_, _, hTO⟩, ⟨_, h1, rfl, rfl⟩, ⟨_, h2, rfl, rfl⟩, Nat.zero_le _, Nat.zero_le _⟩, fun c hcm => ?_, q⟩
      · have A : ∀ k : Nat, s1.heap.objs.size + k ≠ a := fun k => Nat.ne_of_gt (Nat.lt_of_lt_of_le la (Nat.le_add_right _ _))
        have B : ∀ k : Nat, s1.heap.objs.size + k ≠ b := fun k => Nat.ne_of_gt (Nat.lt_of_lt_of_le lb (Nat.le_add_right _ _))
        have C : ∀ j k : Nat, j ≠ k → s1.heap.objs.size + j ≠ s1.heap.objs.size + k := fun j k hjk z => hjk (Nat.add_left_cancel z)
        have N2 : ∀ {x y c : Nat}, c ≠ x → c ≠ y → c ∉ [x, y] := fun h1 h2 hm => by
          rcases List.mem_cons.mp hm with q | q
          · exact h1 q
          · exact h2 (List.mem_singleton.mp q)
        exact ⟨C 2 4 (by decide), C 3 4 (by decide), C 2 3 (by decide), C 2 0 (by decide), List.mem_cons_self, N2 (C 4 0 (by decide)) (A 4), N2 (C 3 0 (by decide)) (A 3), C 2 1 (by decide), List.mem_cons_self, N2 (C 4 1 (by decide)) (B 4), N2 (C 3 1 (by decide)) (B 3), N2 (C 0 1 (by decide)) (B 0), N2 (C 1 0 (by decide)) (A 1)⟩
      · have hle : s1.heap.objs.size ≤ c := by
          rcases (by simpa using hcm : c = s1.heap.objs.size + 4 ∨ c = s1.heap.objs.size + 2 ∨ c = s1.heap.objs.size + 3 ∨ c = s1.heap.objs.size ∨ c = s1.heap.objs.size + 1) with z | z | z | z | z <;> rw [z] <;> first | exact Nat.le_refl _ | exact Nat.le_add_right _ _
        exact I1.fpOk hle (I1.hok.fresh hle)
end L2

/-! walks over a list or a tuple, whichever it is; dict comprehensions over any walk -/
namespace L2
open PySem PySem.Spec PyProof.Rows
/-- what stands at a goes on standing -/
def Kp (K : PySem.W.Frag) (a : Addr) (H H' : Hp) : Prop := (∀ xs, SqL K H a xs → SqL K H' a xs) ∧ ∀ xs, SqT K H a xs → SqT K H' a xs
theorem Kp.at {K : PySem.W.Frag} {a : Addr} {H H' : Hp} (h : ∀ o, H a = some o → H' a = some o) : Kp K a H H' := by
  refine ⟨fun xs q => ?_, fun xs q => ?_⟩
  · rcases q with (q | ⟨o, q⟩) | q
    · exact .inl (.inl (h _ q))
    · exact .inl (.inr ⟨o, h _ q⟩)
    · exact .inr q
  · rcases q with (q | ⟨o, q⟩) | q
    · exact .inl (.inl (h _ q))
    · exact .inl (.inr ⟨o, h _ q⟩)
    · exact .inr q
theorem Kp.trans {K : PySem.W.Frag} {a : Addr} {H H1 H2 : Hp} (x : Kp K a H H1) (y : Kp K a H1 H2) : Kp K a H H2 := ⟨fun xs q => y.1 xs (x.1 xs q), fun xs q => y.2 xs (x.2 xs q)⟩
theorem Kp.sq {K : PySem.W.Frag} {a : Addr} {H H' : Hp} {xs : List V} (k : Kp K a H H') (h : SqL K H a xs ∨ SqT K H a xs) : SqL K H' a xs ∨ SqT K H' a xs := h.imp (k.1 xs) (k.2 xs)
theorem or_walk {K : PySem.W.Frag} {tl : TE} {σ : St} {H : Hp} {R : It → Hp → Prop} {a : Addr} {xs : List V} (ht : ∀ R' : VK, R' (.ref a) H → tl σ H R') (hS : SqL K H a xs ∨ SqT K H a xs)
    (h : ∀ (J : It) (G : Hp → Prop), Walk J xs.length G (YAt xs) → (∀ H', Kp K a H H' → G H') → R J H) : iList K tl σ H R ∨ iTup K tl σ H R := by
  rcases hS with hS | hS
  · exact .inl (ht _ ⟨a, rfl, ⟨xs, hS⟩, h _ _ walk_list fun H' k => k.1 xs hS⟩)
  · exact .inr (ht _ ⟨a, rfl, ⟨xs, hS⟩, h _ _ walk_tup fun H' k => k.2 xs hS⟩)
/-- a dict comprehension over a walk -/
theorem dc_it {J : It} {n : Nat} {G : Hp → Prop} {Y : Nat → Hp → V → Hp → Prop} (w : Walk J n G Y) {g : TG} {tt : TT} {tk tv : TE} {vs : List Nat} {σ : St} {H1 : Hp} {D : Addr} {Qd : Hp → Prop} (Pv : Nat → Hp → Prop) (h0 : Pv 0 (upd H1 D (.dK []))) (hG : ∀ i H, i ≤ n → Pv i H → G H)
    (hs : ∀ i x H H', i < n → Pv i H → Y i H x H' → g x (wipe σ vs) H' fun σ2 H2 => wipe σ2 vs = wipe σ vs ∧ tt σ2 H2 fun b H3 =>
      if b = true then tk σ2 H3 fun y H4 => tv σ2 H4 fun z H5 => ∃ kvs k, y = kV k ∧ H5 D = some (.dK kvs) ∧ kvs.length < sizeLine ∧ Pv (i + 1) (upd H5 D (.dK (putK kvs k z))) else Pv (i + 1) H3) (hd : ∀ H, Pv n H → Qd H) :
    ∃ W : Nat → Nat → Hp → Prop, (∃ m, W 0 m (upd H1 D (.dK []))) ∧ ∀ i m H, W i m H →
      (J.stop i H ∧ Qd H) ∨ (J.go i H ∧ ∃ Nx : Hp → Prop, (∀ H', Nx H' → ∃ m', m' < m ∧ W (i + 1) m' H') ∧ ∀ x H', J.yld i H x H' → g x (wipe σ vs) H' fun σ2 H2 => wipe σ2 vs = wipe σ vs ∧ tt σ2 H2 fun b H3 =>
        if b = true then tk σ2 H3 fun y H4 => tv σ2 H4 fun z H5 => ∃ kvs k, y = kV k ∧ H5 D = some (.dK kvs) ∧ kvs.length < sizeLine ∧ Nx (upd H5 D (.dK (putK kvs k z))) else Nx H3) := by
  refine ⟨fun i m H => m = n - i ∧ i ≤ n ∧ Pv i H, ⟨n, by simp, Nat.zero_le _, h0⟩, ?_⟩
  rintro i m H ⟨em, hi, p⟩
  subst em
  by_cases lt : i < n
  · exact .inr ⟨w.goes i H lt (hG i H hi p), Pv (i + 1), fun H' p' => ⟨n - (i + 1), by omega, rfl, lt, p'⟩, fun x H' y => hs i x H H' lt p (w.yields i H x H' lt (hG i H hi p) y)⟩
  · have e : i = n := by omega
    subst e
    exact .inl ⟨w.stops H (hG i H hi p), hd H p⟩
/-- the numbered keys of a locked dict -/
theorem walk_enumD {d : Addr} {o : Obj} {kvs : List (Key × V)} : Walk (Ited d o kvs) kvs.length (fun H => H d = some (.frz o (.dK kvs))) (YPair (fun i => some (.int (i : Nat))) (fun i => kvs[i]?.map fun kv => kV kv.1)) :=
  ⟨fun _ _ hi q => ⟨q, hi⟩, fun _ q => ⟨q, Nat.le_refl _⟩, fun i _ x _ hi q y => by
    obtain ⟨T, k, v, hk, ex, hT, hH⟩ := y
    exact ⟨T, _, _, ex, hT, hH, rfl, by show Option.map _ kvs[i]? = _; rw [hk]; rfl⟩⟩
end L2

/-! o.m(..), m a method that lets own errors out: they go on to the caller's end, at its slots. -/
namespace L2
open PySem PySem.Spec PyProof.Rows
def tMethX (C : Addr) (m : Str) (sp : Sp) (E : St → XK) (ta : TE) (t : TA) : TE := fun σ H Q => ta σ H fun x H1 => ∃ a dx fs, x = .ref a ∧ H1 a = some (.ins C dx fs) ∧ fs.lookup m = none ∧ t σ H1 fun vs H2 => sp (x :: vs) H2 Q (E σ)
section
variable {X : Cx} {CX : CXT} {k : Nat} {f C : Addr} {fd : FuncData} {ps : List Str} {sp : Sp} {E : St → XK} {m : Str} {pos apos : Pos} {e o : Expr} {es : List Expr} {ta : TE} {t : TA}
theorem pe_methX {pl : Sem Bool} (ho : PE X o ta) (cl : Cls X.K C) (hm : Meth X.K C m f) (F : FnOk X.prog X.w X.K X.mg X.base CX k f fd ps sp) (hr : Room k X.A) (hb : Binds X.K fd ps []) (hx : ∀ σ, PassesAt CX X σ (E σ)) (ha : PA X (e :: es) t)
    (s1 : starEach (e :: es) X.env = (false, eval e X.env) :: starEach es X.env := by rfl) (s2 : (backTo pos (starEach es X.env)).any (·.1) = false := by rfl)
    (line : eval (.Call (.Attribute o m apos) (e :: es) [] pos) X.env = (eval o X.env >>= fun ov => standAt apos.atName >>= fun _ => holding [ov] (getMethod ov m pl) >>= fun fm =>
      callWith pos fm.1 fm.2 (backTo pos (starEach (e :: es) X.env)) (backToKw pos (keywordEach [] X.env))) := by rfl) :
    PE X (.Call (.Attribute o m apos) (e :: es) [] pos) (tMethX C m sp E ta t) := by
  constructor
  intro pins s σ H Q I h
  refine PySem.W.methodCall_KW (pl := pl) (thn (ho.run pins s σ H _ I h) fun u st hh => ?_) line
  obtain ⟨x, H1, I1, rx, a, dx, fs, rfl, ha1, nl, q⟩ := hh
  obtain rfl : u = Value.ref a := rx
  refine getmeth_ok I1 ha1 cl hm nl (PySem.W.callWith_K (first := [.ref a]) (h₀ := X.base) I.ok.mod.kin hm.kp (thn (ha.run pos pins st σ H1 _ I1 q) fun us st2 h2 => ?_) s1 s2)
  obtain ⟨vs, H2, I2, r, q2⟩ := h2
  exact ⟨I2.kIn, run_fnS (us := .ref a :: us) (vs := .ref a :: vs) F hr hb (hx σ) I2 (.cons rfl r) q2⟩
theorem pe_methX0 {pl : Sem Bool} (ho : PE X o ta) (cl : Cls X.K C) (hm : Meth X.K C m f) (F : FnOk X.prog X.w X.K X.mg X.base CX k f fd ps sp) (hr : Room k X.A) (hb : Binds X.K fd ps []) (hx : ∀ σ, PassesAt CX X σ (E σ))
    (line : eval (.Call (.Attribute o m apos) [] [] pos) X.env = (eval o X.env >>= fun ov => standAt apos.atName >>= fun _ => holding [ov] (getMethod ov m pl) >>= fun fm =>
      callWith pos fm.1 fm.2 (backTo pos (starEach [] X.env)) (backToKw pos (keywordEach [] X.env))) := by rfl) :
    PE X (.Call (.Attribute o m apos) [] [] pos) (tMethX C m sp E ta tNil) := by
  constructor
  intro pins s σ H Q I h
  refine PySem.W.methodCall_KW (pl := pl) (thn (ho.run pins s σ H _ I h) fun u st hh => ?_) line
  obtain ⟨x, H1, I1, rx, a, dx, fs, rfl, ha1, nl, q⟩ := hh
  obtain rfl : u = Value.ref a := rx
  refine getmeth_ok I1 ha1 cl hm nl ?_
  exact PySem.W.callWith_K0 (first := [.ref a]) I1.kIn hm.kp (run_fnS (us := [.ref a]) (vs := [.ref a]) F hr hb (hx σ) I1 (.cons rfl .nil) q)
end
end L2

/-! x in a list of texts, x of any kind. -/
namespace PySem.SeqAt
open AutoSeq1 (wpAny_loadPart')
open MeetsSeq
theorem sub_dict_str : isSubtype (.type "dict") (.type "str") = pure false := by
  rw [isSubtype_type]
  kernel_rfl
abbrev dO (es : Array DictEntry) (ep : Nat) (dd : Option Addr) (sl : Array (Option Value)) : Obj := { cls := .type "dict", dict := dd, data := .dict es ep, slots := sl }
theorem sub_str_dict : isSubtype (.type "str") (.type "dict") = pure false := by
  rw [isSubtype_type]
  kernel_rfl
theorem str_no_dict (b : Str) (u : Tok) (l : Addr) (es : Array DictEntry) (ep : Nat) (dd : Option Addr) (sl : Array (Option Value)) :
    Meets (Builtin.«str.__eq__» ⟨[.str b u, .ref l], []⟩) (fun _ R s => s.heap.get? l = some (dO es ep dd sl) ∧ R (.ok (.ret .notImplemented)) s) :=
  .of_wp fun prog w A R s h => by
    obtain ⟨hp, g, d, tk, os⟩ := s
    obtain ⟨ho, h⟩ := h
    have f2 := sub_dict_str
    wp_walk using wpAny_loadPart' ho, wpAny_load ho
    exact ⟨_, rfl, h⟩
theorem dict_no_str (b : Str) (u : Tok) (l : Addr) (es : Array DictEntry) (ep : Nat) (dd : Option Addr) (sl : Array (Option Value)) :
    Meets (Builtin.«dict.__eq__» ⟨[.ref l, .str b u], []⟩) (fun _ R s => s.heap.get? l = some (dO es ep dd sl) ∧ R (.ok (.ret .notImplemented)) s) :=
  .of_wp fun prog w A R s h => by
    obtain ⟨hp, g, d, tk, os⟩ := s
    obtain ⟨ho, h⟩ := h
    have f1 := sub_str_dict
    wp_walk using wpAny_loadPart' ho
    exact ⟨_, rfl, h⟩
section
variable {A : Around} {s : Shared}
theorem eq_str_dict {l : Addr} {es : Array DictEntry} {ep : Nat} {dd : Option Addr} {sl : Array (Option Value)} (b : Str) (u : Tok) (ho : s.heap.get? l = some (dO es ep dd sl)) (hu : A.units < cLine) : EqAt A s (.str b u) (.ref l) false := fun prog w E Q h => by
  unfold eqBool
  refine wpAny_holding (wpAny_ite_split (fun hab => absurd (eq_of_beq hab) nofun) (fun _ => wpAny_bind ?_))
  refine rc_eq_decline_or (k := false) (typeIs_str s b u) ⟨_, ho, rfl⟩ (by decide) sub_dict_str F.slot_str_eq F.slot_dict_eq_refl (fun _ hq => ?_) (fun _ hq => ?_) (fun _ hq => wpAny_of_eq (rfl : isSame (.str b u) (.ref l) = pure false) hq) (.inr hu) (wpAny_truthy_bool h)
  · exact call_meets F.slot_str_eq (typeIs_str s b u) F.entry_str_eq (F.args_str_eq_2 _ _) (str_no_dict b u l es ep dd sl) ⟨ho, hq⟩
  · exact call_meets F.slot_dict_eq_refl ⟨_, ho, rfl⟩ F.entry_dict_eq (F.args_dict_eq_2 _ _) (dict_no_str b u l es ep dd sl) ⟨ho, hq⟩
end
end PySem.SeqAt
namespace L2
open PySem PySem.Spec PyProof.Rows
/-- a text, a flat value, a list, a tuple, a dict -/
def AnyK (K : PySem.W.Frag) (H : Hp) : V → Prop
  | .ref a => (∃ xs, SqL K H a xs) ∨ (∃ xs, SqT K H a xs) ∨ ∃ kvs, H a = some (.dK kvs)
  | v => flatV v = true
theorem inV_ref (a : Addr) (l : List Str) : inV (.ref a) (l.map V.str) = false := by
  unfold inV
  rw [List.any_map, List.any_eq_false]
  intro x _
  show ¬ (false = true)
  exact Bool.false_ne_true
section
variable {X : Cx} {pins : List (Addr × Obj)} {σ : St} {H : Hp} {s : Shared}
theorem ref_eqAt {A : Around} (hu : A.units < cLine) {a : Addr} (I : Inv X pins σ H s) (k : AnyK X.K H (.ref a)) : ∀ {l : List Str} {us : List Value}, Vals (l.map V.str) us → ∀ u ∈ us, SeqAt.EqAt A s u (.ref a) (eqU (.ref a) u) := by
  intro l us r u hm
  obtain ⟨x, t, rfl⟩ : ∃ x t, u = Value.str x t := by
    clear k
    induction l generalizing us with
    | nil => cases r; cases hm
    | cons y l ih =>
      cases r with
      | cons r1 r2 =>
        rcases List.mem_cons.mp hm with rfl | hm
        · obtain ⟨t, rfl⟩ := r1; exact ⟨y, t, rfl⟩
        · exact ih r2 hm
  rcases k with ⟨xs, h⟩ | ⟨xs, h⟩ | ⟨kvs, h⟩
  · obtain ⟨its, _, pl, _⟩ := I.list h
    exact SeqAt.EqAt.str_list x t pl.isList hu
  · obtain ⟨its, _, pl, _⟩ := I.tuple h
    exact SeqAt.EqAt.str_tuple x t pl hu
  · obtain ⟨_, _, vs, _, o, es, ep, h1, h2, h3⟩ := (show ObjOk X.prog X.w H s.heap a (.dK kvs) from I.hok a _ h)
    obtain ⟨oc, od, dt, osl⟩ := o
    obtain ⟨c1, c2, c3⟩ := h2
    simp only at c1 c2 c3
    subst c1 c2 c3
    exact SeqAt.eq_str_dict (es := es) (ep := ep) (dd := none) (sl := #[]) x t (by rw [h1, show dt = Data.dict es ep from h3.1]) hu
end
/-- x in xs, xs a list or a tuple of texts -/
def rInA (K : PySem.W.Frag) (neg : Bool) : R2 := fun x y H Q => ∃ (p : Addr) (l : List Str), y = .ref p ∧ (SqL K H p (l.map V.str) ∨ SqT K H p (l.map V.str)) ∧ AnyK K H x ∧ Q (.bl (if neg then !inV x (l.map V.str) else inV x (l.map V.str))) H
theorem flat_strs (l : List Str) : (l.map V.str).all flatV = true := by
  rw [List.all_map, List.all_eq_true]
  intro x _; rfl
section
variable {X : Cx}
theorem any_ref {a : Addr} : ∀ {l : List Str} {us : List Value}, Vals (l.map V.str) us → us.any (eqU (.ref a)) = inV (.ref a) (l.map V.str) := fun {l us} r => any_eqU r (flat_strs l)
theorem op_inA (hu : X.A.units + 1 < cLine) : OpR X (compareOp .In) (rInA X.K false) := by
  intro pins s σ H x y v u Q I rx ry h
  obtain ⟨p, l, rfl, hq, k, q⟩ := h
  by_cases f : flatV x = true
  · exact op_in_seq pins s σ H x _ v u Q I rx ry ⟨p, _, rfl, hq, f, flat_strs l, q⟩
  · obtain ⟨a, rfl⟩ : ∃ a, x = .ref a := by
      cases x with
      | ref a => exact ⟨a, rfl⟩
      | _ => exact absurd k f
    cases rx
    cases ry
    rcases hq with hq | hq
    · obtain ⟨its, r, pl, hz⟩ := I.list hq
      refine SeqAt.in_listAt (eqU (.ref a)) pl.isList (fun w hw => ref_eqAt (A := X.A.in1) hu I k r w (by simpa using hw)) ⟨.bl _, H, I, rfl, ?_⟩
      rw [show its.toArray.any (eqU (.ref a)) = its.any (eqU (.ref a)) by simp, any_ref r]
      exact q
    · obtain ⟨its, r, pl, hz⟩ := I.tuple hq
      refine SeqAt.in_tupleAt (eqU (.ref a)) pl (fun w hw => ref_eqAt (A := X.A.in1) hu I k r w (by simpa using hw)) ⟨.bl _, H, I, rfl, ?_⟩
      rw [show its.toArray.any (eqU (.ref a)) = its.any (eqU (.ref a)) by simp, any_ref r]
      exact q
theorem op_notInA (hu : X.A.units + 1 < cLine) : OpR X (compareOp .NotIn) (rInA X.K true) := by
  intro pins s σ H x y v u Q I rx ry h
  obtain ⟨p, l, rfl, hq, k, q⟩ := h
  by_cases f : flatV x = true
  · exact op_notIn_seq pins s σ H x _ v u Q I rx ry ⟨p, _, rfl, hq, f, flat_strs l, q⟩
  · obtain ⟨a, rfl⟩ : ∃ a, x = .ref a := by
      cases x with
      | ref a => exact ⟨a, rfl⟩
      | _ => exact absurd k f
    cases rx
    cases ry
    rcases hq with hq | hq
    · obtain ⟨its, r, pl, hz⟩ := I.list hq
      refine SeqAt.notIn_listAt (eqU (.ref a)) pl.isList (fun w hw => ref_eqAt (A := X.A.in1) hu I k r w (by simpa using hw)) ⟨.bl _, H, I, rfl, ?_⟩
      rw [show its.toArray.any (eqU (.ref a)) = its.any (eqU (.ref a)) by simp, any_ref r]
      exact q
    · obtain ⟨its, r, pl, hz⟩ := I.tuple hq
      refine SeqAt.notIn_tupleAt (eqU (.ref a)) pl (fun w hw => ref_eqAt (A := X.A.in1) hu I k r w (by simpa using hw)) ⟨.bl _, H, I, rfl, ?_⟩
      rw [show its.toArray.any (eqU (.ref a)) = its.any (eqU (.ref a)) by simp, any_ref r]
      exact q
end
end L2

/-! list(d.values()) -/
namespace L2
open PySem PySem.Spec PyProof.Rows
def tListVals (te : TE) : TE := fun σ H Q => te σ H fun x H1 => ∃ d kvs, x = .ref d ∧ H1 d = some (.dK kvs) ∧ ∀ q, H1 q = none → Q (.ref q) (upd H1 q (.lst (kvs.map (·.2))))
theorem pe_listVals {X : Cx} {e : Expr} {te : TE} {p apos cpos pos : Pos} (hc : X.calm = true) (he : PE X e te) (hg : Gl X "list") (hm : X.mg "list" = none) (hv : bootBuiltins "list" = some (.type "list"))
    (base : attributeBase e "values" X.env (eval e X.env) = eval e X.env := by rfl) (line : (apos.endLine == cpos.line) = true := by rfl)
    (st : starEach [.Call (.Attribute e "values" apos) [] [] cpos] X.env = (false, eval (.Call (.Attribute e "values" apos) [] [] cpos) X.env) :: starEach [] X.env := by rfl) :
    PE X (.Call (.Name "list" p) [.Call (.Attribute e "values" apos) [] [] cpos] [] pos) (tListVals te) := by
  constructor
  intro pins s σ H Q I h
  refine wpAny_Call_Name_kw (ld_blt I hg hm hv (PyProof.Rows.callWith_type1 ?_ st rfl))
  rw [st]
  show wpAny _ _ (spliced ((false, eval (.Call (.Attribute e "values" apos) [] [] cpos) X.env) :: backTo pos (starEach [] X.env))) _ _ s
  refine Calls.spliced_cons (wpAny_Call_method (T := "dict") (id := "dict.values") base rfl line F.plainAttrs_dict F.slot_dict_values F.type_dict_values (thn (he.run pins s σ H _ I h) fun u s1 hh => ?_))
  obtain ⟨x, H1, I1, rx, d, kvs, rfl, hd, q⟩ := hh
  obtain rfl : u = Value.ref d := rx
  obtain ⟨hz, sys, vs, kv, hdo⟩ := I1.hok d _ hd
  obtain ⟨ep, hat⟩ := hdo.dictAt
  have lk : kvs.length = vs.length := Paired.length kv
  have I2 : Inv X pins σ H1 { s1 with heap := s1.heap.push { cls := .type "dict_values", data := .fields #[.ref d] } } := I1.kept (t' := s1.toks) fun b ob z => Heap.get?_push_of_some _ z
  refine ⟨hdo.typeIs, hdo.mapOf.noDict, ?_⟩
  show wpAny _ _ (callWith cpos (.builtin "dict.values") [.ref d] [] []) _ X.xe s1
  refine method_meetsIn F.slot_dict_values F.entry_dict_values rfl (PySem.evalArgs_none ⟨rfl, hdo.typeIs, F.args_dict_values_1 _, _, meets_dict_values (mixKind X.prog X.w) d sys, ⟨vs, hdo⟩, Calls.spliced_nil ?_⟩)
  refine PySem.W.kdl_call (PySem.W.kdl_values (knd := mixKind X.prog X.w) (kvs := vs) (ep := ep)) (I1.ok.hd hc) ⟨⟨_, Heap.get?_push_size _ rfl, rfl, rfl⟩, hat.push _⟩ (by rw [← lk]; exact hz) fun h' tk acc c keep hS hacc => ?_
  refine ⟨.ref _, _, I2.laid (t' := tk) (o := .lst (kvs.map (·.2))) keep (Nat.le_refl _) ⟨by rw [List.length_map]; exact hz, acc.toList, c, ?_, by rw [Array.toArray_toList]; exact hS⟩, rfl, q _ (I2.hok.fresh (Nat.le_refl _))⟩
  refine vals_of_at (by rw [List.length_map, lk]; have := hacc.1; simp [this]) fun j v w h1 h2 => ?_
  obtain ⟨k, hk⟩ := hacc.2 j w (by rw [← Array.getElem?_toList]; exact h2)
  rw [List.getElem?_map] at h1
  cases e2 : kvs[j]? with
  | none => rw [e2] at h1; cases h1
  | some pr =>
    rw [e2] at h1
    obtain ⟨y, g1, g2, g3⟩ := LiI.paired_get kv e2
    rw [hk] at g1
    cases g1
    cases (Option.some.inj h1)
    exact g3
end L2

/-! d.update(e) of two dicts -/
namespace L2
open PySem PySem.Spec PyProof.Rows
section
variable {X : Cx}
def rUpdK : V → List V → Hp → VK → Prop := fun x xs H Q => ∃ (a b : Addr) (kvs more : List (Key × V)), x = .ref a ∧ xs = [.ref b] ∧ H a = some (.dK kvs) ∧ H b = some (.dK more) ∧ a ≠ b ∧ kvs.length + more.length ≤ sizeLine ∧ Q .non (upd H a (.dK (mergeK kvs more)))
theorem mt_update : MtR X "dict.update" rUpdK := by
  intro pins s σ H x xs v us Q I rx rv h
  obtain ⟨a, b, kvs, more, rfl, rfl, ha, hb, ne, ln, q⟩ := h
  cases rx
  obtain ⟨u, rfl, ru⟩ := rv.one
  cases ru
  obtain ⟨z, hd, vs, rel, dd⟩ := dk_of I.hok ha
  obtain ⟨z2, hd2, vs2, rel2, dd2⟩ := dk_of I.hok hb
  refine call_meetsIn PySem.F.slot_dict_update dd.typeIs PySem.F.entry_dict_update (PySem.F.args_dict_update_2 _ _) (meets_dict_update (mixKind X.prog X.w) a b ne hd2)
    ⟨vs, vs2, dd, dd2, by rw [← rel.length, ← rel2.length]; exact ln, fun h' dd' _ hs => ?_⟩
  have he : ∃ q, h'.get? a = some q := let ⟨q, _, _, hq, _⟩ := dd'; ⟨q, hq⟩
  exact ⟨.non, _, d_write I (by rw [ha]; exact True.intro) hs he (dk_new (Nat.le_trans (length_mergeK more kvs) ln) hd (rel2.merge rel) dd'), rfl, q⟩
end
end L2

/-! dict(zip(a list of keys, a tuple)) -/
namespace L2
open PySem PySem.Spec PyProof.Rows
section
variable {prog : Program} {w : World} {A : Around} {E : Value → Shared → Prop} {s : Shared} {z TI TO T i1 i2 : Addr} {fp1 fp2 : List Addr} {n1 n2 i : Nat} {P1 P2 : Nat → Value → Prop} {St1 St2 : Nat → Heap → Prop} {f : Bool} {oT : Obj}
/-- the next pair, while the tuple of the one before is still out -/
theorem dz_item {Q : Value → Shared → Prop} (S : ZipSep2 z TI TO i1 i2 fp1 fp2) (D1 : Draws prog w A i1 fp1 n1 P1 St1) (D2 : Draws prog w A i2 fp2 n2 P2 St2) (hz : IsZipHeld s.heap z TI TO T f) (hT : s.heap.get? T = some oT)
    (hTI : IsTupOf2 s.heap TI (.ref i1) (.ref i2)) (st1 : St1 i s.heap) (st2 : St2 i s.heap) (l1 : i < n1) (l2 : i < n2)
    (hQ : ∀ x y h' tk, P1 i x → P2 i y → IsZipHeld h' z TI TO T true → St1 (i + 1) h' → St2 (i + 1) h' → IsTupOf2 h' s.heap.objs.size x y → (∀ c o, c ≠ z → c ≠ i1 → c ≠ i2 → s.heap.get? c = some o → h'.get? c = some o) → Q (.ref s.heap.objs.size) { s with heap := h', toks := tk }) :
    wpAny (model prog w) A (Builtin.«zip.__next__» ⟨[.ref z], []⟩) (fun fin s' => ∃ v, fin = .done (.ret v) ∧ Q v s') E s := by
  obtain ⟨hp, g, d, tk0, os⟩ := s
  show wpAny _ _ (field (.ref z) 2 >>= _) _ _ _
  refine wpAny_bind (wpAny_field hz rfl (x := .bool false) rfl ?_)
  show wpAny _ _ (field (.ref z) 3 >>= _) _ _ _
  refine wpAny_bind (wpAny_field hz rfl (x := .ref TI) rfl ?_)
  refine wpAny_bind (wpAny_seqItems hTI rfl ?_)
  show wpAny _ _ (Builtin.SmallTypes.ownedTupleIsFree (.ref z) >>= _) _ _ _
  refine wpAny_bind (wpAny_tupleHeld_zip hz hT fun g0 hz0 hs0 => ?_)
  replace hs0 : Heap.SameBut z hp g0 := hs0
  simp only [Bool.false_eq_true, if_false]
  refine wpAny_bind ?_
  rw [← Array.forIn_toList]
  simp only [List.forIn_cons, List.forIn_nil]
  refine wpAny_bind (wpAny_bind (wpAny_holding ?_))
  show wpAny _ _ (Builtin.SmallTypes.nextOf (.ref i1) >>= _) _ _ ⟨g0, g, d, tk0, os⟩
  refine wpAny_bind (D1.item i _ _ _ l1 (D1.over st1 hs0 S.zf1) fun x p1 tk1 hx1 sn1 hp1 => wpAny_pure ?_)
  replace hp1 : Heap.SameBut i1 g0 p1 := hp1
  refine wpAny_pure ?_
  refine wpAny_bind (wpAny_bind (wpAny_holding ?_))
  show wpAny _ _ (Builtin.SmallTypes.nextOf (.ref i2) >>= _) _ _ ⟨p1, g, d, tk1, os⟩
  refine wpAny_bind (D2.item i _ _ _ l2 (D2.over (D2.over st2 hs0 S.zf2) hp1 S.sep1_2) fun y p2 tk2 hx2 sn2 hp2 => wpAny_pure ?_)
  replace hp2 : Heap.SameBut i2 p1 p2 := hp2
  refine wpAny_pure (wpAny_pure ?_)
  show wpAny _ _ (newTuple [x, y] >>= _) _ _ ⟨p2, g, d, tk2, os⟩
  refine wpAny_bind (wpAny_newTuple ?_)
  have hsz : p2.objs.size = hp.objs.size := by rw [hp2.1, hp1.1, hs0.1]
  have zz : IsZipHeld p2 z TI TO T true := hp2.extBut _ _ S.zi2 (hp1.extBut _ _ S.zi1 hz0)
  have kk : ∀ c o, c ≠ z → c ≠ i1 → c ≠ i2 → hp.get? c = some o → p2.get? c = some o := fun c o c1 c2 c3 e => hp2.extBut _ _ c3 (hp1.extBut _ _ c2 (hs0.extBut _ _ c1 e))
  have up : ∀ c o, p2.get? c = some o → (p2.push { cls := .type "tuple", data := .seq #[x, y] }).get? c = some o := fun c o e => Heap.get?_push_of_some _ e
  have hj1 : St1 (i + 1) (p2.push { cls := .type "tuple", data := .seq #[x, y] }) := D1.frame _ _ _ (D1.over sn1 hp2 S.sep2_1) fun b _ o e => up b o e
  have hj2 : St2 (i + 1) (p2.push { cls := .type "tuple", data := .seq #[x, y] }) := D2.frame _ _ _ sn2 fun b _ o e => up b o e
  have tt : IsTupOf2 (p2.push { cls := .type "tuple", data := .seq #[x, y] }) p2.objs.size x y := Heap.get?_push_size _ rfl
  refine wpAny_pure ⟨_, rfl, ?_⟩
  show Q (.ref p2.objs.size) _
  rw [hsz] at tt ⊢
  exact hQ x y _ tk2 hx1 hx2 (up _ _ zz) hj1 hj2 tt fun c o c1 c2 c3 e => up c o (kk c o c1 c2 c3 e)
theorem dz_end {Q : Fin → Shared → Prop} (S : ZipSep2 z TI TO i1 i2 fp1 fp2) (D1 : Draws prog w A i1 fp1 n1 P1 St1) (D2 : Draws prog w A i2 fp2 n2 P2 St2) (hz : IsZipHeld s.heap z TI TO T f) (hT : s.heap.get? T = some oT)
    (hTI : IsTupOf2 s.heap TI (.ref i1) (.ref i2)) (st1 : St1 i s.heap) (st2 : St2 i s.heap) (l1 : i ≤ n1) (l2 : i ≤ n2) (le : i = n1 ∨ i = n2)
    (hE : ∀ h' tk e, (∀ c o, c ≠ z → c ≠ i1 → c ≠ i2 → s.heap.get? c = some o → h'.get? c = some o) → (∃ o, h'.get? e = some o ∧ o.cls = .type "StopIteration") → E (.ref e) { s with heap := h', toks := tk }) :
    wpAny (model prog w) A (Builtin.«zip.__next__» ⟨[.ref z], []⟩) Q E s := by
  obtain ⟨hp, g, d, tk0, os⟩ := s
  show wpAny _ _ (field (.ref z) 2 >>= _) _ _ _
  refine wpAny_bind (wpAny_field hz rfl (x := .bool false) rfl ?_)
  show wpAny _ _ (field (.ref z) 3 >>= _) _ _ _
  refine wpAny_bind (wpAny_field hz rfl (x := .ref TI) rfl ?_)
  refine wpAny_bind (wpAny_seqItems hTI rfl ?_)
  show wpAny _ _ (Builtin.SmallTypes.ownedTupleIsFree (.ref z) >>= _) _ _ _
  refine wpAny_bind (wpAny_tupleHeld_zip hz hT fun g0 hz0 hs0 => ?_)
  replace hs0 : Heap.SameBut z hp g0 := hs0
  simp only [Bool.false_eq_true, if_false]
  refine wpAny_bind ?_
  rw [← Array.forIn_toList]
  simp only [List.forIn_cons, List.forIn_nil]
  refine wpAny_bind (wpAny_bind (wpAny_holding ?_))
  show wpAny _ _ (Builtin.SmallTypes.nextOf (.ref i1) >>= _) _ _ ⟨g0, g, d, tk0, os⟩
  by_cases hlt1 : i < n1
  · refine wpAny_bind (D1.item i _ _ _ hlt1 (D1.over st1 hs0 S.zf1) fun x p1 tk1 hx1 sn1 hp1 => wpAny_pure ?_)
    replace hp1 : Heap.SameBut i1 g0 p1 := hp1
    refine wpAny_pure ?_
    have hi2 : i = n2 := by omega
    refine wpAny_bind (wpAny_bind (wpAny_holding ?_))
    show wpAny _ _ (Builtin.SmallTypes.nextOf (.ref i2) >>= _) _ _ ⟨p1, g, d, tk1, os⟩
    refine wpAny_bind (D2.done ⟨p1, g, d, tk1, os⟩ _ _ (by rw [← hi2]; exact (D2.over (D2.over st2 hs0 S.zf2) hp1 S.sep1_2)) fun q e hq he => ?_)
    replace hq : Heap.ExtBut i2 p1 q := hq
    exact hE q tk1 e (fun c o c1 c2 c3 x => hq _ _ c3 (hp1.extBut _ _ c2 (hs0.extBut _ _ c1 x))) he
  · have hi1 : i = n1 := by omega
    refine wpAny_bind (D1.done ⟨g0, g, d, tk0, os⟩ _ _ (by rw [← hi1]; exact (D1.over st1 hs0 S.zf1)) fun q e hq he => ?_)
    replace hq : Heap.ExtBut i1 g0 q := hq
    exact hE q tk0 e (fun c o c1 c2 c3 x => hq _ _ c2 (hs0.extBut _ _ c1 x)) he
theorem dzn_item {Q : Option Value → Shared → Prop} (S : ZipSep2 z TI TO i1 i2 fp1 fp2) (D1 : Draws prog w A.in1 i1 fp1 n1 P1 St1) (D2 : Draws prog w A.in1 i2 fp2 n2 P2 St2) (hz : IsZipHeld s.heap z TI TO T f) (hT : s.heap.get? T = some oT)
    (hTI : IsTupOf2 s.heap TI (.ref i1) (.ref i2)) (st1 : St1 i s.heap) (st2 : St2 i s.heap) (l1 : i < n1) (l2 : i < n2)
    (hQ : ∀ x y h' tk, P1 i x → P2 i y → IsZipHeld h' z TI TO T true → St1 (i + 1) h' → St2 (i + 1) h' → IsTupOf2 h' s.heap.objs.size x y → (∀ c o, c ≠ z → c ≠ i1 → c ≠ i2 → s.heap.get? c = some o → h'.get? c = some o) → Q (some (.ref s.heap.objs.size)) { s with heap := h', toks := tk }) :
    wpAny (model prog w) A (pyNext (.ref z)) Q E s := by
  have hTy : s.TypeIs (.ref z) "zip" := ⟨_, hz, rfl⟩
  unfold pyNext
  exact wpAny_bind (wpAny_attempt (wpAny_callSpecial?_slot (name := Str.ofString "__next__") hTy F.slot_zip_next (wpAny_call_entry F.slot_zip_next hTy F.entry_zip_next
    (dz_item S D1 D2 hz hT hTI st1 st2 l1 l2 fun x y h' tk a1 a2 a3 a4 a5 a6 a7 => wpAny_pure (hQ x y h' tk a1 a2 a3 a4 a5 a6 a7)) (F.args_zip_next_1 _))))
theorem dzn_end {Q : Option Value → Shared → Prop} (S : ZipSep2 z TI TO i1 i2 fp1 fp2) (D1 : Draws prog w A.in1 i1 fp1 n1 P1 St1) (D2 : Draws prog w A.in1 i2 fp2 n2 P2 St2) (hz : IsZipHeld s.heap z TI TO T f) (hT : s.heap.get? T = some oT)
    (hTI : IsTupOf2 s.heap TI (.ref i1) (.ref i2)) (st1 : St1 i s.heap) (st2 : St2 i s.heap) (l1 : i ≤ n1) (l2 : i ≤ n2) (le : i = n1 ∨ i = n2)
    (hQ : ∀ h' tk, (∀ c o, c ≠ z → c ≠ i1 → c ≠ i2 → s.heap.get? c = some o → h'.get? c = some o) → Q none { s with heap := h', toks := tk }) : wpAny (model prog w) A (pyNext (.ref z)) Q E s := by
  have hTy : s.TypeIs (.ref z) "zip" := ⟨_, hz, rfl⟩
  unfold pyNext
  refine wpAny_bind (wpAny_attempt (wpAny_callSpecial?_slot (name := Str.ofString "__next__") hTy F.slot_zip_next (wpAny_call_entry F.slot_zip_next hTy F.entry_zip_next
    (dz_end S D1 D2 hz hT hTI st1 st2 l1 l2 le fun h' tk e hk he => ?_) (F.args_zip_next_1 _))))
  obtain ⟨o, ho, hc⟩ := he
  refine wpAny_bind (wpAny_isInstance (T := "StopIteration") (b := true) ⟨o, ho, hc⟩ isSubtype_stop ?_)
  exact wpAny_pure (hQ _ _ hk)
/-- what stands of a zip of a list and a tuple -/
def DzSt (z TI TO i1 i2 a b : Addr) (xs ys : Array Value) (d : Addr) (i : Nat) (h : Heap) : Prop :=
  IsTupOf2 h TI (.ref i1) (.ref i2) ∧ (h.IsListIter i1 a i ∧ h.IsList a xs) ∧ (h.IsTupleIter i2 b i ∧ h.IsTuple b ys) ∧
  ((IsZip h z TI TO .none ∧ ∃ u v, IsTupOf2 h TO u v) ∨ ∃ T f oT, IsZipHeld h z TI TO T f ∧ h.get? T = some oT ∧ T ≠ z ∧ T ≠ i1 ∧ T ≠ i2 ∧ T ≠ d)
def DzOk (z TI TO i1 i2 a b : Addr) (xs ys : Array Value) (h : Heap) : Prop :=
  (IsZip h z TI TO .none ∧ ∃ u v, IsTupOf2 h TO u v) ∧ IsTupOf2 h TI (.ref i1) (.ref i2) ∧ (h.IsListIter i1 a 0 ∧ h.IsList a xs) ∧ (h.IsTupleIter i2 b 0 ∧ h.IsTuple b ys)
theorem pa_zipLT (D : ZipSep2 z TI TO i1 i2 [i1, a] [i2, b]) (nea : a ≠ i1) (neb : b ≠ i2) (xs ys : Array Value) :
    PairArg prog w "zip" z [z, TI, TO, i1, i2, a, b] [z, TO, i1, i2] (min xs.size ys.size) (fun i k v => xs[i]? = some k ∧ ys[i]? = some v) (DzOk z TI TO i1 i2 a b xs ys) where
  type := fun s ok => ⟨_, ok.1.1, rfl⟩
  notDict := by decide
  keep := fun h h' ok hk => by
    obtain ⟨⟨hz, u, v, hTO⟩, hTI, ⟨h1, hl1⟩, h2, hl2⟩ := ok
    exact ⟨⟨hk _ _ hz, u, v, hk _ _ hTO⟩, hk _ _ hTI, ⟨h1.at fun o e => hk _ o e, hl1.at fun o e => hk _ o e⟩, h2.at fun o e => hk _ o e, hl2.at fun o e => hk _ o e⟩
  there := fun h ok c hc => by
    obtain ⟨⟨hz, u, v, hTO⟩, hTI, ⟨⟨o1, h1, _⟩, ⟨o3, hl1, _⟩⟩, ⟨o2, h2, _⟩, ⟨o4, hl2, _⟩⟩ := ok
    rcases (by simpa using hc : c = z ∨ c = TI ∨ c = TO ∨ c = i1 ∨ c = i2 ∨ c = a ∨ c = b) with q | q | q | q | q | q | q <;> rw [q]
    · exact ⟨_, hz⟩
    · exact ⟨_, hTI⟩
    · exact ⟨_, hTO⟩
    · exact ⟨_, h1⟩
    · exact ⟨_, h2⟩
    · exact ⟨_, hl1⟩
    · exact ⟨_, hl2⟩
  sub := fun c hc => by simp at hc ⊢; rcases hc with rfl | rfl | rfl | rfl <;> simp
  noKeys := fun A s Q E hA ok h => getAttrOr_miss_zip ok.1.1 rfl rfl rfl zip_no_keys (by decide +kernel) hA h
  iter := fun A s d Q E hA ok hd hdf h => by
    obtain ⟨⟨hz, u0, v0, hTO⟩, hTI, h1, h2⟩ := ok
    simp only [List.mem_cons, List.not_mem_nil, or_false, not_or] at hdf
    obtain ⟨dz, dTI, dTO, di1, di2, da, db⟩ := hdf
    refine wpAny_pyIter_zip hz (h z [z, TO, i1, i2] (DzSt z TI TO i1 i2 a b xs ys d) s.heap s.toks ?_ ⟨hTI, h1, h2, .inl ⟨hz, u0, v0, hTO⟩⟩ (fun _ _ e => e) fun b hb => .inl hb)
    have hA1 : A.in1.handled = none := hA
    have az : a ≠ z := fun q => D.zf1 (by rw [← q]; simp)
    have bz : b ≠ z := fun q => D.zf2 (by rw [← q]; simp)
    have aT : a ≠ TO := fun q => D.Tf1 (by rw [← q]; simp)
    have bT : b ≠ TO := fun q => D.Tf2 (by rw [← q]; simp)
    exact {
      off := fun hm => by
        rcases (by simpa using hm : d = z ∨ d = TO ∨ d = i1 ∨ d = i2) with e | e | e | e
        · exact dz e
        · exact dTO e
        · exact di1 e
        · exact di2 e
      frame := fun i g1 g2 st hk => by
        obtain ⟨hTI, ⟨h1, hl1⟩, ⟨h2, hl2⟩, hz⟩ := st
        refine ⟨hk _ _ (Ne.symm dTI) hTI, ⟨h1.at fun o e => hk _ o (Ne.symm di1) e, hl1.at fun o e => hk _ o (Ne.symm da) e⟩, ⟨h2.at fun o e => hk _ o (Ne.symm di2) e, hl2.at fun o e => hk _ o (Ne.symm db) e⟩, ?_⟩
        rcases hz with ⟨hz, u, v, hTO⟩ | ⟨T, f, oT, hz, hT, r1, r2, r3, r4⟩
        · exact .inl ⟨hk _ _ (Ne.symm dz) hz, u, v, hk _ _ (Ne.symm dTO) hTO⟩
        · exact .inr ⟨T, f, oT, hk _ _ (Ne.symm dz) hz, hk _ _ r4 hT, r1, r2, r3, r4⟩
      item := fun i s1 Q1 E1 hi st hds hQ => by
        obtain ⟨hTI, h1, h2, hz⟩ := st
        have lx : i < xs.size := Nat.lt_of_lt_of_le hi (Nat.min_le_left ..)
        have ly : i < ys.size := Nat.lt_of_lt_of_le hi (Nat.min_le_right ..)
        have gt : ∀ {c o}, s1.heap.get? c = some o → s1.heap.objs.size ≠ c := fun e => Nat.ne_of_gt (Heap.lt_size e)
        have n1 : s1.heap.objs.size ≠ i1 := let ⟨_, e, _⟩ := h1.1; gt e
        have n2 : s1.heap.objs.size ≠ i2 := let ⟨_, e, _⟩ := h2.1; gt e
        rcases hz with ⟨hz, u, v, hTO⟩ | ⟨T, f, oT, hz, hT, r1, r2, r3, r4⟩
        · refine wpAny_pyNext_zipD2_item D (Draws.list hA1 i1 a nea xs) (Draws.tuple hA1 i2 b neb ys) hz hTI hTO h1 h2 lx ly fun v1 v2 h' tk e1 e2 z' TO' t1 t2 hT hsz hk => ?_
          exact hQ s1.heap.objs.size v1 v2 h' tk ⟨e1, e2⟩ (.inl ⟨_, hT, rfl, _, rfl⟩) ⟨hk _ _ D.TIz D.TITO D.TIi1 D.TIi2 hTI, t1, t2, .inr ⟨s1.heap.objs.size, false, _, z', hT, gt hz, n1, n2, Nat.ne_of_gt hds⟩⟩
            fun c o hc e => hk c o (fun x => hc (by simp [x])) (fun x => hc (by simp [x])) (fun x => hc (by simp [x])) (fun x => hc (by simp [x])) e
        · refine dzn_item D (Draws.list hA1 i1 a nea xs) (Draws.tuple hA1 i2 b neb ys) hz hT hTI h1 h2 lx ly fun v1 v2 h' tk e1 e2 z' t1 t2 hT2 hk => ?_
          exact hQ s1.heap.objs.size v1 v2 h' tk ⟨e1, e2⟩ (.inl ⟨_, hT2, rfl, _, rfl⟩) ⟨hk _ _ D.TIz D.TIi1 D.TIi2 hTI, t1, t2, .inr ⟨T, true, oT, z', hk _ _ r1 r2 r3 hT, r1, r2, r3, r4⟩⟩
            fun c o hc e => hk c o (fun x => hc (by simp [x])) (fun x => hc (by simp [x])) (fun x => hc (by simp [x])) e
      done := fun s1 Q1 E1 st hQ => by
        obtain ⟨hTI, h1, h2, hz⟩ := st
        have le : min xs.size ys.size = xs.size ∨ min xs.size ys.size = ys.size := by omega
        rcases hz with ⟨hz, u, v, hTO⟩ | ⟨T, f, oT, hz, hT, r1, r2, r3, r4⟩
        · exact wpAny_pyNext_zipD2_end D (Draws.list hA1 i1 a nea xs) (Draws.tuple hA1 i2 b neb ys) hz hTI hTO h1 h2 (by omega) (by omega) le fun h' tk hk => hQ h' tk fun c o hc e =>
            hk c o (fun x => hc (by simp [x])) (fun x => hc (by simp [x])) (fun x => hc (by simp [x])) (fun x => hc (by simp [x])) e
        · exact dzn_end D (Draws.list hA1 i1 a nea xs) (Draws.tuple hA1 i2 b neb ys) hz hT hTI h1 h2 (by omega) (by omega) le fun h' tk hk => hQ h' tk fun c o hc e => hk c o (fun x => hc (by simp [x])) (fun x => hc (by simp [x])) (fun x => hc (by simp [x])) e }
end
/-! ### the rule -/
section
variable {X : Cx}
theorem vals_at {l : List Key} {us : List Value} {P : Program} {w : World} (r : Vals (l.map kV) us) {i : Nat} {k : Value} (e : us[i]? = some k) : ∃ y, l[i]? = some y ∧ keyIs y k = true := by
  induction l generalizing us i with
  | nil => cases r; simp at e
  | cons y t ih =>
    cases r with
    | cons h r2 =>
      cases i with
      | zero =>
        simp at e
        subst e
        exact ⟨y, rfl, kV_is (P := P) (w := w) h⟩
      | succ i =>
        obtain ⟨y', e', h'⟩ := ih r2 (i := i) (by simpa using e)
        exact ⟨y', by simpa using e', h'⟩
theorem kv_zip : ∀ {ks : List Key} {ys : List V} {us : List Value}, Vals ys us → KV (ks.zip ys) (ks.zip us)
  | [], _, _, _ => .nil
  | _ :: _, _, _, .nil => .nil
  | _ :: _, _, _, .cons h t => .cons ⟨rfl, h⟩ (kv_zip t)
def tDictZip (K : PySem.W.Frag) (ta : TA) : TE := fun σ H Q => ta σ H fun vs H1 => ∃ (a b : Addr) (ks : List Key) (ys : List V), vs = [.ref a, .ref b] ∧ SqL K H1 a (ks.map kV) ∧ SqT K H1 b ys ∧ ∀ q, H1 q = none → Q (.ref q) (upd H1 q (.dK (mergeK [] (ks.zip ys))))
theorem pe_dictZip {e e2 : Expr} {ta : TA} {p p2 pos pos2 : Pos} (hcalm : X.calm = true) (hgd : Gl X "dict") (hmd : X.mg "dict" = none) (hvd : bootBuiltins "dict" = some (.type "dict")) (hgz : Gl X "zip") (hmz : X.mg "zip" = none) (ha : PA X [e, e2] ta)
    (hs : starEach [e, e2] X.env = (false, eval e X.env) :: starEach [e2] X.env := by rfl) (hpl : (backTo pos2 (starEach [e2] X.env)).any (·.1) = false := by rfl)
    (st : starEach [.Call (.Name "zip" p2) [e, e2] [] pos2] X.env = (false, eval (.Call (.Name "zip" p2) [e, e2] [] pos2) X.env) :: starEach [] X.env := by rfl) :
    PE X (.Call (.Name "dict" p) [.Call (.Name "zip" p2) [e, e2] [] pos2] [] pos) (tDictZip X.K ta) := by
  constructor
  intro pins s σ H Q I h
  refine wpAny_Call_Name_kw (ld_blt I hgd hmd hvd (PyProof.Rows.callWith_type1 ?_ st rfl))
  rw [st]
  show wpAny _ _ (spliced ((false, eval (.Call (.Name "zip" p2) [e, e2] [] pos2) X.env) :: backTo pos (starEach [] X.env))) _ _ s
  refine Calls.spliced_cons (Call_ (ld_blt I hgz hmz PyProof.Rows.boot_zip (PyProof.Rows.callWith_type1 (thn (ha.run pos2 pins s σ H _ I h) fun us s1 ⟨vs, H1, I1, r1, a, b, ks, ys, ex, hqx, hqy, q⟩ => ?_) hs hpl)))
  subst ex
  cases r1 with
  | cons r rr =>
    cases rr with
    | cons r' rr =>
      cases rr
      cases r
      cases r'
      obtain ⟨its, rv, pl, hz1⟩ := I1.list hqx
      obtain ⟨its2, rv2, tp, hz2⟩ := I1.tuple hqy
      have la : a < s1.heap.objs.size := pl.lt
      have lb : b < s1.heap.objs.size := tp.lt
      refine zip_begins2 (begins_list a its.toArray) (begins_tuple b its2.toArray) pl.isList tp fun h' hz hTI hTO h1 h2 hsz hk => ?_
      refine Calls.spliced_nil ?_
      have A : ∀ k : Nat, s1.heap.objs.size + k ≠ a := fun k => Nat.ne_of_gt (Nat.lt_of_lt_of_le la (Nat.le_add_right _ _))
      have B : ∀ k : Nat, s1.heap.objs.size + k ≠ b := fun k => Nat.ne_of_gt (Nat.lt_of_lt_of_le lb (Nat.le_add_right _ _))
      have C : ∀ j k : Nat, j ≠ k → s1.heap.objs.size + j ≠ s1.heap.objs.size + k := fun j k hjk z => hjk (Nat.add_left_cancel z)
      have N2 : ∀ {x y c : Nat}, c ≠ x → c ≠ y → c ∉ [x, y] := fun h1 h2 hm => by
        rcases List.mem_cons.mp hm with q | q
        · exact h1 q
        · exact h2 (List.mem_singleton.mp q)
      have D : ZipSep2 (s1.heap.objs.size + 4) (s1.heap.objs.size + 2) (s1.heap.objs.size + 3) s1.heap.objs.size (s1.heap.objs.size + 1) [s1.heap.objs.size, a] [s1.heap.objs.size + 1, b] :=
        ⟨C 2 4 (by decide), C 3 4 (by decide), C 2 3 (by decide), C 2 0 (by decide), List.mem_cons_self, N2 (C 4 0 (by decide)) (A 4), N2 (C 3 0 (by decide)) (A 3), C 2 1 (by decide), List.mem_cons_self, N2 (C 4 1 (by decide)) (B 4), N2 (C 3 1 (by decide)) (B 3), N2 (C 0 1 (by decide)) (B 0), N2 (C 1 0 (by decide)) (A 1)⟩
      have hge : s1.heap.objs.size ≤ h'.objs.size := by omega
      have n1 := rv.length
      have n2 := rv2.length
      rw [List.length_map] at n1
      have hln : (mergeK [] (ks.zip ys)).length ≤ sizeLine := by
        refine Nat.le_trans (length_mergeK (ks.zip ys) []) ?_
        rw [List.length_nil, Nat.zero_add, List.length_zip]
        rw [List.length_map] at hz1
        exact Nat.le_trans (Nat.min_le_left _ _) hz1
      refine PySem.call_dict_pairs (knd := mixKind X.prog X.w) (kvs := ks.zip its2) (s := { s1 with heap := h' }) (pa_zipLT D (Ne.symm (A 0)) (Ne.symm (B 1)) its.toArray its2.toArray) (I1.ok.hd hcalm)
        ⟨⟨hz, _, _, hTO⟩, hTI, ⟨⟨_, h1, rfl, rfl⟩, pl.isList.at fun o e => hk _ _ e⟩, ⟨_, h2, rfl, rfl⟩, let ⟨o, ho, r⟩ := tp; ⟨o, hk _ _ ho, r⟩⟩ ⟨?_, fun i k v hkv => ?_⟩ ?_ fun h'' tk hd' k => ?_
      · rw [List.length_zip]; simp [n1]
      · obtain ⟨e1, e2⟩ := hkv
        obtain ⟨y, ey, hy⟩ := vals_at (P := X.prog) (w := X.w) rv (by simpa using e1)
        exact ⟨y, List.getElem?_zip_eq_some.mpr ⟨ey, by simpa using e2⟩, hy⟩
      · simp
        rw [List.length_map] at hz1
        rw [← n1]
        exact Nat.le_trans (Nat.min_le_left _ _) hz1
      · have hm : (h'.objs.size == sysModules) = false := beq_eq_false_iff_ne.mpr (Nat.ne_of_gt (Nat.lt_of_lt_of_le I1.big hge))
        have kk : ∀ c o, s1.heap.get? c = some o → h''.get? c = some o := fun c o e => k c o (fun hm => by
          have lc := Heap.lt_size e
          rcases (by simpa using hm : c = s1.heap.objs.size + 4 ∨ c = s1.heap.objs.size + 3 ∨ c = s1.heap.objs.size ∨ c = s1.heap.objs.size + 1) with z | z | z | z <;> exact absurd lc (by rw [z]; exact Nat.not_lt.mpr (by first | exact Nat.le_refl _ | exact Nat.le_add_right _ _))) (hk c o e)
        exact ⟨.ref h'.objs.size, upd H1 h'.objs.size (.dK (mergeK [] (ks.zip ys))), I1.laid (t' := tk) kk hge (show ObjOk X.prog X.w _ _ _ (.dK (mergeK [] (ks.zip ys))) from ⟨hln, hm, merged [] (ks.zip its2), KV.merge (kv_zip rv2) .nil, hd'⟩), rfl, q _ (I1.hok.fresh hge)⟩
end
end L2

/-! len(set(a list of ints)) -/
namespace L2
open PySem PySem.Spec PyProof.Rows
theorem met_one {ns : List Int} (h : (PyProof.Rows.firstMet (fun i => ns.getD i 0) ns.length).length = 1) : ∀ i ∈ ns, ∀ j ∈ ns, i = j := by
  obtain ⟨x, ex⟩ := List.length_eq_one_iff.mp h
  have key : ∀ k ∈ ns, k = x := fun k hk => by
    obtain ⟨m, hm⟩ := List.mem_iff_getElem?.mp hk
    obtain ⟨lm, em⟩ := List.getElem?_eq_some_iff.mp hm
    have a := PyProof.Rows.firstMet_any (fun i => ns.getD i 0) ns.length k
    rw [ex] at a
    have b : ((List.range ns.length).map fun i => ns.getD i 0).any (· == k) = true := by
      rw [List.any_eq_true]
      refine ⟨k, List.mem_map.mpr ⟨m, List.mem_range.mpr lm, ?_⟩, by simp⟩
      show ns.getD m 0 = k
      rw [List.getD_eq_getElem?_getD, hm]; rfl
    rw [b] at a
    have : (x == k) = true := by simpa using a
    exact (eq_of_beq this).symm
  exact fun i hi j hj => (key i hi).trans (key j hj).symm
def tLenSet (K : PySem.W.Frag) (ta : TA) : TE := fun σ H Q => ta σ H fun vs H1 => ∃ (a : Addr) (ns : List Int), vs = [.ref a] ∧ SqL K H1 a (ns.map V.int) ∧ ns.length < 1000 ∧ ∀ n : Nat, (n = 1 → ∀ i ∈ ns, ∀ j ∈ ns, i = j) → Q (.int (n : Nat)) H1
theorem pe_lenSet {X : Cx} {e : Expr} {ta : TA} {p p2 pos pos2 : Pos} (hcalm : X.calm = true) (hgl : Gl X "len") (hml : X.mg "len" = none) (hvl : bootBuiltins "len" = some (.builtin "len")) (hgs : Gl X "set") (hms : X.mg "set" = none) (hvs : bootBuiltins "set" = some (.type "set")) (ha : PA X [e] ta)
    (hs : starEach [e] X.env = (false, eval e X.env) :: starEach [] X.env := by rfl)
    (st : starEach [.Call (.Name "set" p2) [e] [] pos2] X.env = (false, eval (.Call (.Name "set" p2) [e] [] pos2) X.env) :: starEach [] X.env := by rfl) :
    PE X (.Call (.Name "len" p) [.Call (.Name "set" p2) [e] [] pos2] [] pos) (tLenSet X.K ta) := by
  constructor
  intro pins s σ H Q I h
  refine wpAny_Call_Name_kw (ld_blt I hgl hml hvl (PyProof.Rows.callWith_builtin1 ?_ st rfl))
  rw [st]
  show wpAny _ _ (spliced ((false, eval (.Call (.Name "set" p2) [e] [] pos2) X.env) :: backTo pos (starEach [] X.env))) _ _ s
  refine Calls.spliced_cons (wpAny_Call_Name_kw (ld_blt I hgs hms hvs (PyProof.Rows.callWith_type1 (thn (ha.run pos2 pins s σ H _ I h) fun us s1 ⟨vs, H1, I1, r1, q1⟩ => ?_) hs rfl)))
  obtain ⟨a, ns, ex, hq, hl, q⟩ := q1
  subst ex
  obtain ⟨u, eu, rx⟩ := vals1 r1
  subst eu
  cases rx
  obtain ⟨its, rv, pl, hz⟩ := I1.list hq
  have i1 : PyProof.Rows.IntsAre its.toArray.toList ns := intsAre_of rv
  have n1 := rv.length
  rw [List.length_map] at n1
  have esz : its.toArray.size = ns.length := by simp [n1]
  refine PySem.call_set_list (I1.ok.hd hcalm) pl.isList i1 (by rw [esz]; exact Nat.lt_trans (Nat.succ_lt_succ hl) (by decide)) fun h' tk hset hk => Calls.spliced_nil ?_
  rw [esz] at hset
  obtain ⟨o, es, ep, t, ho, hex, hd, _, _, hsb, hf, hn⟩ := hset
  have hfl := PyProof.Rows.firstMet_length_le (fun i => ns.getD i 0) ns.length
  refine call_len_set ho hex hd hf (by rw [hn]; omega) ?_
  rw [hn]
  exact ⟨.int _, H1, I1.kept (t' := tk + 1 + 1) fun b u z => hk b u (Heap.lt_size z) z, ⟨_, rfl⟩, q _ fun e => met_one e⟩
end L2

/-! shapes: what data a value stands for, apart from the places that are being changed -/
namespace L2
open PySem PySem.Spec PyProof.Rows
/-- what is reached stands at places of W -/
structure Sh (α : Type) where
  r : (Addr → Prop) → Hp → V → α → Prop
  mv : ∀ {W W' : Addr → Prop} {H H' : Hp} {v : V} {x : α}, r W H v x → (∀ a o, W a → H a = some o → H' a = some o ∧ W' a) → r W' H' v x
/-- apart from the places of M -/
abbrev Sh.at {α : Type} (s : Sh α) (M : List Addr) (H : Hp) (v : V) (x : α) : Prop := s.r (fun a => a ∉ M) H v x
/-- nothing is lost; what is not of m stays -/
def Stp (m : List Addr) (H H' : Hp) : Prop := ∀ a o, H a = some o → (∃ o', H' a = some o') ∧ (a ∉ m → H' a = some o)
def Alv (M : List Addr) (H : Hp) : Prop := ∀ a ∈ M, ∃ o, H a = some o
/-- each of m is of M or not there -/
def Sb (m M : List Addr) (H : Hp) : Prop := ∀ a ∈ m, a ∈ M ∨ H a = none
section
variable {m m' M M' : List Addr} {H H1 H2 : Hp} {a b p : Addr} {o : HO}
theorem Sb.refl : Sb M M H := fun _ h => .inl h
theorem Sb.nil : Sb [] M H := fun _ h => by cases h
theorem Sb.new (h : H p = none) (s : Sb m M H) : Sb (p :: m) M H := fun a ha => (List.mem_cons.mp ha).elim (fun e => .inr (e ▸ h)) (s a)
theorem Sb.mem (h : p ∈ M) (s : Sb m M H) : Sb (p :: m) M H := fun a ha => (List.mem_cons.mp ha).elim (fun e => .inl (e ▸ h)) (s a)
theorem Sb.one (h : p ∈ M) : Sb [p] M H := Sb.mem h Sb.nil
theorem Sb.more (s : Sb m M H) : Sb m (p :: M) H := fun a ha => (s a ha).imp (List.mem_cons_of_mem _) id
theorem Sb.cons (s : Sb m M H) : Sb (p :: m) (p :: M) H := fun a ha => (List.mem_cons.mp ha).elim (fun e => .inl (by rw [e]; exact List.mem_cons_self)) fun h => (s a h).imp (fun z => List.mem_cons_of_mem _ z) id
theorem Stp.refl : Stp m H H := fun a o h => ⟨⟨o, h⟩, fun _ => h⟩
theorem Stp.trans (x : Stp m H H1) (y : Stp m H1 H2) : Stp m H H2 := fun a o h => by
  obtain ⟨⟨o1, h1⟩, k1⟩ := x a o h
  exact ⟨(y a o1 h1).1, fun n => (y a o (k1 n)).2 n⟩
theorem Stp.wk (x : Stp m H H1) (s : Sb m m' H) : Stp m' H H1 := fun a o h => ⟨(x a o h).1, fun n => (x a o h).2 fun hm => (s a hm).elim n fun e => by rw [h] at e; cases e⟩
theorem Stp.same (x : Stp [] H H1) : Same H H1 := fun a o h => (x a o h).2 (by simp)
theorem Stp.of_same (x : Same H H1) : Stp m H H1 := fun a o h => ⟨⟨o, x a o h⟩, fun _ => x a o h⟩
theorem Stp.new (h : H p = none) : Stp m H (upd H p o) := Stp.of_same fun a u e => by rw [upd_ne (ne_of_none e h)]; exact e
theorem Stp.at (x : Stp m H H1) (h : H a = some o) (n : a ∉ m) : H1 a = some o := (x a o h).2 n
theorem Stp.put (h : p ∈ m) : Stp m H (upd H p o) := fun a u e => by
  by_cases ea : a = p
  · subst ea
    exact ⟨⟨o, upd_same⟩, fun n => absurd h n⟩
  · rw [upd_ne ea]; exact ⟨⟨u, e⟩, fun _ => e⟩
/-- a place that was not there may be written -/
theorem Stp.putN (x : Stp m H H1) (h : H p = none) : Stp m H (upd H1 p o) := fun a u e => by
  have ea : a ≠ p := ne_of_none e h
  rw [upd_ne ea]; exact x a u e
theorem Stp.none (x : Stp m H H1) (h : H1 a = none) : H a = none := by
  cases e : H a with
  | none => rfl
  | some o => obtain ⟨⟨o', h'⟩, _⟩ := x a o e; rw [h] at h'; cases h'
theorem Alv.nil : Alv [] H := fun _ h => by cases h
theorem Alv.cons (h : H p = some o) (s : Alv M H) : Alv (p :: M) H := fun a ha => (List.mem_cons.mp ha).elim (fun e => ⟨o, e ▸ h⟩) (s a)
theorem Alv.go (s : Alv M H) (x : Stp m H H1) : Alv M H1 := fun a ha => by
  obtain ⟨o, h⟩ := s a ha
  exact (x a o h).1
/-- a new place is not of M -/
theorem Alv.off (s : Alv M H) (h : H p = none) : p ∉ M := fun hm => by
  obtain ⟨o, e⟩ := s p hm
  rw [h] at e; cases e
theorem Alv.ne (s : Alv M H) (h : H p = none) (ha : a ∈ M) : a ≠ p := fun e => s.off h (e ▸ ha)
end
section
variable {α β γ : Type} {s : Sh α} {t : Sh β} {u : Sh γ} {m m' M M' : List Addr} {H H1 H2 : Hp} {a b p : Addr} {o : HO} {v w : V} {x : α} {y : β}
/-- carried over -/
theorem Sh.go (h : s.at M H v x) (st : Stp m H H1) (hm : Sb m M H) (hM : Sb M' M H) : s.at M' H1 v x := s.mv h fun a o n e =>
  ⟨(st a o e).2 fun hh => (hm a hh).elim n fun z => (by rw [e] at z; cases z), fun hh => (hM a hh).elim n fun z => (by rw [e] at z; cases z)⟩
theorem Sh.gos {vs : List V} {xs : List α} (h : Paired (s.at M H) vs xs) (st : Stp m H H1) (hm : Sb m M H) (hM : Sb M' M H) : Paired (s.at M' H1) vs xs := Paired.mapP h fun _ _ z => Sh.go z st hm hM
def sInt : Sh Int := ⟨fun _ _ v x => v = .int x, fun h _ => h⟩
def sStr : Sh Str := ⟨fun _ _ v x => v = .str x, fun h _ => h⟩
def sBl : Sh Bool := ⟨fun _ _ v x => v = .bl x, fun h _ => h⟩
/-- any value without an object -/
def sV : Sh V := ⟨fun _ _ v x => v = x ∧ ∀ a, x ≠ .ref a, fun h _ => h⟩
def sL (s : Sh α) : Sh (List α) := ⟨fun W H v xs => ∃ a vs, v = .ref a ∧ W a ∧ H a = some (.lst vs) ∧ Paired (s.r W H) vs xs, fun ⟨a, vs, e, w, h, p⟩ k => ⟨a, vs, e, (k _ _ w h).2, (k _ _ w h).1, Paired.mapP p fun _ _ z => s.mv z k⟩⟩
def sT (s : Sh α) : Sh (List α) := ⟨fun W H v xs => ∃ a vs, v = .ref a ∧ W a ∧ H a = some (.tup vs) ∧ Paired (s.r W H) vs xs, fun ⟨a, vs, e, w, h, p⟩ k => ⟨a, vs, e, (k _ _ w h).2, (k _ _ w h).1, Paired.mapP p fun _ _ z => s.mv z k⟩⟩
/-- a list or a tuple -/
def sQ (s : Sh α) : Sh (List α) := ⟨fun W H v xs => ∃ a vs, v = .ref a ∧ W a ∧ (H a = some (.lst vs) ∨ H a = some (.tup vs)) ∧ Paired (s.r W H) vs xs, fun ⟨a, vs, e, w, h, p⟩ k => ⟨a, vs, e, h.elim (fun h => (k _ _ w h).2) (fun h => (k _ _ w h).2), h.imp (fun h => (k _ _ w h).1) (fun h => (k _ _ w h).1), Paired.mapP p fun _ _ z => s.mv z k⟩⟩
/-- a tuple of two, a list of two, a tuple of three -/
def sP (s : Sh α) (t : Sh β) : Sh (α × β) := ⟨fun W H v x => ∃ a u w, v = .ref a ∧ W a ∧ H a = some (.tup [u, w]) ∧ s.r W H u x.1 ∧ t.r W H w x.2, fun ⟨a, u, z, e, w, h, p, q⟩ k => ⟨a, u, z, e, (k _ _ w h).2, (k _ _ w h).1, s.mv p k, t.mv q k⟩⟩
def sLP (s : Sh α) (t : Sh β) : Sh (α × β) := ⟨fun W H v x => ∃ a u w, v = .ref a ∧ W a ∧ H a = some (.lst [u, w]) ∧ s.r W H u x.1 ∧ t.r W H w x.2, fun ⟨a, u, z, e, w, h, p, q⟩ k => ⟨a, u, z, e, (k _ _ w h).2, (k _ _ w h).1, s.mv p k, t.mv q k⟩⟩
def s3 (s : Sh α) (t : Sh β) (u : Sh γ) : Sh (α × β × γ) := ⟨fun W H v x => ∃ a i j l, v = .ref a ∧ W a ∧ H a = some (.tup [i, j, l]) ∧ s.r W H i x.1 ∧ t.r W H j x.2.1 ∧ u.r W H l x.2.2, fun ⟨a, i, j, l, e, w, h, p, q, z⟩ k => ⟨a, i, j, l, e, (k _ _ w h).2, (k _ _ w h).1, s.mv p k, t.mv q k, u.mv z k⟩⟩
/-- a dict: its pairs in order -/
def sD (s : Sh α) : Sh (List (Key × α)) := ⟨fun W H v xs => ∃ a vs, v = .ref a ∧ W a ∧ H a = some (.dK vs) ∧ Paired (fun (p : Key × V) (q : Key × α) => p.1 = q.1 ∧ s.r W H p.2 q.2) vs xs, fun ⟨a, vs, e, w, h, p⟩ k => ⟨a, vs, e, (k _ _ w h).2, (k _ _ w h).1, Paired.mapP p fun _ _ z => ⟨z.1, s.mv z.2 k⟩⟩⟩
def sO (s : Sh α) : Sh (Option α) := ⟨fun W H v x => (x = none ∧ v = .non) ∨ ∃ y, x = some y ∧ s.r W H v y, fun h k => h.imp id fun ⟨y, e, z⟩ => ⟨y, e, s.mv z k⟩⟩
theorem Sh.sq (h : (sL s).at M H v xs) : (sQ s).at M H v xs := by
  obtain ⟨a, vs, e, w, h, p⟩ := h
  exact ⟨a, vs, e, w, .inl h, p⟩
theorem Sh.tq (h : (sT s).at M H v xs) : (sQ s).at M H v xs := by
  obtain ⟨a, vs, e, w, h, p⟩ := h
  exact ⟨a, vs, e, w, .inr h, p⟩
theorem pds_map (f : α → V) : ∀ {l : List α}, (∀ y ∈ l, s.at M H (f y) y) → Paired (s.at M H) (l.map f) l
  | [], _ => .nil
  | y :: r, h => .cons (h y List.mem_cons_self) (pds_map f fun z hz => h z (List.mem_cons_of_mem _ hz))
theorem pd_ints {ns : List Int} : Paired (sInt.at M H) (ns.map V.int) ns := pds_map _ fun _ _ => rfl
theorem pd_strs {ns : List Str} : Paired (sStr.at M H) (ns.map V.str) ns := pds_map _ fun _ _ => rfl
theorem pd_isInts : ∀ {vs : List V} {ns : List Int}, Paired (sInt.at M H) vs ns → vs = ns.map V.int
  | _, _, .nil => rfl
  | _, _, .cons e t => by rw [pd_isInts t]; cases e; rfl
theorem pd_isStrs : ∀ {vs : List V} {ns : List Str}, Paired (sStr.at M H) vs ns → vs = ns.map V.str
  | _, _, .nil => rfl
  | _, _, .cons e t => by rw [pd_isStrs t]; cases e; rfl
theorem Sh.ints {ns : List Int} (h : (sL sInt).at M H v ns) : ∃ a, v = .ref a ∧ a ∉ M ∧ H a = some (.lst (ns.map V.int)) := by
  obtain ⟨a, vs, e, w, h, p⟩ := h
  exact ⟨a, e, w, by rw [← pd_isInts p]; exact h⟩
theorem Sh.strs {ns : List Str} (h : (sL sStr).at M H v ns) : ∃ a, v = .ref a ∧ a ∉ M ∧ H a = some (.lst (ns.map V.str)) := by
  obtain ⟨a, vs, e, w, h, p⟩ := h
  exact ⟨a, e, w, by rw [← pd_isStrs p]; exact h⟩
theorem Sh.tints {ns : List Int} (h : (sT sInt).at M H v ns) : ∃ a, v = .ref a ∧ a ∉ M ∧ H a = some (.tup (ns.map V.int)) := by
  obtain ⟨a, vs, e, w, h, p⟩ := h
  exact ⟨a, e, w, by rw [← pd_isInts p]; exact h⟩
theorem iteN {c A B : Prop} [Decidable c] (h : ¬ c) (x : B) : if c then A else B := by
  rw [if_neg h]; exact x
/-! ### parts of lists -/
theorem psnoc {F : α → β → Prop} : ∀ {l₁ : List α} {l₂ : List β} {x : α} {y : β}, Paired F l₁ l₂ → F x y → Paired F (l₁ ++ [x]) (l₂ ++ [y])
  | _, _, _, _, .nil, h => .cons h .nil
  | _, _, _, _, .cons r t, h => .cons r (psnoc t h)
theorem papp {F : α → β → Prop} : ∀ {a b : List α} {c d : List β}, Paired F a c → Paired F b d → Paired F (a ++ b) (c ++ d)
  | _, _, _, _, .nil, h => h
  | _, _, _, _, .cons r t, h => .cons r (papp t h)
theorem ptake {F : α → β → Prop} : ∀ {n : Nat} {l₁ : List α} {l₂ : List β}, Paired F l₁ l₂ → Paired F (l₁.take n) (l₂.take n)
  | 0, _, _, _ => by simpa using .nil
  | _ + 1, _, _, .nil => .nil
  | n + 1, _, _, .cons r t => .cons r (ptake (n := n) t)
theorem pdrop {F : α → β → Prop} : ∀ {n : Nat} {l₁ : List α} {l₂ : List β}, Paired F l₁ l₂ → Paired F (l₁.drop n) (l₂.drop n)
  | 0, _, _, h => h
  | _ + 1, _, _, .nil => .nil
  | n + 1, _, _, .cons _ t => pdrop (n := n) t
theorem prev {F : α → β → Prop} : ∀ {l₁ : List α} {l₂ : List β}, Paired F l₁ l₂ → Paired F l₁.reverse l₂.reverse
  | _, _, .nil => .nil
  | _, _, .cons r t => by rw [List.reverse_cons, List.reverse_cons]; exact psnoc (prev t) r
theorem pset {F : α → β → Prop} : ∀ {i : Nat} {l₁ : List α} {l₂ : List β} {x : α} {y : β}, Paired F l₁ l₂ → F x y → Paired F (l₁.set i x) (l₂.set i y)
  | _, _, _, _, _, .nil, _ => .nil
  | 0, _, _, _, _, .cons _ t, h => .cons h t
  | i + 1, _, _, _, _, .cons r t, h => .cons r (pset (i := i) t h)
theorem pget {F : α → β → Prop} : ∀ {l₁ : List α} {l₂ : List β} {i : Nat} {y : β}, Paired F l₁ l₂ → l₂[i]? = some y → ∃ x, l₁[i]? = some x ∧ F x y
  | _, _, _, _, .nil, e => by simp at e
  | _, _, 0, _, .cons r _, e => by simp at e; subst e; exact ⟨_, rfl, r⟩
  | _, _, i + 1, y, .cons _ t, e => by
    obtain ⟨x, h1, h2⟩ := pget (i := i) (y := y) t (by simpa using e)
    exact ⟨x, by simpa using h1, h2⟩
theorem pget' {F : α → β → Prop} : ∀ {l₁ : List α} {l₂ : List β} {i : Nat} {x : α}, Paired F l₁ l₂ → l₁[i]? = some x → ∃ y, l₂[i]? = some y ∧ F x y
  | _, _, _, _, .nil, e => by simp at e
  | _, _, 0, _, .cons r _, e => by simp at e; subst e; exact ⟨_, rfl, r⟩
  | _, _, i + 1, y, .cons _ t, e => by
    obtain ⟨x, h1, h2⟩ := pget' (i := i) (x := y) t (by simpa using e)
    exact ⟨x, by simpa using h1, h2⟩
theorem plen {F : α → β → Prop} : ∀ {l₁ : List α} {l₂ : List β}, Paired F l₁ l₂ → l₁.length = l₂.length
  | _, _, .nil => rfl
  | _, _, .cons _ t => congrArg (· + 1) (plen t)
/-! ### the list that a comprehension makes -/
/-- at D, while what is of m is being changed: ys so far -/
structure Acc (t : Sh β) (D : Addr) (M m : List Addr) (H1 : Hp) (H : Hp) (ys : List β) : Prop where
  al : Alv M H1
  nD : H1 D = none
  sub : ∀ a ∈ m, a ∈ M
  st : Stp m H1 H
  ac : ∃ vs, H D = some (.lst vs) ∧ Paired (t.at (D :: M) H) vs ys
variable {ys : List β} {D : Addr}
theorem Acc.start (al : Alv M H1) (nD : H1 D = none) (sub : ∀ a ∈ m, a ∈ M) : Acc t D M m H1 (upd H1 D (.lst [])) [] := ⟨al, nD, sub, Stp.refl.putN nD, [], upd_same, .nil⟩
theorem Acc.nM (h : Acc t D M m H1 H ys) : D ∉ M := h.al.off h.nD
theorem Acc.nm (h : Acc t D M m H1 H ys) : D ∉ m := fun e => h.nM (h.sub D e)
theorem Acc.alv (h : Acc t D M m H1 H ys) : Alv (D :: M) H := by
  obtain ⟨vs, e, _⟩ := h.ac
  exact Alv.cons e (h.al.go h.st)
theorem Acc.go (h : Acc t D M m H1 H ys) (st : Stp m H H2) : Acc t D M m H1 H2 ys := by
  obtain ⟨vs, e, p⟩ := h.ac
  exact ⟨h.al, h.nD, h.sub, h.st.trans st, vs, st.at e h.nm, Sh.gos p st (fun a ha => .inl (List.mem_cons_of_mem _ (h.sub a ha))) Sb.refl⟩
theorem Acc.wk (h : Acc t D M m H1 H ys) (s : ∀ a ∈ m, a ∈ m') (s' : ∀ a ∈ m', a ∈ M) : Acc t D M m' H1 H ys := ⟨h.al, h.nD, s', h.st.wk fun a ha => .inl (s a ha), h.ac⟩
theorem Acc.put {R : List β → Prop} (h : Acc t D M m H1 H ys) (st : Stp m H H2) (hz : t.at (D :: M) H2 v y) (hl : ys.length < 100000) (hr : R (ys ++ [y])) :
    ∃ acc, H2 D = some (.lst acc) ∧ acc.length < sizeLine ∧ ∃ ys', Acc t D M m H1 (upd H2 D (.lst (acc ++ [v]))) ys' ∧ R ys' := by
  obtain ⟨al, nD, sub, s0, vs, e, p⟩ := h.go st
  refine ⟨vs, e, by rw [plen p]; have := sizeLine_eq; omega, ys ++ [y], ⟨al, nD, sub, s0.putN nD, _, upd_same, ?_⟩, hr⟩
  exact psnoc (Sh.gos p (Stp.put (m := [D]) (by simp)) (fun a ha => .inl (by simp at ha; simp [ha])) Sb.refl) (Sh.go hz (Stp.put (m := [D]) (by simp)) (fun a ha => .inl (by simp at ha; simp [ha])) Sb.refl)
/-- .. and something else goes on holding -/
theorem Acc.putB {R : List β → Prop} (B : Hp → Prop) (h : Acc t D M m H1 H ys) (st : Stp m H H2) (hz : t.at (D :: M) H2 v y) (hl : ys.length < 100000) (hr : R (ys ++ [y])) (hB : ∀ H', (∀ a o, a ≠ D → H2 a = some o → H' a = some o) → B H') :
    ∃ acc, H2 D = some (.lst acc) ∧ acc.length < sizeLine ∧ ∃ ys', Acc t D M m H1 (upd H2 D (.lst (acc ++ [v]))) ys' ∧ R ys' ∧ B (upd H2 D (.lst (acc ++ [v]))) := by
  obtain ⟨acc, h1, h2, ys', h3, h4⟩ := h.put (R := R) st hz hl hr
  exact ⟨acc, h1, h2, ys', h3, h4, hB _ fun a o n e => by rw [upd_ne n]; exact e⟩
/-- an own list F, new since H, one item changed -/
theorem set_L {F : Addr} {vs : List V} {xs : List α} (al : Alv M H) (nF : H F = none) (st : Stp m H H2) (hm : Sb m M H) (h : H2 F = some (.lst vs)) (pd : Paired (s.at (F :: M) H2) vs xs) (hz : s.at (F :: M) H2 v x) (i : Nat) :
    (sL s).at M (upd H2 F (.lst (vs.set i v))) (.ref F) (xs.set i x) ∧ Stp m H (upd H2 F (.lst (vs.set i v))) ∧ Paired (s.at (F :: M) (upd H2 F (.lst (vs.set i v)))) (vs.set i v) (xs.set i x) := by
  have sp : Stp [F] H2 (upd H2 F (.lst (vs.set i v))) := Stp.put (by simp)
  have sb : Sb [F] (F :: M) H2 := Sb.mem List.mem_cons_self Sb.nil
  exact ⟨⟨F, _, rfl, al.off nF, upd_same, pset (Sh.gos pd sp sb (fun a ha => .inl (List.mem_cons_of_mem _ ha))) (Sh.go hz sp sb (fun a ha => .inl (List.mem_cons_of_mem _ ha)))⟩, st.putN nF, pset (Sh.gos pd sp sb Sb.refl) (Sh.go hz sp sb Sb.refl)⟩
theorem Acc.done (h : Acc t D M m H1 H ys) : (sL t).at M H (.ref D) ys := by
  obtain ⟨vs, e, p⟩ := h.ac
  exact ⟨D, vs, rfl, h.nM, e, Paired.mapP p fun _ _ z => t.mv z fun a o n e => ⟨e, fun h => n (List.mem_cons_of_mem _ h)⟩⟩
/-- what is new is of no M -/
theorem mk_lst {vs : List V} {xs : List α} (al : Alv M H) (np : H p = none) (h : Paired (s.at M H) vs xs) : (sL s).at M (upd H p (.lst vs)) (.ref p) xs := ⟨p, vs, rfl, al.off np, upd_same, Sh.gos h (Stp.new np) Sb.nil Sb.refl⟩
theorem mk_tup {vs : List V} {xs : List α} (al : Alv M H) (np : H p = none) (h : Paired (s.at M H) vs xs) : (sT s).at M (upd H p (.tup vs)) (.ref p) xs := ⟨p, vs, rfl, al.off np, upd_same, Sh.gos h (Stp.new np) Sb.nil Sb.refl⟩
theorem mk_P (al : Alv M H) (np : H p = none) (h : s.at M H v x) (h' : t.at M H w y) : (sP s t).at M (upd H p (.tup [v, w])) (.ref p) (x, y) := ⟨p, v, w, rfl, al.off np, upd_same, Sh.go h (Stp.new np) Sb.nil Sb.refl, Sh.go h' (Stp.new np) Sb.nil Sb.refl⟩
theorem mk_LP (al : Alv M H) (np : H p = none) (h : s.at M H v x) (h' : t.at M H w y) : (sLP s t).at M (upd H p (.lst [v, w])) (.ref p) (x, y) := ⟨p, v, w, rfl, al.off np, upd_same, Sh.go h (Stp.new np) Sb.nil Sb.refl, Sh.go h' (Stp.new np) Sb.nil Sb.refl⟩
theorem mk_3 {v' : V} {z : γ} (al : Alv M H) (np : H p = none) (h : s.at M H v x) (h' : t.at M H w y) (h'' : u.at M H v' z) : (s3 s t u).at M (upd H p (.tup [v, w, v'])) (.ref p) (x, y, z) := ⟨p, v, w, v', rfl, al.off np, upd_same, Sh.go h (Stp.new np) Sb.nil Sb.refl, Sh.go h' (Stp.new np) Sb.nil Sb.refl, Sh.go h'' (Stp.new np) Sb.nil Sb.refl⟩
end
/-! ### as the library reads data -/
/-- its data: read, shown, compared -/
structure ShD {α : Type} (s : Sh α) (d : α → PyData) : Prop where
  dp : ∀ {K : PySem.W.Frag} {W : Addr → Prop} {H : Hp} {v : V} {x : α}, s.r W H v x → Dp K H v (d x)
  dx : ∀ {K : PySem.W.Frag} {W : Addr → Prop} {H : Hp} {v : V} {x : α}, s.r W H v x → Dx K H v (d x)
theorem dpA {α : Type} {K : PySem.W.Frag} {H : Hp} {F : V → α → Prop} {d : α → PyData} (h : ∀ v x, F v x → Dp K H v (d x)) : ∀ {vs : List V} {xs : List α}, Paired F vs xs → DpAll K H vs (xs.map d)
  | _, _, .nil => .nil
  | _, _, .cons r t => .cons (h _ _ r) (dpA h t)
theorem dxA {α : Type} {K : PySem.W.Frag} {H : Hp} {F : V → α → Prop} {d : α → PyData} (h : ∀ v x, F v x → Dx K H v (d x)) : ∀ {vs : List V} {xs : List α}, Paired F vs xs → DxAll K H vs (xs.map d)
  | _, _, .nil => .nil
  | _, _, .cons r t => .cons (h _ _ r) (dxA h t)
section
variable {α β γ : Type} {s : Sh α} {t : Sh β} {u : Sh γ} {d : α → PyData} {e : β → PyData} {f : γ → PyData}
theorem isD_int : ShD sInt PyData.int := ⟨fun h => by cases h; exact .int _, fun h => by cases h; exact .int _⟩
theorem isD_str : ShD sStr PyData.str := ⟨fun h => by cases h; exact .str _, fun h => by cases h; exact .str _⟩
theorem isD_bl : ShD sBl PyData.bool := ⟨fun h => by cases h; exact .bl _, fun h => by cases h; exact .bl _⟩
theorem isD_L (i : ShD s d) : ShD (sL s) fun xs => .list (xs.map d) := ⟨fun ⟨a, vs, e, _, h, p⟩ => by subst e; exact .lst (SqL.of h) (dpA (fun _ _ z => i.dp z) p), fun ⟨a, vs, e, _, h, p⟩ => by subst e; exact .lst (SqL.of h) (dxA (fun _ _ z => i.dx z) p)⟩
theorem isD_T (i : ShD s d) : ShD (sT s) fun xs => .tuple (xs.map d) := ⟨fun ⟨a, vs, e, _, h, p⟩ => by subst e; exact .tup (.inl (.inl h)) (dpA (fun _ _ z => i.dp z) p), fun ⟨a, vs, e, _, h, p⟩ => by subst e; exact .tup (.inl (.inl h)) (dxA (fun _ _ z => i.dx z) p)⟩
theorem isD_P (i : ShD s d) (j : ShD t e) : ShD (sP s t) fun x => .tuple [d x.1, e x.2] := ⟨fun ⟨a, u, w, e, _, h, p, q⟩ => by subst e; exact .tup (.inl (.inl h)) (.cons (i.dp p) (.cons (j.dp q) .nil)), fun ⟨a, u, w, e, _, h, p, q⟩ => by subst e; exact .tup (.inl (.inl h)) (.cons (i.dx p) (.cons (j.dx q) .nil))⟩
theorem isD_LP (i : ShD s d) (j : ShD t e) : ShD (sLP s t) fun x => .list [d x.1, e x.2] := ⟨fun ⟨a, u, w, e, _, h, p, q⟩ => by subst e; exact .lst (SqL.of h) (.cons (i.dp p) (.cons (j.dp q) .nil)), fun ⟨a, u, w, e, _, h, p, q⟩ => by subst e; exact .lst (SqL.of h) (.cons (i.dx p) (.cons (j.dx q) .nil))⟩
theorem isD_3 (i : ShD s d) (j : ShD t e) (l : ShD u f) : ShD (s3 s t u) fun x => .tuple [d x.1, e x.2.1, f x.2.2] := ⟨fun ⟨a, u, w, z, e, _, h, p, q, r⟩ => by subst e; exact .tup (.inl (.inl h)) (.cons (i.dp p) (.cons (j.dp q) (.cons (l.dp r) .nil))), fun ⟨a, u, w, z, e, _, h, p, q, r⟩ => by subst e; exact .tup (.inl (.inl h)) (.cons (i.dx p) (.cons (j.dx q) (.cons (l.dx r) .nil)))⟩
end
/-! ### slices -/
theorem cut_to {xs : List V} (k : Nat) : cutV xs none (some (k : Int)) = xs.take k := by
  unfold cutV
  rw [HT.sIx_none, HT.sIx_nat, List.drop_zero, Nat.sub_zero]
  by_cases h : k ≤ xs.length
  · rw [Nat.min_eq_left h]
  · rw [Nat.min_eq_right (by omega), List.take_of_length_le (Nat.le_refl _), List.take_of_length_le (by omega)]
theorem cut_from {xs : List V} (k : Nat) : cutV xs (some (k : Int)) none = xs.drop k := by
  unfold cutV
  rw [HT.sIx_none, HT.sIx_nat]
  by_cases h : k ≤ xs.length
  · rw [Nat.min_eq_left h, List.take_of_length_le (by rw [List.length_drop]; omega)]
  · rw [Nat.min_eq_right (by omega), Nat.sub_self, List.take_zero, List.drop_of_length_le (by omega)]
/-- xs[:-k] -/
theorem cut_less {xs : List V} (k : Nat) (hk : 0 < k) : cutV xs none (some (-(k : Int))) = xs.take (xs.length - k) := by
  unfold cutV
  rw [HT.sIx_none, List.drop_zero, Nat.sub_zero]
  show xs.take (if -(k : Int) < 0 then (-(k : Int) + (xs.length : Int)).toNat else min (-(k : Int)).toNat xs.length) = _
  rw [if_pos (by omega)]
  congr 1
  omega
/-- xs[-k:] -/
theorem cut_last {xs : List V} (k : Nat) (hk : 0 < k) : cutV xs (some (-(k : Int))) none = xs.drop (xs.length - k) := by
  unfold cutV
  rw [HT.sIx_none]
  show ((xs.drop (if -(k : Int) < 0 then (-(k : Int) + (xs.length : Int)).toNat else min (-(k : Int)).toNat xs.length)).take (xs.length - (if -(k : Int) < 0 then (-(k : Int) + (xs.length : Int)).toNat else min (-(k : Int)).toNat xs.length))) = _
  rw [if_pos (by omega)]
  have e : (-(k : Int) + (xs.length : Int)).toNat = xs.length - k := by omega
  rw [e, List.take_of_length_le (by rw [List.length_drop]; omega)]
end L2

namespace L2
open PySem PySem.Spec PyProof.Rows
end L2

/-! zip(a list, a tuple). -/
namespace L2
open PySem PySem.Spec PyProof.Rows
def Itzn (K : PySem.W.Frag) (a b : Addr) (xs ys : List V) : It :=
  ⟨fun i H => (SqL K H a xs ∧ SqT K H b ys) ∧ i < min xs.length ys.length, fun i H v H' => ∃ T x y, v = .ref T ∧ H T = none ∧ H' = upd H T (.tup [x, y]) ∧ xs[i]? = some x ∧ ys[i]? = some y,
    fun i H => (SqL K H a xs ∧ SqT K H b ys) ∧ min xs.length ys.length ≤ i⟩
theorem turn_zipN {P : Program} {w : World} {K : PySem.W.Frag} {elts : List Expr} {kk : Nat} {tpos : Pos} {a b z TI TO i1 i2 : Addr} {xs ys : List V} (D : ZipSep2 z TI TO i1 i2 [i1, a] [i2, b]) :
    Turn P w K (.Tuple elts kk tpos) (Itzn K a b xs ys) [z, TI, TO, i1, i2] z (fun i h => IsZip h z TI TO .none ∧ IsTupOf2 h TI (.ref i1) (.ref i2) ∧ (∃ x y, IsTupOf2 h TO x y) ∧ h.IsListIter i1 a i ∧ h.IsTupleIter i2 b i ∧ i ≤ xs.length ∧ i ≤ ys.length) where
  mem := by simp
  obj := fun i h st c hc => by
    obtain ⟨hz, hTI, ⟨x, y, hTO⟩, ⟨o1, e1, _, d1⟩, ⟨o2, e2, _, d2⟩, _⟩ := st
    rcases (by simpa using hc : c = z ∨ c = TI ∨ c = TO ∨ c = i1 ∨ c = i2) with q | q | q | q | q
    · rw [q]; exact ⟨_, hz, fun v q => nomatch q⟩
    · rw [q]; exact ⟨_, hTI, fun v q => nomatch q⟩
    · rw [q]; exact ⟨_, hTO, fun v q => nomatch q⟩
    · rw [q]; exact ⟨o1, e1, fun v q => by rw [d1] at q; cases q⟩
    · rw [q]; exact ⟨o2, e2, fun v q => by rw [d2] at q; cases q⟩
  keep := fun i h h' st k => by
    obtain ⟨hz, hTI, ⟨x, y, hTO⟩, h1, h2, l⟩ := st
    exact ⟨k z (by simp) _ hz, k TI (by simp) _ hTI, ⟨x, y, k TO (by simp) _ hTO⟩, h1.at fun o q => k i1 (by simp) o q, h2.at fun o q => k i2 (by simp) o q, l⟩
  item := by
    intro X hP hw hK hc i pins s σ H E I hf st hg
    subst hP hw hK
    obtain ⟨hz, hTI, ⟨x0, y0, hTO⟩, h1, h2, l1, l2⟩ := st
    obtain ⟨⟨hqx, hqy⟩, hi⟩ := hg
    obtain ⟨its, rv, tp, _⟩ := I.list hqx
    obtain ⟨its2, rv2, p2, _⟩ := I.tuple hqy
    have hx : xs[i]? = some (xs[i]'(by omega)) := List.getElem?_eq_getElem _
    have hy : ys[i]? = some (ys[i]'(by omega)) := List.getElem?_eq_getElem _
    obtain ⟨u, hu, ru⟩ := rv.get hx
    obtain ⟨u2, hu2, ru2⟩ := rv2.get hy
    have hzl : z < s.heap.objs.size := Heap.lt_size hz
    have n1 := rv.length
    have n2 := rv2.length
    have hd1 : X.A.in1.handled = none := I.ok.hd hc
    have nea : a ≠ i1 := fun q => by
      obtain ⟨o, ho, hc1, _⟩ := id tp.isList
      obtain ⟨o', ho', hc2, _⟩ := id h1
      rw [q, ho'] at ho; cases ho; rw [hc2] at hc1; exact absurd (Value.type.inj hc1) (by decide)
    have neb : b ≠ i2 := fun q => by
      obtain ⟨o, ho, hc1, _⟩ := id p2
      obtain ⟨o', ho', hc2, _⟩ := id h2
      rw [q, ho'] at ho; cases ho; rw [hc2] at hc1; exact absurd (Value.type.inj hc1) (by decide)
    refine wpAny_pyNext_zipD2_item D (Draws.list hd1 i1 a nea its.toArray) (Draws.tuple hd1 i2 b neb its2.toArray) hz hTI hTO ⟨h1, tp.isList⟩ ⟨h2, p2⟩ (by simp; omega) (by simp; omega) fun v1 v2 h' tk e1 e2 z' TO' s1 s2 hT hsz hk => ?_
    have w1 : v1 = u := by rw [show its.toArray[i]? = some u by simpa using hu] at e1; exact (Option.some.inj e1).symm
    have w2 : v2 = u2 := by rw [show its2.toArray[i]? = some u2 by simpa using hu2] at e2; exact (Option.some.inj e2).symm
    subst w1 w2
    refine ⟨_, rfl, wpAny_letOwnedTupleGo_zip (s := { s with heap := h', toks := tk }) z' fun h'' z'' sb => ?_⟩
    have hT2 : h''.get? s.heap.objs.size = some { cls := .type "tuple", data := .seq #[v1, v2] } := (sb.2 _ (Nat.ne_of_gt hzl)).trans hT
    have new : ObjOk X.prog X.w (upd H s.heap.objs.size (.tup [xs[i]'(by omega), ys[i]'(by omega)])) h'' s.heap.objs.size (.tup [xs[i]'(by omega), ys[i]'(by omega)]) :=
      ⟨by show 2 ≤ sizeLine; decide, [v1, v2], .cons ru (.cons ru2 .nil), ⟨_, hT2, rfl, _, rfl⟩⟩
    have kk5 : ∀ c o, c ∉ [z, TI, TO, i1, i2] → s.heap.get? c = some o → h''.get? c = some o := fun c o hb q => (sb.2 c (fun q' => hb (by simp [q']))).trans (hk c o (fun q' => hb (by simp [q'])) (fun q' => hb (by simp [q'])) (fun q' => hb (by simp [q'])) (fun q' => hb (by simp [q'])) q)
    have I1 : Inv X pins σ (upd H s.heap.objs.size (.tup [xs[i]'(by omega), ys[i]'(by omega)])) { s with heap := h'', toks := tk } := I.turnedNew (t' := tk) (ch := [z, TI, TO, i1, i2]) kk5 hf (Nat.le_refl _) new
    have fz : ∀ c ∈ [z, TI, TO, i1, i2], upd H s.heap.objs.size (.tup [xs[i]'(by omega), ys[i]'(by omega)]) c = none := fun c hcm => by
      have hlt : c < s.heap.objs.size := by
        rcases (by simpa using hcm : c = z ∨ c = TI ∨ c = TO ∨ c = i1 ∨ c = i2) with q | q | q | q | q
        · rw [q]; exact hzl
        · rw [q]; exact Heap.lt_size hTI
        · rw [q]; exact Heap.lt_size hTO
        · rw [q]; obtain ⟨_, e1, _⟩ := h1; exact Heap.lt_size e1
        · rw [q]; obtain ⟨_, e2, _⟩ := h2; exact Heap.lt_size e2
      rw [upd_ne (Nat.ne_of_lt hlt)]
      exact (hf c hcm).1
    have tI : h''.get? TI = some { cls := .type "tuple", data := .seq #[.ref i1, .ref i2] } := (sb.2 _ D.TIz).trans (hk _ _ D.TIz D.TITO D.TIi1 D.TIi2 hTI)
    have nn : i + 1 ≤ xs.length ∧ i + 1 ≤ ys.length := by omega
    exact ⟨.ref s.heap.objs.size, _, I1, rfl, ⟨_, _, _, rfl, I.hok.fresh (Nat.le_refl _), rfl, hx, hy⟩, ⟨z'', tI, ⟨_, _, (sb.2 _ D.TOz).trans TO'⟩, s1.1.at fun o q => (sb.2 _ D.zi1.symm).trans q, s2.1.at fun o q => (sb.2 _ D.zi2.symm).trans q, nn⟩, fz⟩
  done := by
    intro X hP hw hK hc i pins s σ H E I hf st hg
    subst hP hw hK
    obtain ⟨hz, hTI, ⟨x0, y0, hTO⟩, h1, h2, l1, l2⟩ := st
    obtain ⟨⟨hqx, hqy⟩, hi⟩ := hg
    obtain ⟨its, rv, tp, _⟩ := I.list hqx
    obtain ⟨its2, rv2, p2, _⟩ := I.tuple hqy
    have n1 := rv.length
    have n2 := rv2.length
    have hd1 : X.A.in1.handled = none := I.ok.hd hc
    have nea : a ≠ i1 := fun q => by
      obtain ⟨o, ho, hc1, _⟩ := id tp.isList
      obtain ⟨o', ho', hc2, _⟩ := id h1
      rw [q, ho'] at ho; cases ho; rw [hc2] at hc1; exact absurd (Value.type.inj hc1) (by decide)
    have neb : b ≠ i2 := fun q => by
      obtain ⟨o, ho, hc1, _⟩ := id p2
      obtain ⟨o', ho', hc2, _⟩ := id h2
      rw [q, ho'] at ho; cases ho; rw [hc2] at hc1; exact absurd (Value.type.inj hc1) (by decide)
    exact wpAny_pyNext_zipD2_end D (Draws.list hd1 i1 a nea its.toArray) (Draws.tuple hd1 i2 b neb its2.toArray) hz hTI hTO ⟨h1, tp.isList⟩ ⟨h2, p2⟩ (by simp; omega) (by simp; omega) (by simp; omega) fun h' tk hk => ⟨rfl, I.turnedL (t' := tk) (ch := [z, TI, TO, i1, i2]) (fun c o hb q =>
      hk c o (fun q' => hb (by simp [q'])) (fun q' => hb (by simp [q'])) (fun q' => hb (by simp [q'])) (fun q' => hb (by simp [q'])) q) hf⟩
  self := fun A i s Q E st h => wpAny_pyIter_zip st.1 h
def iZipN (K : PySem.W.Frag) (ta : TA) : TI := fun σ H R => ta σ H fun vs H1 => ∃ a b xs ys, vs = [.ref a, .ref b] ∧ SqL K H1 a xs ∧ SqT K H1 b ys ∧ R (Itzn K a b xs ys) H1
theorem pi_zipN {X : Cx} {e e2 : Expr} {ta : TA} {p pos tpos : Pos} {elts : List Expr} {kk : Nat} (hg : Gl X "zip") (hm : X.mg "zip" = none) (ha : PA X [e, e2] ta)
    (hs : starEach [e, e2] X.env = (false, eval e X.env) :: starEach [e2] X.env := by rfl) (hpl : (backTo pos (starEach [e2] X.env)).any (·.1) = false := by rfl) :
    PI X (.Tuple elts kk tpos) (.Call (.Name "zip" p) [e, e2] [] pos) (iZipN X.K ta) := by
  refine ⟨fun pins s σ H R I h => ?_⟩
  refine Call_ (ld_blt I hg hm PyProof.Rows.boot_zip (PyProof.Rows.callWith_type1 (thn (ha.run pos pins s σ H _ I h) fun us s1 ⟨vs, H1, I1, r1, a, b, xs, ys, ex, hqx, hqy, q⟩ => ?_) hs hpl))
  subst ex
  cases r1 with
  | cons r rr =>
    cases rr with
    | cons r' rr =>
      cases rr
      cases r
      cases r'
      obtain ⟨its, rv, tp, _⟩ := I1.list hqx
      obtain ⟨its2, rv2, p2, _⟩ := I1.tuple hqy
      have la : a < s1.heap.objs.size := tp.lt
      have lb : b < s1.heap.objs.size := p2.lt
      refine zip_begins2 (begins_list a its.toArray) (begins_tuple b its2.toArray) tp.isList p2 fun h' hz hTI hTO h1 h2 hsz hk => wpAny_pyIter_zip hz ?_
      have I2 : Inv X pins σ H1 { s1 with heap := h' } := I1.kept (t' := s1.toks) hk
      refine ⟨s1.heap.objs.size + 4, [s1.heap.objs.size + 4, s1.heap.objs.size + 2, s1.heap.objs.size + 3, s1.heap.objs.size, s1.heap.objs.size + 1], _, _, H1, rfl, I2, turn_zipN ?_, ⟨hz, hTI, ⟨_, _, hTO⟩, ⟨_, h1, rfl, rfl⟩, ⟨_, h2, rfl, rfl⟩, Nat.zero_le _, Nat.zero_le _⟩, fun c hcm => ?_, q⟩
      · have A : ∀ k : Nat, s1.heap.objs.size + k ≠ a := fun k => Nat.ne_of_gt (Nat.lt_of_lt_of_le la (Nat.le_add_right _ _))
        have B : ∀ k : Nat, s1.heap.objs.size + k ≠ b := fun k => Nat.ne_of_gt (Nat.lt_of_lt_of_le lb (Nat.le_add_right _ _))
        have C : ∀ j k : Nat, j ≠ k → s1.heap.objs.size + j ≠ s1.heap.objs.size + k := fun j k hjk z => hjk (Nat.add_left_cancel z)
        have N2 : ∀ {x y c : Nat}, c ≠ x → c ≠ y → c ∉ [x, y] := fun h1 h2 hm => by
          rcases List.mem_cons.mp hm with q | q
          · exact h1 q
          · exact h2 (List.mem_singleton.mp q)
        exact ⟨C 2 4 (by decide), C 3 4 (by decide), C 2 3 (by decide), C 2 0 (by decide), List.mem_cons_self, N2 (C 4 0 (by decide)) (A 4), N2 (C 3 0 (by decide)) (A 3), C 2 1 (by decide), List.mem_cons_self, N2 (C 4 1 (by decide)) (B 4), N2 (C 3 1 (by decide)) (B 3), N2 (C 0 1 (by decide)) (B 0), N2 (C 1 0 (by decide)) (A 1)⟩
      · have hle : s1.heap.objs.size ≤ c := by
          rcases (by simpa using hcm : c = s1.heap.objs.size + 4 ∨ c = s1.heap.objs.size + 2 ∨ c = s1.heap.objs.size + 3 ∨ c = s1.heap.objs.size ∨ c = s1.heap.objs.size + 1) with z | z | z | z | z <;> rw [z] <;> first | exact Nat.le_refl _ | exact Nat.le_add_right _ _
        exact I1.fpOk hle (I1.hok.fresh hle)
theorem walk_zipN {K : PySem.W.Frag} {a b : Addr} {xs ys : List V} : Walk (Itzn K a b xs ys) (min xs.length ys.length) (fun H => SqL K H a xs ∧ SqT K H b ys) (YPair (fun i => xs[i]?) fun i => ys[i]?) :=
  ⟨fun i _ hi q => ⟨q, hi⟩, fun _ q => ⟨q, Nat.le_refl _⟩, fun _ _ _ _ _ _ y => by obtain ⟨T, x, z, h⟩ := y; exact ⟨T, x, z, h⟩⟩
end L2

/-! d == e of two dicts whose values are data -/
namespace L2
open PySem PySem.Spec PyProof.Rows
section
variable {X : Cx}
def rEqK (K : PySem.W.Frag) : R2 := fun x y H Q => ∃ (a b : Addr) (ka kb : List (Key × V)) (f : Key → Bool), x = .ref a ∧ y = .ref b ∧ H a = some (.dK ka) ∧ H b = some (.dK kb) ∧
  (∀ k v u, (k, v) ∈ ka → valV kb k = some u → ∃ d e, Dp K H v d ∧ Dp K H u e ∧ SeqAt.shaped d = true ∧ SeqAt.shaped e = true ∧ f k = PyData.eqv d e) ∧
  Q (.bl (ka.length == kb.length && ka.all fun p => (valV kb p.1).isSome && f p.1)) H
theorem kv_mem {kvs : List (Key × V)} {vs : List (Key × Value)} (r : KV kvs vs) {k : Key} {v : Value} (h : (k, v) ∈ vs) : ∃ u, (k, u) ∈ kvs ∧ RelV u v := by
  unfold KV at r
  induction r with
  | nil => cases h
  | @cons p q ps qs h1 t ih =>
    rcases List.mem_cons.mp h with e | h
    · subst e
      obtain ⟨e1, e2⟩ := h1
      have e1' : p.1 = k := e1
      exact ⟨p.2, by rw [← e1']; exact List.mem_cons_self, e2⟩
    · obtain ⟨u, hu, ru⟩ := ih h
      exact ⟨u, List.mem_cons_of_mem _ hu, ru⟩
theorem kv_all {kvs : List (Key × V)} {vs : List (Key × Value)} (r : KV kvs vs) (g : Key → Bool) : (vs.all fun p => g p.1) = kvs.all fun p => g p.1 := by
  unfold KV at r
  induction r with
  | nil => rfl
  | cons h t ih => rw [List.all_cons, List.all_cons, ih, h.1]
theorem op_eqK (hu : X.A.units + 65 < cLine) : OpR X (compareOp .Eq) (rEqK X.K) := by
  intro pins s σ H x y v u Q I rx ry h
  obtain ⟨a, b, ka, kb, f, rfl, rfl, ha, hb, hk, q⟩ := h
  obtain rfl : v = Value.ref a := rx
  obtain rfl : u = Value.ref b := ry
  obtain ⟨_, za, va, ra, da⟩ := dk_of I.hok ha
  obtain ⟨_, zb, vb, rb, db⟩ := dk_of I.hok hb
  refine PySem.W.eq_dictsT (n := 64) za zb da db (e := f) (fun k v y hm hv => ?_) (by omega) ?_
  · obtain ⟨v', hv', rv⟩ := kv_mem ra hm
    have rel := rb.val k
    rw [hv] at rel
    cases e : valV kb k with
    | none => rw [e] at rel; cases rel
    | some y' =>
      rw [e] at rel
      have ry : RelV y' y := rel
      obtain ⟨d, e2, h1, h2, s1, s2, ef⟩ := hk k v' y' hv' e
      rw [ef]
      obtain ⟨as, r1⟩ := Dp.reads I d v' v h1 rv
      obtain ⟨bs, r2⟩ := Dp.reads I e2 y' y h2 ry
      refine .leaf fun A hA => SeqAt.eqAt_reads d e2 A s v y as bs r1 r2 (SeqAt.canLay_of_shaped s1) (SeqAt.canLay_of_shaped s2) ?_
      have h64 : d.depth ≤ 64 := by
        have z : (d.canLay0 && decide (d.depth ≤ 64)) = true := s1
        rw [Bool.and_eq_true] at z
        exact of_decide_eq_true z.2
      omega
  · refine ⟨.bl _, H, I, rfl, ?_⟩
    have e1 : va.length = ka.length := ra.length.symm
    have e2 : vb.length = kb.length := rb.length.symm
    have e3 : (va.all fun p => (valueAt vb p.1).isSome && f p.1) = ka.all fun p => (valV kb p.1).isSome && f p.1 := by
      rw [kv_all ra fun k => (valueAt vb k).isSome && f k]
      refine congrArg (fun g : Key × V → Bool => ka.all g) (funext fun p => ?_)
      rw [← (rb.val p.1).isSome_eq]
    rw [e1, e2, e3]
    exact q
end
end L2

/-! min(xs), xs a list of pairs of ints: the first of the least, as it stands -/
namespace L2
open PySem PySem.Spec PyProof.Rows
open PySem.W (dataLt minD AlikeAll dataLt_tuple dataLt_int dataLt_all_yes dataLt_all_no readsAll_at min_list_data alike)
def ltP (p q : Int × Int) : Bool := if p.1 = q.1 then decide (p.2 < q.2) else decide (p.1 < q.1)
def minP (q : Int × Int) (qs : List (Int × Int)) : Int × Int := qs.foldl (fun a y => if ltP y a then y else a) q
def pairD (p : Int × Int) : PyData := .tuple [.int p.1, .int p.2]
theorem lt_pairD (p q : Int × Int) : dataLt (pairD p) (pairD q) = ltP p q := by
  unfold pairD ltP
  rw [dataLt_tuple]
  have ee : ∀ a b : Int, PyData.eqv (.int a) (.int b) = decide (a = b) := fun a b => rfl
  by_cases h : p.1 = q.1
  · rw [if_pos h, dataLt_all_yes rfl (by rw [ee, h]; simp)]
    by_cases h2 : p.2 = q.2
    · rw [dataLt_all_yes rfl (by rw [ee, h2]; simp), h2]
      simp
      decide
    · rw [dataLt_all_no rfl (by rw [ee]; simpa using h2), dataLt_int]
  · rw [if_neg h, dataLt_all_no rfl (by rw [ee]; simpa using h), dataLt_int]
theorem min_pairD (q : Int × Int) (qs : List (Int × Int)) : minD (pairD q) (qs.map pairD) = pairD (minP q qs) := by
  unfold minD minP
  induction qs generalizing q with
  | nil => rfl
  | cons y r ih =>
    rw [List.map_cons, List.foldl_cons, List.foldl_cons, ← ih, lt_pairD]
    by_cases h : ltP y q = true
    · rw [if_pos h, if_pos h]
    · rw [if_neg h, if_neg h]
theorem pairD_inj {p q : Int × Int} (h : pairD p = pairD q) : p = q := by
  unfold pairD at h
  injection h with h
  injection h with h1 h2
  injection h1 with h1
  injection h2 with h2
  injection h2 with h2
  exact Prod.ext h1 h2
theorem alike_pairs (qs : List (Int × Int)) : AlikeAll (qs.map pairD) := by
  refine ⟨fun x hx y hy => ?_, fun x hx => ?_⟩
  · obtain ⟨p, _, rfl⟩ := List.mem_map.mp hx
    obtain ⟨q, _, rfl⟩ := List.mem_map.mp hy
    rfl
  · obtain ⟨p, _, rfl⟩ := List.mem_map.mp hx
    intro h; cases h
theorem depth_pairs : ∀ qs : List (Int × Int), PyData.depthAll (qs.map pairD) ≤ 4
  | [] => by decide
  | q :: qs => by
    rw [List.map_cons]
    refine Nat.max_le.mpr ⟨?_, depth_pairs qs⟩
    show PyData.depth (.tuple [.int q.1, .int q.2]) ≤ 4
    simp [PyData.depth, PyData.depthAll]
section
variable {X : Cx}
def isPI (K : PySem.W.Frag) (H : Hp) (v : V) (p : Int × Int) : Prop := ∃ t, v = .ref t ∧ SqT K H t [.int p.1, .int p.2]
def rMinP (K : PySem.W.Frag) : List V → Hp → VK → Prop := fun vs H Q => ∃ (a : Addr) (xs : List V) (q : Int × Int) (qs : List (Int × Int)), vs = [.ref a] ∧ SqL K H a xs ∧ Paired (isPI K H) xs (q :: qs) ∧
  ∀ (i : Nat) (x : V), xs[i]? = some x → (q :: qs)[i]? = some (minP q qs) → Q x H
theorem dpAll_pairs {K : PySem.W.Frag} {H : Hp} {xs : List V} {qs : List (Int × Int)} (h : Paired (isPI K H) xs qs) : DpAll K H xs (qs.map pairD) := by
  induction h with
  | nil => exact .nil
  | cons h t ih =>
    obtain ⟨t, rfl, ht⟩ := h
    exact .cons (.tup ht (.cons (.int _) (.cons (.int _) .nil))) ih
theorem cr_minP (hc : X.calm = true) (hu : X.A.units + 65 < cLine) : CallR X (.builtin "min") (rMinP X.K) := by
  intro pins s σ H vs us Q I r h
  obtain ⟨a, xs, q, qs, rfl, hs, pd, k⟩ := h
  obtain ⟨its, rv, hl, _⟩ := I.list hs
  rw [Vals.ref1 r]
  have dd := dpAll_pairs pd
  obtain ⟨as, hr⟩ := Dp.readsAll I _ xs its dd rv
  rw [List.map_cons] at hr
  have hd := depth_pairs (q :: qs)
  rw [List.map_cons] at hd
  have al := alike_pairs (q :: qs)
  rw [List.map_cons] at al
  refine min_list_data (I.ok.hd hc) hl.isList hr al (by omega) fun i v h' tk bs hv rd hk => ?_
  have hv' : its[i]? = some v := by simpa using hv
  have lx : xs.length = its.length := rv.length
  have li : i < its.length := (List.getElem?_eq_some_iff.mp hv').1
  obtain ⟨u, hu2, ru⟩ := rv.get (List.getElem?_eq_getElem (show i < xs.length by omega))
  rw [hv'] at hu2
  cases hu2
  refine ⟨_, H, I.kept hk, ru, k i _ (List.getElem?_eq_getElem (by omega)) ?_⟩
  obtain ⟨bs2, r2, lt, _, _⟩ := readsAll_at hr i v hv'
  have e1 := (PyProof.Rows.reads_det (fun b o e _ => hk b o e) r2 rd).1
  rw [min_pairD] at e1
  rw [← List.map_cons, List.length_map] at lt
  rw [← List.map_cons, List.getD_eq_getElem?_getD, List.getElem?_map, List.getElem?_eq_getElem lt] at e1
  rw [List.getElem?_eq_getElem lt, pairD_inj e1]
end
end L2

/-! name = {k: v for ..} on one line, the name a local -/
namespace L2
open PySem PySem.Spec PyProof.Rows
section
variable {X : Cx}
theorem ps_setDc {i : Nat} {y : Str} {py : Pos} {kx vx tg iter : Expr} {ifs : List Expr} {scope : Scope} {own : List (Str × Nat)} {pos spos : Pos} {wi : TI} {g : TG} {tt : TT} {tk tv : TE} (hc : X.calm = true) (hN : X.N.Nodup) (hy : X.N[i]? = some y) (hyl : X.env.scope.names.lookup y = some .local)
    (hsw : swapsWith (.DictComp kx vx [⟨tg, iter, ifs, 0⟩] scope pos) (some (.Name y py)) spos.line X.env = pure true) (hi : PI X tg iter wi) (ok : BlkOk X.N X.env.scope scope own)
    (hg : ∀ (s : Shared) (H : Hp) (C : Addr) (cl : List (Str × Addr)) (fp : List Addr), PG (X.blk s H scope (compEnvC scope cl C X.env) fp) tg g) (ht : ∀ (s : Shared) (H : Hp) (C : Addr) (cl : List (Str × Addr)) (fp : List Addr), PTs (X.blk s H scope (compEnvC scope cl C X.env) fp) ifs tt)
    (hk : ∀ (s : Shared) (H : Hp) (C : Addr) (cl : List (Str × Addr)) (fp : List Addr), PE (X.blk s H scope (compEnvC scope cl C X.env) fp) kx tk)
    (he : ∀ (s : Shared) (H : Hp) (C : Addr) (cl : List (Str × Addr)) (fp : List Addr), PE (X.blk s H scope (compEnvC scope cl C X.env) fp) vx tv) (hs : ∀ x, foldedSetIterable iter X.env x = pure x := by intro _; rfl) :
    PS X (.Assign [.Name y py] (.DictComp kx vx [⟨tg, iter, ifs, 0⟩] scope pos) spos) (tAsg (tDc wi g tt tk tv (own.map (·.2))) (gName i)) := by
  refine ⟨fun pins s σ H D I h => ?_⟩
  rw [exec_Assign_Name_used _ _ _ _ hsw]
  refine wpAny_bind (wpAny_standAt (wpAny_bind ?_))
  show wpAny _ X.A (do let _ ← comprehension (.DictComp kx vx [⟨tg, iter, ifs, 0⟩] scope pos) scope X.env (firstIterPos [⟨tg, iter, ifs, 0⟩] pos) newDict false (eval iter X.env) (some (assign (.Name y py) X.env))) _ _ s
  have h : tDc wi g tt tk tv (own.map (·.2)) σ H (fun x H1 => gName i x σ H1 D.nx) := h
  refine wpAny_bind (thn (dc_core (Qf := fun _ s' => SP X pins D .next s') hc hN I hi ok hg ht hk he hs h fun L C s' m H' I' q hn f => ?_) fun _ s' hq => wpAny_pure (wpAny_pure hq))
  show wpAny _ _ (assign (.Name y py) X.env (.ref L)) _ _ _
  refine wpAny_assign_Name (store_ok2 (v := V.ref L) I' hN hy (.inl hyl) rfl (fun s2 I2 ⟨a, sb, ha⟩ => ?_) (.inr hyl))
  obtain ⟨f0, f1, f2, f3, f4, f5⟩ := f
  have haC : C ≠ a := by
    rcases ha with z | z
    · rw [z]; exact f1
    · exact fun e => f4 y a z e.symm
  refine ⟨m, hn.sameBut sb haC, fun h3 sb3 => ?_⟩
  exact ⟨_, H', I2.turned (t' := s2.toks) (fun b o hb e => (sb3.2 b hb).trans e) f0 f1 f3 f4 f5, q⟩
theorem swD_true {kx vx : Expr} {gs : List Comprehension} {scope : Scope} {pos py : Pos} {y : Str} {l : Nat} {env : Env} (hk : env.scope.kind = .function) (hy : env.scope.names.lookup y = some .local) (hl : (py.line == pos.line) = true)
    (ha : (scope.names.any fun (n, k) => n == y && (k == .local || k == .cell)) = false) : swapsWith (.DictComp kx vx gs scope pos) (some (.Name y py)) l env = pure true := by
  have ky : env.kindOf y = some .local := hy
  have hb : env.blockKind = .function := by unfold Env.blockKind; rw [hk]; rfl
  unfold swapsWith
  simp only [hb, ky, ha, Expr.pos, hl]
  rfl
end
end L2

namespace K62
open PySem PySem.Spec PyProof.Rows L2 TL
/-! ### heaps: all but the bag's list stays -/
def Fr (b : Addr) (H H' : Hp) : Prop := ∀ a o, a ≠ b → H a = some o → H' a = some o
theorem Fr.refl (b : Addr) (H : Hp) : Fr b H H := fun _ _ _ h => h
theorem Fr.trans {b : Addr} {H H1 H2 : Hp} (x : Fr b H H1) (y : Fr b H1 H2) : Fr b H H2 := fun a o n h => y a o n (x a o n h)
theorem Fr.of_same {b : Addr} {H H1 : Hp} (x : Same H H1) : Fr b H H1 := fun a o _ h => x a o h
theorem Fr.new {b p : Addr} {H : Hp} {o : HO} (h : H p = none) : Fr b H (upd H p o) := fun a u _ e => by
  rw [upd_ne (ne_of_none e h)]; exact e
theorem Fr.upd_b {b : Addr} {H H1 : Hp} {o : HO} (x : Fr b H H1) : Fr b H (upd H1 b o) := fun a u n e => by
  rw [upd_ne n]; exact x a u n e
theorem Fr.free {b p : Addr} {H H' : Hp} (x : Fr b H H') (hb : p ≠ b) (h : H' p = none) : H p = none := by
  cases q : H p with
  | none => rfl
  | some o => rw [x p o hb q] at h; cases h
theorem Fr.upd_p {b p : Addr} {H H1 : Hp} {o : HO} (x : Fr b H H1) (h : H p = none) : Fr b H (upd H1 p o) := fun a u n e => by
  rw [upd_ne (ne_of_none e h)]; exact x a u n e
theorem Same.new {p : Addr} {H : Hp} {o : HO} (h : H p = none) : Same H (upd H p o) := fun a u e => by
  rw [upd_ne (ne_of_none e h)]; exact e
theorem Same.upd_p {p : Addr} {H H1 : Hp} {o : HO} (x : Same H H1) (h : H p = none) : Same H (upd H1 p o) := fun a u e => by
  rw [upd_ne (ne_of_none e h)]; exact x a u e
theorem Fr.seq {K : PySem.W.Frag} {b : Addr} {H H' : Hp} {a : Addr} {xs : List V} (e : Fr b H H') (n : a ≠ b) (h : SqL K H a xs) : SqL K H' a xs := by
  rcases h with (h | ⟨o, h⟩) | h
  · exact .inl (.inl (e _ _ n h))
  · exact .inl (.inr ⟨o, e _ _ n h⟩)
  · exact .inr h
/-- a bag of digits: what is left of the cell, the seed, the count of draws -/
def Bag (H : Hp) (b : Addr) (n : Nat) : Prop := ∃ x y z : Int, H b = some (.lst [.int x, .int y, .int z]) ∧ 0 ≤ x ∧ 0 ≤ y ∧ y < 2147483629 ∧ 0 ≤ z ∧ z ≤ n
theorem Bag.mono {H : Hp} {b : Addr} {n m : Nat} (h : Bag H b n) (l : n ≤ m) : Bag H b m := by
  obtain ⟨x, y, z, e, h1, h2, h3, h4, h5⟩ := h
  exact ⟨x, y, z, e, h1, h2, h3, h4, by omega⟩
theorem Bag.same {H H' : Hp} {b : Addr} {n : Nat} (h : Bag H b n) (s : Same H H') : Bag H' b n := by
  obtain ⟨x, y, z, e, r⟩ := h
  exact ⟨x, y, z, s _ _ e, r⟩
theorem Bag.ne {H : Hp} {b p : Addr} {n : Nat} (h : Bag H b n) (q : H p = none) : b ≠ p := by
  obtain ⟨x, y, z, e, r⟩ := h
  exact ne_of_none e q
theorem Bag.upd {H : Hp} {b p : Addr} {n : Nat} {o : HO} (h : Bag H b n) (q : b ≠ p) : Bag (upd H p o) b n := by
  obtain ⟨x, y, z, e, r⟩ := h
  exact ⟨x, y, z, by rw [upd_ne q]; exact e, r⟩
theorem Bag.some {H : Hp} {b : Addr} {n : Nat} (h : Bag H b n) : ∃ o, H b = some o := by
  obtain ⟨x, y, z, e, r⟩ := h
  exact ⟨_, e⟩
/-! ### the promises that all such laws share -/
def sp_cell (K : PySem.W.Frag) : Sp := fun vs H Q _ => ∃ (l : Addr) (ns : List Int) (j : Int), vs = [.ref l, .int j] ∧ SqL K H l (ns.map V.int) ∧ 0 ≤ j ∧ ∀ v : Int, Q (.int v) H
def sp_bag (K : PySem.W.Frag) : Sp := fun vs H Q _ => ∃ c : Int, vs = [.int c] ∧ ∀ p H', Same H H' → H p = none → Bag H' p 0 → Q (.ref p) H'
def sp_take (K : PySem.W.Frag) : Sp := fun vs H Q _ => ∃ (b : Addr) (n : Nat) (c : Int), vs = [.ref b, .int c] ∧ Bag H b n ∧ n ≤ 1000000 ∧ 0 < c ∧ c < 2 ^ 200 ∧
  ∀ (d : Int) H', Fr b H H' → Bag H' b (n + 1) → 0 ≤ d → d < c → Q (.int d) H'
def sp_law (K : PySem.W.Frag) : Sp := fun vs H Q _ => ∃ (a : Addr) (ns : List Int), vs = [.ref a] ∧ SqL K H a (ns.map V.int) ∧ ns.length ≤ 63 ∧ ∀ H', Q (.bl true) H'
/-! ### small facts -/
theorem atI_in {α : Type} {xs : List α} {i : Int} (h0 : 0 ≤ i) (h1 : i < (xs.length : Int)) : ∃ v, xs[i.toNat]? = some v ∧ atI xs i = some v := by
  have hj : i.toNat < xs.length := by omega
  refine ⟨xs[i.toNat], List.getElem?_eq_getElem hj, ?_⟩
  have e : ((i.toNat : Nat) : Int) = i := Int.toNat_of_nonneg h0
  have := atI_nat (xs := xs) (j := i.toNat) (List.getElem?_eq_getElem hj)
  rw [e] at this
  exact this
theorem atI_ints {ns : List Int} {i : Int} (h0 : 0 ≤ i) (h1 : i < (ns.length : Int)) : ∃ v : Int, atI (ns.map V.int) i = some (.int v) := by
  obtain ⟨v, e, h⟩ := atI_in (xs := ns.map V.int) h0 (by rw [List.length_map]; exact h1)
  rw [List.getElem?_map] at e
  cases q : ns[i.toNat]? with
  | none => rw [q] at e; cases e
  | some u => rw [q] at e; cases e; exact ⟨u, h⟩
theorem lt_of_dec {a b : Int} (h : decide (a < b) = true) : a < b := of_decide_eq_true h
theorem nlt_of_dec {a b : Int} (h : ¬ decide (a < b) = true) : ¬ a < b := fun x => h (decide_eq_true x)
theorem emod_in (a : Int) {m : Int} (h : 0 < m) : 0 ≤ a % m ∧ a % m < m := ⟨Int.emod_nonneg a (by omega), Int.emod_lt_of_pos a h⟩
/-! ### texts -/
theorem joinL_len (S : List Nat) : ∀ ps : List (List Nat), (joinL S ps).length ≤ (ps.map List.length).sum + ps.length * S.length
  | [] => by simp [joinL]
  | [p] => by simp [joinL]
  | p :: q :: r => by
    have h := joinL_len S (q :: r)
    show (p ++ (S ++ joinL S (q :: r))).length ≤ _
    simp only [List.length_append, List.map_cons, List.sum_cons, List.length_cons, Nat.add_mul, Nat.one_mul] at h ⊢
    omega
theorem join_len (a : Str) (ys : List Str) : (Txt.join a ys).length ≤ (ys.map (·.length)).sum + ys.length * a.length := by
  rw [join_eq, len_tl, tl_join, len_tl a]
  have h := joinL_len (tl a) (ys.map tl)
  rw [List.map_map, List.length_map] at h
  have e : ys.map (List.length ∘ tl) = ys.map (·.length) := List.map_congr_left fun x _ => (len_tl x).symm
  rw [e] at h
  exact h
theorem sum_len {ys : List Str} {L : Nat} (h : ∀ s ∈ ys, s.length ≤ L) : (ys.map (·.length)).sum ≤ ys.length * L := by
  induction ys with
  | nil => simp
  | cons a r ih =>
    have h1 := h a List.mem_cons_self
    have h2 := ih fun s hs => h s (List.mem_cons_of_mem _ hs)
    simp only [List.map_cons, List.sum_cons, List.length_cons, Nat.add_mul, Nat.one_mul]
    omega
theorem join_size {a : Str} {ys : List Str} {L n A : Nat} (h : ∀ s ∈ ys, s.length ≤ L) (hn : ys.length ≤ n) (ha : a.length ≤ A) : (ys.map (·.length)).sum + ys.length * a.length ≤ n * L + n * A :=
  Nat.add_le_add (Nat.le_trans (sum_len h) (Nat.mul_le_mul_right _ hn)) (Nat.mul_le_mul hn ha)
theorem app_len (a b : Str) : (a ++ b).length = a.length + b.length := by
  rw [len_tl, tl_append, List.length_append, ← len_tl, ← len_tl]
def rRepS : R2 := fun x y H Q => ∃ z i, x = .str z ∧ y = .int i ∧ z.length ≤ 100 ∧ 0 ≤ i ∧ i ≤ 1000 ∧ ∀ s : Str, s.length ≤ z.length * i.toNat → Q (.str s) H
theorem op_repS {X : Cx} : OpR X (binaryOp .Mult) rRepS := by
  intro pins s σ H x y v u Q I rx ry h
  obtain ⟨z, i, rfl, rfl, hz, h0, h1, q⟩ := h
  obtain ⟨t, rfl⟩ := rx
  obtain ⟨t', rfl⟩ := ry
  have hm : z.length * i.toNat ≤ 100 * 1000 := Nat.mul_le_mul hz (by omega)
  refine SB.mul ⟨?_, fun _ _ => ?_, fun _ _ => ?_⟩ (fun t'' k => ⟨.str (Txt.mul z i), H, I.tok _, ⟨_, rfl⟩, q _ ?_⟩)
  · rw [Bool.or_eq_false_iff]
    exact ⟨decide_eq_false (by omega), decide_eq_false (by omega)⟩
  · have h2 : (1000 : Int) ≤ (2 ^ 63 - 1) / i ∨ i = 0 := by
      by_cases e : i = 0
      · exact .inr e
      · left
        rw [Int.le_ediv_iff_mul_le (by omega)]
        omega
    rcases h2 with h2 | h2
    · omega
    · subst h2
      omega
  · have hz2 : sizeLine = 16777216 := sizeLine_eq
    unfold Builtin.Str.tooLong
    exact decide_eq_false (by omega)
  · have hl := PyProof.Rows.len_mul z i
    have e : (if decide (i < 0) = true then 0 else i) = i := by rw [if_neg (by simp; omega)]
    rw [e] at hl
    have e2 : (i.toNat : Int) = i := Int.toNat_of_nonneg h0
    rw [show (z.length : Int) * i = ((z.length * i.toNat : Nat) : Int) by rw [Int.natCast_mul, e2]] at hl
    omega
/-- a list of draws that are texts, made at D -/
def PvS (b D : Addr) (H1 : Hp) (n0 c L : Nat) (i : Nat) (H' : Hp) : Prop := H1 D = none ∧ D ≠ b ∧ ∃ ys : List Str, ys.length = i ∧ (∀ s ∈ ys, s.length ≤ L) ∧ H' D = some (.lst (ys.map V.str)) ∧ Fr b H1 H' ∧ Bag H' b (n0 + c * i)
theorem pvS_0 {b D : Addr} {H1 : Hp} {n0 c L : Nat} (hB : Bag H1 b n0) (hD : H1 D = none) : PvS b D H1 n0 c L 0 (upd H1 D (.lst [])) :=
  ⟨hD, (hB.ne hD).symm, [], rfl, fun _ h => (nomatch h), upd_same, Fr.new hD, (hB.upd (hB.ne hD)).mono (by omega)⟩
theorem pvS_put {b D : Addr} {H1 H' H4 : Hp} {n0 c L i : Nat} {s : Str} (p : PvS b D H1 n0 c L i H') (f4 : Fr b H' H4) (b4 : Bag H4 b (n0 + c * (i + 1))) (hs4 : s.length ≤ L) (hi : i < 100000) :
    ∃ acc, H4 D = some (.lst acc) ∧ acc.length < sizeLine ∧ PvS b D H1 n0 c L (i + 1) (upd H4 D (.lst (acc ++ [V.str s]))) := by
  obtain ⟨hD, n1, ys, hl, hs, hD', hF, hB'⟩ := p
  refine ⟨ys.map V.str, f4 D _ n1 hD', ?_, hD, n1, ys ++ [s], by rw [List.length_append, hl]; rfl, ?_, ?_, (hF.trans f4).upd_p hD, b4.upd n1.symm⟩
  · rw [List.length_map, hl]
    have : sizeLine = 16777216 := sizeLine_eq
    omega
  · intro x hx
    rcases List.mem_append.mp hx with h | h
    · exact hs x h
    · rw [List.mem_singleton.mp h]; exact hs4
  · rw [upd_same, List.map_append]; rfl
/-- a def that draws a text -/
def sp_str (c L : Nat) : Sp := fun vs H Q _ => ∃ (b : Addr) (n : Nat), vs = [.ref b] ∧ Bag H b n ∧ n + c ≤ 1000000 ∧ ∀ (s : Str) H', Fr b H H' → Bag H' b (n + c) → s.length ≤ L → Q (.str s) H'
theorem slen {n : Nat} (h : n ≤ 100000) : n ≤ sizeLine := Nat.le_trans h (by decide)
theorem str_at {xs : List V} {i : Int} {L : Nat} (h0 : 0 ≤ i) (h1 : i < (xs.length : Int)) (h : ∀ v ∈ xs, ∃ s : Str, v = .str s ∧ s.length ≤ L) : ∃ s : Str, atI xs i = some (.str s) ∧ s.length ≤ L := by
  obtain ⟨v, e, a⟩ := atI_in h0 h1
  obtain ⟨s, rfl, hs⟩ := h v (List.mem_of_getElem? e)
  exact ⟨s, a, hs⟩
theorem lenk {α : Type} {xs : List α} (n : Nat) (h : xs.length = n) (hn : n ≤ 100000) : xs.length ≤ sizeLine := slen (by omega)

end K62
namespace K62
open PySem PySem.Spec PyProof.Rows L2 TL
theorem ok_l_cell {P : Program} {w : World} {K : PySem.W.Frag} {mg : Str → Option Value} {base : Heap} (T : Txt P K mg) : FnOk P w K mg base CX0 1 T.f_l_cell T.fd_l_cell ["_law_script", "_law_k"] (sp_cell K) := by
  refine T.F_l_cell.ok sc_l_cell (fun vs H Q E h => ?_) (fun cdv A outer s H vs Q E hr h => ?_)
  · obtain ⟨_, _, _, rfl, _⟩ := h; rfl
  · obtain ⟨l, ns, j, rfl, hS, hj, q⟩ := h
    refine ⟨_, PSs.nox (pss_cons (ps_if (pt_cmpR op_lt (pv 1) (pe_callB (show CallR _ _ (rLenSeq K) from call_len_seq) (by rfl) T.n_len (by decide +kernel) (pa_cons (pv 0) pa_nil)) (nomark _)) (pss_one (ps_ret (pe_ix (show IxR _ (rIxL K) from ix_list) (pv 0) (pv 1) (fun _ _ => rfl)))) pss_nil)
      (pss_one (ps_ret (pe_op op_add (pe_op op_mul pe_int (pv 1)) pe_int)))), ?_⟩
    refine ⟨_, rfl, _, rfl, l, _, rfl, .inl hS, _, _, rfl, rfl, _, rfl, ite2 (fun e => ?_) (fun e => ?_)⟩
    · have e1 := lt_of_dec e
      rw [List.length_map] at e1
      obtain ⟨v, hv⟩ := atI_ints hj e1
      exact ⟨_, rfl, _, rfl, l, _, _, _, rfl, rfl, hS, hv, q v⟩
    · exact ⟨_, rfl, _, _, rfl, rfl, .inl ⟨by decide, by decide⟩, _, _, rfl, rfl, q _⟩
theorem ok_l_box {P : Program} {w : World} {K : PySem.W.Frag} {mg : Str → Option Value} {base : Heap} (T : Txt P K mg) : FnOk P w K mg base CX0 1 T.f_l_box T.fd_l_box ["_law_cell_here"] (sp_bag K) := by
  refine T.F_l_box.ok sc_l_box (fun vs H Q E h => ?_) (fun cdv A outer s H vs Q E hr h => ?_)
  · obtain ⟨_, rfl, _⟩ := h; rfl
  · obtain ⟨c, rfl, q⟩ := h
    refine ⟨_, PSs.nox (pss_one (ps_ret (pe_lst (pa_cons (pe_callB (call_max2 rfl) (by rfl) T.n_max (by decide +kernel) (pa_cons pe_int (pa_cons (pe_op op_sub (pv 0) (pe_op op_pow pe_int pe_int)) pa_nil))) (pa_cons (pe_op op_mod (pv 0) pe_int) (pa_cons pe_int pa_nil)))))), ?_⟩
    refine ⟨_, rfl, _, _, rfl, rfl, ⟨by decide, by decide, by decide⟩, _, _, rfl, rfl, _, _, rfl, _, rfl, _, _, rfl, rfl, (show (0 : Int) < _ by decide), ?_⟩
    refine ⟨(by show 3 ≤ sizeLine; decide), fun p np => q p _ (Same.new np) np ⟨_, _, _, upd_same, ?_, (emod_in c (by decide)).1, (emod_in c (by decide)).2, Int.le_refl 0, Int.le_refl 0⟩⟩
    split <;> omega
theorem ok_l_take {P : Program} {w : World} {K : PySem.W.Frag} {mg : Str → Option Value} {base : Heap} (T : Txt P K mg) : FnOk P w K mg base CX0 1 T.f_l_take T.fd_l_take ["_law_box_here", "_law_many"] (sp_take K) := by
  refine T.F_l_take.ok sc_l_take (fun vs H Q E h => ?_) (fun cdv A outer s H vs Q E hr h => ?_)
  · obtain ⟨_, _, _, rfl, _⟩ := h; rfl
  · obtain ⟨b, n, c, rfl, ⟨x, y, z, hb, hx, hy, hy2, hz, hz2⟩, hn, hc, hc2, q⟩ := h
    have wc : CDivW x c := wide_div hc (b := 200) (by omega) (by decide) (by decide)
    refine ⟨_, PSs.nox (pss_cons (ps_if (pt_cmpR op_gt (pe_ix (show IxR _ (rIxL K) from ix_list) (pv 0) pe_int (fun _ _ => rfl)) pe_int (nomark _)) (pss_cons (ps_set (i := 2) sc_l_take.nd rfl (Or.inl rfl) (pe_op op_mod (pe_ix (show IxR _ (rIxL K) from ix_list) (pv 0) pe_int (fun _ _ => rfl)) (pv 1)))
      (pss_cons (ps_asg (pe_op op_fdivW (pe_ix (show IxR _ (rIxL K) from ix_list) (pv 0) pe_int (fun _ _ => rfl)) (pv 1)) (pg_sub (pv 0) pe_int set_list))
      (pss_one (ps_ret (pv 2))))) pss_nil)
      (pss_cons (ps_asg (pe_op op_add (pe_ix (show IxR _ (rIxL K) from ix_list) (pv 0) pe_int (fun _ _ => rfl)) pe_int) (pg_sub (pv 0) pe_int set_list))
      (pss_cons (ps_set (i := 3) sc_l_take.nd rfl (Or.inl rfl) (pe_op op_mod (pe_op op_pow (pe_op op_add (pe_op op_add (pe_ix (show IxR _ (rIxL K) from ix_list) (pv 0) pe_int (fun _ _ => rfl)) (pe_op op_mul pe_int (pe_ix (show IxR _ (rIxL K) from ix_list) (pv 0) pe_int (fun _ _ => rfl)))) pe_int) pe_int) pe_int))
      (pss_cons (ps_set (i := 3) sc_l_take.nd rfl (Or.inl rfl) (pe_op op_mod (pe_op op_pow (pe_op op_add (pv 3) (pe_op op_mul pe_int (pe_ix (show IxR _ (rIxL K) from ix_list) (pv 0) pe_int (fun _ _ => rfl)))) pe_int) pe_int))
      (pss_one (ps_ret (pe_op op_mod (pe_op op_fdivW (pv 3) pe_int) (pv 1)))))))), ?_⟩
    refine ⟨_, rfl, b, _, _, _, rfl, rfl, SqL.of hb, rfl, _, _, rfl, rfl, _, rfl, ite2 (fun e => ?_) (fun e => ?_)⟩
    · -- a digit of the cell
      refine ⟨_, rfl, b, _, _, _, rfl, rfl, SqL.of hb, rfl, _, rfl, _, _, rfl, rfl, hc, ?_⟩
      refine ⟨_, rfl, b, _, _, _, rfl, rfl, SqL.of hb, rfl, _, rfl, _, _, rfl, rfl, wc, ?_⟩
      refine ⟨_, rfl, b, _, _, 0, rfl, rfl, hb, rfl, ?_⟩
      refine ⟨_, rfl, q _ _ (Fr.upd_b (Fr.refl b H)) ⟨_, _, _, upd_same, Int.ediv_nonneg hx (by omega), hy, hy2, hz, by omega⟩ (emod_in x hc).1 (emod_in x hc).2⟩
    · -- a mixed one
      refine ⟨_, rfl, b, _, _, _, rfl, rfl, SqL.of hb, rfl, _, _, rfl, rfl, ?_⟩
      refine ⟨_, rfl, b, _, _, 2, rfl, rfl, hb, rfl, ?_⟩
      have hb2 : upd H b (.lst ([V.int x, V.int y, V.int z].set 2 (V.int (z + 1)))) b = some (.lst [.int x, .int y, .int (z + 1)]) := upd_same
      refine ⟨_, rfl, b, _, _, _, rfl, rfl, SqL.of hb2, rfl, _, rfl, b, _, _, _, rfl, rfl, SqL.of hb2, rfl, _, _, rfl, rfl, .inl ⟨by decide, by decide⟩, _, _, rfl, rfl, _, _, rfl, rfl, _, _, rfl, rfl, ⟨by decide, by decide, by omega⟩, _, _, rfl, rfl, (show (0 : Int) < _ by decide), ?_⟩
      have m1 := emod_in ((y + 15486133 * (z + 1) + 73) ^ (5 : Int).toNat) (m := 2147483647) (by decide)
      generalize (y + 15486133 * (z + 1) + 73) ^ (5 : Int).toNat % 2147483647 = t at m1
      refine ⟨_, rfl, _, rfl, b, _, _, _, rfl, rfl, SqL.of hb2, rfl, _, _, rfl, rfl, .inl ⟨by decide, by decide⟩, _, _, rfl, rfl, _, _, rfl, rfl, ⟨by decide, by decide, by omega⟩, _, _, rfl, rfl, (show (0 : Int) < _ by decide), ?_⟩
      have m2 := emod_in ((t + 104729 * (z + 1)) ^ (3 : Int).toNat) (m := 2147483587) (by decide)
      generalize (t + 104729 * (z + 1)) ^ (3 : Int).toNat % 2147483587 = u at m2
      refine ⟨_, rfl, _, _, rfl, rfl, wide_div (by decide) (b := 10) (by decide) (by decide) (by decide), _, rfl, _, _, rfl, rfl, hc, ?_⟩
      exact q _ _ (Fr.upd_b (Fr.refl b H)) ⟨_, _, _, upd_same, hx, hy, hy2, by omega, by omega⟩ (emod_in _ hc).1 (emod_in _ hc).2

end K62
namespace K62
open PySem PySem.Spec PyProof.Rows L2 TL
/-! ### data that stand: variables, events -/
theorem pd_get {α β : Type} {F : α → β → Prop} : ∀ {l₁ : List α} {l₂ : List β} {i : Nat} {x : α}, Paired F l₁ l₂ → l₁[i]? = some x → ∃ y, l₂[i]? = some y ∧ F x y
  | _, _, _, _, .nil, e => by simp at e
  | _, _, 0, _, .cons r _, e => by simp at e; subst e; exact ⟨_, rfl, r⟩
  | _, _, i + 1, x, .cons _ t, e => by
    obtain ⟨y, h1, h2⟩ := pd_get (i := i) (x := x) t (by simpa using e)
    exact ⟨y, by simpa using h1, h2⟩
theorem pd_get' {α β : Type} {F : α → β → Prop} : ∀ {l₁ : List α} {l₂ : List β} {i : Nat} {y : β}, Paired F l₁ l₂ → l₂[i]? = some y → ∃ x, l₁[i]? = some x ∧ F x y
  | _, _, _, _, .nil, e => by simp at e
  | _, _, 0, _, .cons r _, e => by simp at e; subst e; exact ⟨_, rfl, r⟩
  | _, _, i + 1, y, .cons _ t, e => by
    obtain ⟨x, h1, h2⟩ := pd_get' (i := i) (y := y) t (by simpa using e)
    exact ⟨x, by simpa using h1, h2⟩
theorem pd_app {α β : Type} {F : α → β → Prop} : ∀ {a b : List α} {c d : List β}, Paired F a c → Paired F b d → Paired F (a ++ b) (c ++ d)
  | _, _, _, _, .nil, h => h
  | _, _, _, _, .cons r t, h => .cons r (pd_app t h)
theorem pd_map {α β : Type} {F : α → β → Prop} (f : β → α) : ∀ {l : List β}, (∀ y ∈ l, F (f y) y) → Paired F (l.map f) l
  | [], _ => .nil
  | y :: r, h => .cons (h y List.mem_cons_self) (pd_map f fun z hz => h z (List.mem_cons_of_mem _ hz))
/-- what does not stand in W stays -/
def Mv (W : Addr → Prop) (H H' : Hp) : Prop := ∀ a o, ¬ W a → H a = some o → H' a = some o
theorem Mv.of_same {W : Addr → Prop} {H H' : Hp} (h : Same H H') : Mv W H H' := fun a o _ e => h a o e
theorem Mv.of_fr {b : Addr} {H H' : Hp} (h : Fr b H H') : Mv (fun a => a = b) H H' := fun a o n e => h a o n e
/-- a list or a tuple at a place of F -/
def LT (H : Hp) (F : Addr → Prop) (a : Addr) (xs : List V) : Prop := F a ∧ (H a = some (.lst xs) ∨ H a = some (.tup xs))
theorem LT.sq {K : PySem.W.Frag} {H : Hp} {F : Addr → Prop} {a : Addr} {xs : List V} (h : LT H F a xs) : SqL K H a xs ∨ SqT K H a xs := by
  obtain ⟨_, h | h⟩ := h
  · exact .inl (SqL.of h)
  · exact .inr (.inl (.inl h))
theorem LT.mv {H H' : Hp} {F W : Addr → Prop} {a : Addr} {xs : List V} (h : LT H F a xs) (m : Mv W H H') (d : ∀ a, F a → ¬ W a) : LT H' F a xs := by
  obtain ⟨f, h | h⟩ := h
  · exact ⟨f, .inl (m _ _ (d _ f) h)⟩
  · exact ⟨f, .inr (m _ _ (d _ f) h)⟩
def isPair (H : Hp) (G : Addr → Prop) (x : V) (q : Str × Int) : Prop := ∃ t, x = .ref t ∧ G t ∧ H t = some (.tup [.str q.1, .int q.2])
def isTupI (H : Hp) (G : Addr → Prop) (x : V) (ns : List Int) : Prop := ∃ t, x = .ref t ∧ G t ∧ H t = some (.tup (ns.map V.int))
abbrev Row := Str × List Str × List (List Int)
def isRow (H : Hp) (F G : Addr → Prop) (x : V) (r : Row) : Prop := ∃ p a b ys, x = .ref p ∧ F p ∧ H p = some (.tup [.str r.1, .ref a, .ref b]) ∧ LT H F a (r.2.1.map V.str) ∧ LT H F b ys ∧ Paired (isTupI H G) ys r.2.2
def isVars (H : Hp) (F G : Addr → Prop) (v : V) (L : List (Str × Int)) : Prop := ∃ a xs, v = .ref a ∧ LT H F a xs ∧ Paired (isPair H G) xs L
def isEvs (H : Hp) (F G : Addr → Prop) (v : V) (R : List Row) : Prop := ∃ a xs, v = .ref a ∧ LT H F a xs ∧ Paired (isRow H F G) xs R
section
variable {H H' : Hp} {F F' G G' W : Addr → Prop}
theorem isPair.mv {x : V} {q : Str × Int} (h : isPair H G x q) (m : Mv W H H') (d : ∀ a, G a → ¬ W a) : isPair H' G x q := by
  obtain ⟨t, e, g, h⟩ := h
  exact ⟨t, e, g, m _ _ (d _ g) h⟩
theorem isTupI.mv {x : V} {ns : List Int} (h : isTupI H G x ns) (m : Mv W H H') (d : ∀ a, G a → ¬ W a) : isTupI H' G x ns := by
  obtain ⟨t, e, g, h⟩ := h
  exact ⟨t, e, g, m _ _ (d _ g) h⟩
theorem isRow.mv {x : V} {r : Row} (h : isRow H F G x r) (m : Mv W H H') (d : ∀ a, F a → ¬ W a) (d' : ∀ a, G a → ¬ W a) : isRow H' F G x r := by
  obtain ⟨p, a, b, ys, e, f, h, la, lb, hp⟩ := h
  exact ⟨p, a, b, ys, e, f, m _ _ (d _ f) h, la.mv m d, lb.mv m d, Paired.mono (fun _ _ z => z.mv m d') hp⟩
theorem isVars.mv {v : V} {L : List (Str × Int)} (h : isVars H F G v L) (m : Mv W H H') (d : ∀ a, F a → ¬ W a) (d' : ∀ a, G a → ¬ W a) : isVars H' F G v L := by
  obtain ⟨a, xs, e, la, hp⟩ := h
  exact ⟨a, xs, e, la.mv m d, Paired.mono (fun _ _ z => z.mv m d') hp⟩
theorem isEvs.mv {v : V} {R : List Row} (h : isEvs H F G v R) (m : Mv W H H') (d : ∀ a, F a → ¬ W a) (d' : ∀ a, G a → ¬ W a) : isEvs H' F G v R := by
  obtain ⟨a, xs, e, la, hp⟩ := h
  exact ⟨a, xs, e, la.mv m d, Paired.mono (fun _ _ z => z.mv m d d') hp⟩
theorem LT.wk {a : Addr} {xs : List V} (h : LT H F a xs) (f : ∀ a, F a → F' a) : LT H F' a xs := ⟨f _ h.1, h.2⟩
theorem isPair.wk {x : V} {q : Str × Int} (h : isPair H G x q) (f : ∀ a, G a → G' a) : isPair H G' x q := by
  obtain ⟨t, e, g, h⟩ := h
  exact ⟨t, e, f _ g, h⟩
theorem isTupI.wk {x : V} {ns : List Int} (h : isTupI H G x ns) (f : ∀ a, G a → G' a) : isTupI H G' x ns := by
  obtain ⟨t, e, g, h⟩ := h
  exact ⟨t, e, f _ g, h⟩
theorem isRow.wk {x : V} {r : Row} (h : isRow H F G x r) (f : ∀ a, F a → F' a) (g : ∀ a, G a → G' a) : isRow H F' G' x r := by
  obtain ⟨p, a, b, ys, e, ff, h, la, lb, hp⟩ := h
  exact ⟨p, a, b, ys, e, f _ ff, h, la.wk f, lb.wk f, Paired.mono (fun _ _ z => z.wk g) hp⟩
theorem isVars.wk {v : V} {L : List (Str × Int)} (h : isVars H F G v L) (f : ∀ a, F a → F' a) (g : ∀ a, G a → G' a) : isVars H F' G' v L := by
  obtain ⟨a, xs, e, la, hp⟩ := h
  exact ⟨a, xs, e, la.wk f, Paired.mono (fun _ _ z => z.wk g) hp⟩
theorem isEvs.wk {v : V} {R : List Row} (h : isEvs H F G v R) (f : ∀ a, F a → F' a) (g : ∀ a, G a → G' a) : isEvs H F' G' v R := by
  obtain ⟨a, xs, e, la, hp⟩ := h
  exact ⟨a, xs, e, la.wk f, Paired.mono (fun _ _ z => z.wk f g) hp⟩
theorem isPair.same {x : V} {q : Str × Int} (h : isPair H G x q) (m : Same H H') : isPair H' G x q := h.mv (Mv.of_same m (W := fun _ => False)) fun _ _ z => z
theorem isTupI.same {x : V} {ns : List Int} (h : isTupI H G x ns) (m : Same H H') : isTupI H' G x ns := h.mv (Mv.of_same m (W := fun _ => False)) fun _ _ z => z
theorem isRow.same {x : V} {r : Row} (h : isRow H F G x r) (m : Same H H') : isRow H' F G x r := h.mv (Mv.of_same m (W := fun _ => False)) (fun _ _ z => z) fun _ _ z => z
theorem isVars.same {v : V} {L : List (Str × Int)} (h : isVars H F G v L) (m : Same H H') : isVars H' F G v L := h.mv (Mv.of_same m (W := fun _ => False)) (fun _ _ z => z) fun _ _ z => z
theorem isEvs.same {v : V} {R : List Row} (h : isEvs H F G v R) (m : Same H H') : isEvs H' F G v R := h.mv (Mv.of_same m (W := fun _ => False)) (fun _ _ z => z) fun _ _ z => z
theorem LT.same {a : Addr} {xs : List V} (h : LT H F a xs) (m : Same H H') : LT H' F a xs := h.mv (Mv.of_same m (W := fun _ => False)) fun _ _ z => z
end
/-- a row whose scope and bad tuples are lists -/
def isRowS (H : Hp) (F G : Addr → Prop) (x : V) (r : Row) : Prop := ∃ p a b ys, x = .ref p ∧ F p ∧ H p = some (.tup [.str r.1, .ref a, .ref b]) ∧ (F a ∧ H a = some (.lst (r.2.1.map V.str))) ∧ (F b ∧ H b = some (.lst ys)) ∧ Paired (isTupI H G) ys r.2.2
section
variable {H H' : Hp} {F F' G G' W : Addr → Prop}
theorem isRowS.row {x : V} {r : Row} (h : isRowS H F G x r) : isRow H F G x r := by
  obtain ⟨p, a, b, ys, e, f, h, la, lb, hp⟩ := h
  exact ⟨p, a, b, ys, e, f, h, ⟨la.1, .inl la.2⟩, ⟨lb.1, .inl lb.2⟩, hp⟩
theorem isRowS.mv {x : V} {r : Row} (h : isRowS H F G x r) (m : Mv W H H') (d : ∀ a, F a → ¬ W a) (d' : ∀ a, G a → ¬ W a) : isRowS H' F G x r := by
  obtain ⟨p, a, b, ys, e, f, h, la, lb, hp⟩ := h
  exact ⟨p, a, b, ys, e, f, m _ _ (d _ f) h, ⟨la.1, m _ _ (d _ la.1) la.2⟩, ⟨lb.1, m _ _ (d _ lb.1) lb.2⟩, Paired.mono (fun _ _ z => z.mv m d') hp⟩
theorem isRowS.wk {x : V} {r : Row} (h : isRowS H F G x r) (f : ∀ a, F a → F' a) (g : ∀ a, G a → G' a) : isRowS H F' G' x r := by
  obtain ⟨p, a, b, ys, e, ff, h, la, lb, hp⟩ := h
  exact ⟨p, a, b, ys, e, f _ ff, h, ⟨f _ la.1, la.2⟩, ⟨f _ lb.1, lb.2⟩, Paired.mono (fun _ _ z => z.wk g) hp⟩
theorem isRowS.same {x : V} {r : Row} (h : isRowS H F G x r) (m : Same H H') : isRowS H' F G x r := h.mv (Mv.of_same m (W := fun _ => False)) (fun _ _ z => z) fun _ _ z => z
end
/-! ### what is asked of them -/
def NameOk (s : Str) : Prop := 1 ≤ (tl s).length ∧ (tl s).length ≤ 8 ∧ ∀ c ∈ tl s, 97 ≤ c ∧ c ≤ 122
def sizeOf (L : List (Str × Int)) (x : Str) : Int := ((L.find? fun q => decide (q.1 = x)).map (·.2)).getD 0
structure VarsOk (L : List (Str × Int)) : Prop where
  pos : 1 ≤ L.length
  few : L.length ≤ 8
  nm : ∀ q ∈ L, NameOk q.1
  sz : ∀ q ∈ L, 1 ≤ q.2 ∧ q.2 ≤ 6
  nd : (L.map (·.1)).Nodup
structure RowOk (L : List (Str × Int)) (r : Row) : Prop where
  nm : NameOk r.1
  pos : 1 ≤ r.2.1.length
  few : r.2.1.length ≤ 4
  sub : ∀ x ∈ r.2.1, x ∈ L.map (·.1)
  nd : r.2.1.Nodup
  bfew : r.2.2.length ≤ 12
  bnd : r.2.2.Nodup
  bl : ∀ ns ∈ r.2.2, ns.length = r.2.1.length
  bv : ∀ ns ∈ r.2.2, ∀ (i : Nat) (x : Str) (v : Int), r.2.1[i]? = some x → ns[i]? = some v → 0 ≤ v ∧ v < sizeOf L x
structure EvsOk (L : List (Str × Int)) (R : List Row) : Prop where
  few : R.length ≤ 8
  ok : ∀ r ∈ R, RowOk L r
  nd : (R.map (·.1)).Nodup

end K62
namespace K62
open PySem PySem.Spec PyProof.Rows L2 TL
/-! ### data: shapes, equality -/
def Shd (k : Nat) (d : PyData) : Prop := d.canLay0 = true ∧ d.depth ≤ k
theorem Shd.shaped {k : Nat} {d : PyData} (h : Shd k d) (hk : k ≤ 64) : SeqAt.shaped d = true := by
  unfold SeqAt.shaped
  rw [h.1, Bool.true_and]
  exact decide_eq_true (Nat.le_trans h.2 hk)
theorem shd_all {k : Nat} : ∀ {ds : List PyData}, (∀ d ∈ ds, Shd k d) → PyData.canLayAll0 ds = true ∧ PyData.depthAll ds ≤ k
  | [], _ => ⟨by simp [PyData.canLayAll0], by simp [PyData.depthAll]⟩
  | d :: r, h => by
    obtain ⟨h1, h2⟩ := shd_all (ds := r) fun x hx => h x (List.mem_cons_of_mem _ hx)
    obtain ⟨h3, h4⟩ := h d List.mem_cons_self
    exact ⟨by simp only [PyData.canLayAll0]; rw [h3, h1]; rfl, by simp only [PyData.depthAll]; omega⟩
theorem Shd.tuple {k : Nat} {ds : List PyData} (h : ∀ d ∈ ds, Shd k d) : Shd (k + 1) (.tuple ds) := by
  obtain ⟨h1, h2⟩ := shd_all h
  exact ⟨by simp only [PyData.canLay0]; exact h1, by simp only [PyData.depth]; omega⟩
theorem Shd.list {k : Nat} {ds : List PyData} (h : ∀ d ∈ ds, Shd k d) : Shd (k + 1) (.list ds) := by
  obtain ⟨h1, h2⟩ := shd_all h
  exact ⟨by simp only [PyData.canLay0]; exact h1, by simp only [PyData.depth]; omega⟩
theorem Shd.int (i : Int) : Shd 0 (.int i) := ⟨by simp only [PyData.canLay0], by simp only [PyData.depth]; omega⟩
theorem Shd.str {s : Str} (h : NameOk s) : Shd 0 (.str s) := by
  refine ⟨?_, by simp only [PyData.depth]; omega⟩
  simp only [PyData.canLay0]
  show s.cps.all _ = true
  rw [Array.all_eq_true']
  intro c hc
  have := h.2.2 c (Array.mem_toList_iff.mpr hc)
  exact decide_eq_true (by omega)
def tupD (ns : List Int) : PyData := .tuple (ns.map PyData.int)
theorem shd_tup (ns : List Int) : Shd 1 (tupD ns) := Shd.tuple fun d hd => by
  obtain ⟨i, _, rfl⟩ := List.mem_map.mp hd
  exact Shd.int i
theorem shd_tups (l : List (List Int)) : Shd 2 (.list (l.map tupD)) := Shd.list fun d hd => by
  obtain ⟨i, _, rfl⟩ := List.mem_map.mp hd
  exact shd_tup i
theorem eqv_ints : ∀ ns ms : List Int, PyData.eqvAll (ns.map PyData.int) (ms.map PyData.int) = decide (ns = ms)
  | [], [] => by simp [PyData.eqvAll]
  | [], _ :: _ => by simp [PyData.eqvAll]
  | _ :: _, [] => by simp [PyData.eqvAll]
  | n :: ns, m :: ms => by
    simp only [List.map_cons, PyData.eqvAll, PyData.eqv]
    rw [eqv_ints ns ms]
    by_cases h : n = m
    · subst h; simp
    · have : (n == m) = false := by simpa using h
      rw [this, Bool.false_and]
      symm
      exact decide_eq_false fun e => h (List.cons.inj e).1
theorem eqv_tup (ns ms : List Int) : PyData.eqv (tupD ns) (tupD ms) = decide (ns = ms) := by
  unfold tupD
  simp only [PyData.eqv]
  exact eqv_ints ns ms
theorem any_tups (l : List (List Int)) (ns : List Int) : ((l.map tupD).any fun z => PyData.eqv z (tupD ns)) = decide (ns ∈ l) := by
  induction l with
  | nil => rfl
  | cons a r ih =>
    rw [List.map_cons, List.any_cons, ih, eqv_tup]
    by_cases h : a = ns
    · subst h; simp
    · rw [decide_eq_false h, Bool.false_or]
      by_cases h2 : ns ∈ r
      · rw [decide_eq_true h2, decide_eq_true (List.mem_cons_of_mem _ h2)]
      · rw [decide_eq_false h2, decide_eq_false fun z => by rcases List.mem_cons.mp z with z | z; exact h z.symm; exact h2 z]
theorem dp_ints {K : PySem.W.Frag} {H : Hp} : ∀ ns : List Int, DpAll K H (ns.map V.int) (ns.map PyData.int)
  | [] => .nil
  | n :: r => .cons (.int n) (dp_ints r)
theorem dp_tup {K : PySem.W.Frag} {H : Hp} {G : Addr → Prop} {x : V} {ns : List Int} (h : isTupI H G x ns) : Dp K H x (tupD ns) := by
  obtain ⟨t, rfl, _, h⟩ := h
  exact .tup (.inl (.inl h)) (dp_ints ns)
theorem dp_all {K : PySem.W.Frag} {H : Hp} {α : Type} {F : V → α → Prop} {f : α → PyData} (hf : ∀ x y, F x y → Dp K H x (f y)) : ∀ {xs : List V} {ys : List α}, Paired F xs ys → DpAll K H xs (ys.map f)
  | _, _, .nil => .nil
  | _, _, .cons r t => .cons (hf _ _ r) (dp_all hf t)

end K62
namespace K62
open PySem PySem.Spec PyProof.Rows L2 TL
/-! ### variables and events, drawn -/
def NewTo (H : Hp) (b : Addr) : Addr → Prop := fun t => H t = none ∧ t ≠ b
theorem ints_at {ns : List Int} {i : Int} (h0 : 0 ≤ i) (h1 : i < (ns.length : Int)) : ∃ v : Int, atI (ns.map V.int) i = some (.int v) ∧ v ∈ ns := by
  obtain ⟨v, hv, _⟩ := atI_in (xs := ns) h0 h1
  refine ⟨v, ?_, List.mem_of_getElem? hv⟩
  have e : ((i.toNat : Nat) : Int) = i := Int.toNat_of_nonneg h0
  have := atI_nat (xs := ns.map V.int) (j := i.toNat) (v := .int v) (by rw [List.getElem?_map, hv]; rfl)
  rw [e] at this
  exact this
def kvL (L : List (Str × Int)) : List (Key × V) := L.map fun q => (Sum.inr q.1, V.int q.2)
theorem kvL_val (L : List (Str × Int)) (x : Str) : valV (kvL L) (Sum.inr x) = (L.find? fun q => decide (q.1 = x)).map fun q => V.int q.2 := by
  unfold kvL valV
  rw [List.find?_map, Option.map_map]
  have e : ((fun kv : Key × V => decide (kv.1 = Sum.inr x)) ∘ fun q : Str × Int => ((Sum.inr q.1 : Key), V.int q.2)) = fun q => decide (q.1 = x) := by
    funext q
    show decide ((Sum.inr q.1 : Key) = Sum.inr x) = _
    by_cases h : q.1 = x
    · rw [h]; simp
    · rw [decide_eq_false h, decide_eq_false fun z => h (Sum.inr.inj z)]
  rw [e]
  rfl
theorem find_mem {L : List (Str × Int)} {x : Str} (h : x ∈ L.map (·.1)) : ∃ q ∈ L, q.1 = x ∧ (L.find? fun q => decide (q.1 = x)) = some q := by
  cases e : L.find? fun q => decide (q.1 = x) with
  | none =>
    obtain ⟨q, hq, ex⟩ := List.mem_map.mp h
    have := List.find?_eq_none.mp e q hq
    exact absurd (decide_eq_true ex) this
  | some q =>
    have h1 := List.find?_some e
    exact ⟨q, List.mem_of_find?_eq_some e, of_decide_eq_true h1, rfl⟩
theorem sizes_val {L : List (Str × Int)} (h : VarsOk L) {x : Str} (hx : x ∈ L.map (·.1)) : valV (kvL L) (Sum.inr x) = some (.int (sizeOf L x)) ∧ 1 ≤ sizeOf L x ∧ sizeOf L x ≤ 6 := by
  obtain ⟨q, hq, _, e⟩ := find_mem hx
  have hs : sizeOf L x = q.2 := by unfold sizeOf; rw [e]; rfl
  rw [kvL_val, e, hs]
  exact ⟨rfl, h.sz q hq⟩
theorem merge_new : ∀ (more kvs : List (Key × V)), (more.map (·.1)).Nodup → (∀ k ∈ more.map (·.1), k ∉ kvs.map (·.1)) → mergeK kvs more = kvs ++ more
  | [], kvs, _, _ => by simp [mergeK]
  | (k, v) :: r, kvs, nd, dj => by
    rw [List.map_cons, List.nodup_cons] at nd
    have hk : putK kvs k v = kvs ++ [(k, v)] := by
      unfold putK
      rw [if_neg]
      intro h
      obtain ⟨p, hp, e⟩ := List.any_eq_true.mp h
      exact dj k (by simp) (List.mem_map.mpr ⟨p, hp, of_decide_eq_true e⟩)
    show mergeK (putK kvs k v) r = _
    rw [hk, merge_new r _ nd.2 fun k' hk' hm => ?_, List.append_assoc]
    · rfl
    · rw [List.map_append] at hm
      rcases List.mem_append.mp hm with h | h
      · exact dj k' (List.mem_cons_of_mem _ hk') h
      · have : k' = k := by simpa using h
        rw [this] at hk'
        exact nd.1 hk'
theorem kvL_keys (L : List (Str × Int)) : (kvL L).map (·.1) = (L.map (·.1)).map Sum.inr := by
  unfold kvL
  rw [List.map_map, List.map_map]
  rfl
theorem inr_nodup {l : List Str} (h : l.Nodup) : (l.map (Sum.inr : Str → Key)).Nodup := by
  rw [List.nodup_iff_pairwise_ne, List.pairwise_map]
  exact (List.nodup_iff_pairwise_ne.mp h).imp fun {a b} z e => z (Sum.inr.inj e)
theorem merge_kvL {L : List (Str × Int)} (h : VarsOk L) : mergeK [] (kvL L) = kvL L := by
  rw [merge_new _ _ (by rw [kvL_keys]; exact inr_nodup h.nd) fun k _ hm => by cases hm]
  rfl
theorem pair_addrs {H : Hp} {G : Addr → Prop} : ∀ {xs : List V} {L : List (Str × Int)}, Paired (isPair H G) xs L → ∃ ps : List Addr, xs = ps.map V.ref ∧ ∀ K : PySem.W.Frag, Paired (fun p (kv : Key × V) => SqT K H p [kV kv.1, kv.2]) ps (kvL L)
  | _, _, .nil => ⟨[], rfl, fun _ => .nil⟩
  | _, _, .cons ⟨t, e, _, h⟩ r => by
    obtain ⟨ps, e2, p2⟩ := pair_addrs r
    exact ⟨t :: ps, by rw [e, e2]; rfl, fun K => .cons (.inl (.inl h)) (p2 K)⟩
theorem inV_str (l : List Str) (y : Str) : inV (.str y) (l.map V.str) = decide (y ∈ l) := by
  unfold inV
  induction l with
  | nil => rfl
  | cons a r ih =>
    rw [List.map_cons, List.any_cons, ih]
    show (a == y || decide (y ∈ r)) = _
    by_cases h : a = y
    · subst h; simp
    · have : (a == y) = false := by simpa using h
      rw [this, Bool.false_or]
      by_cases h2 : y ∈ r
      · rw [decide_eq_true h2, decide_eq_true (List.mem_cons_of_mem _ h2)]
      · rw [decide_eq_false h2, decide_eq_false fun z => by rcases List.mem_cons.mp z with z | z; exact h z.symm; exact h2 z]
theorem flat_str (l : List Str) : (l.map V.str).all flatV = true := by
  rw [List.all_map, List.all_eq_true]
  intro x _; rfl
theorem cutV0 (xs : List V) (k : Nat) : cutV xs none (some (k : Int)) = xs.take k := by
  unfold cutV
  rw [HT.sIx_nat, HT.sIx_none, List.drop_zero, Nat.sub_zero]
  rw [← List.take_take, List.take_length]

end K62
namespace K62
open PySem PySem.Spec PyProof.Rows L2 TL
/-! ### what names, integers, lists are -/
theorem a97 : (Str.ofString "a").cps.toList = [97] := by decide +kernel
theorem z122 : (Str.ofString "z").cps.toList = [122] := by decide +kernel
theorem ge_chr (c d : Nat) : (!decide ([c] < [d])) = decide (d ≤ c) := by
  rw [show decide ([c] < [d]) = decide (c < d) by rw [decide_eq_decide, List.cons_lt_cons_iff]; simp, ← decide_not, decide_eq_decide]; omega
theorem kit_ii {K : PySem.W.Frag} : PySem.W.kitOne K (.type "int") (.type "int") = some true := kit_ty (show kitB "int" "int" = some true by decide +kernel)
theorem kit_ib {K : PySem.W.Frag} : PySem.W.kitOne K (.type "int") (.type "bool") = some false := kit_ty (show kitB "int" "bool" = some false by decide +kernel)
theorem kit_ss {K : PySem.W.Frag} : PySem.W.kitOne K (.type "str") (.type "str") = some true := kit_ty (show kitB "str" "str" = some true by decide +kernel)
theorem kit_tt {K : PySem.W.Frag} : PySem.W.kitOne K (.type "tuple") (.type "tuple") = some true := kit_ty (show kitB "tuple" "tuple" = some true by decide +kernel)
theorem kit_ll {K : PySem.W.Frag} : PySem.W.kitOne K (.type "list") (.type "list") = some true := kit_ty (show kitB "list" "list" = some true by decide +kernel)
theorem kit_tl {K : PySem.W.Frag} : PySem.W.kitOne K (.type "tuple") (.type "list") = some false := kit_ty (show kitB "tuple" "list" = some false by decide +kernel)
theorem kitA_l {K : PySem.W.Frag} : PySem.W.kitAny K (.type "list") [.type "list", .type "tuple"] = some true := by
  simp only [PySem.W.kitAny, kit_ll]
theorem kitA_t {K : PySem.W.Frag} : PySem.W.kitAny K (.type "tuple") [.type "list", .type "tuple"] = some true := by
  simp only [PySem.W.kitAny, kit_tl, kit_tt]
/-- a list or a tuple: one that stands here, or the empty one of the program's own text -/
def Sq (K : PySem.W.Frag) (H : Hp) (a : Addr) (xs : List V) : Prop := H a = some (.lst xs) ∨ H a = some (.tup xs) ∨ (EXV.IsE K a ∧ xs = [])
section
variable {K : PySem.W.Frag} {H H' : Hp} {a : Addr} {xs : List V}
theorem Sq.sq (h : Sq K H a xs) : SqL K H a xs ∨ SqT K H a xs := by
  rcases h with h | h | ⟨h, rfl⟩
  · exact .inl (SqL.of h)
  · exact .inr (.inl (.inl h))
  · exact .inr (h.sq H)
theorem Sq.same (h : Sq K H a xs) (s : Same H H') : Sq K H' a xs := by
  rcases h with h | h | h
  · exact .inl (s _ _ h)
  · exact .inr (.inl (s _ _ h))
  · exact .inr (.inr h)
theorem Sq.kit (h : Sq K H a xs) : ∃ t, TyX K H (.ref a) t ∧ PySem.W.kitAny K t [.type "list", .type "tuple"] = some true := by
  rcases h with h | h | ⟨⟨o, n, h1, h2, _⟩, _⟩
  · exact ⟨_, .base (.lst h), kitA_l⟩
  · exact ⟨_, .base (.tup h), kitA_t⟩
  · exact ⟨_, .kTuple h1 h2, kitA_t⟩
theorem sq_same (h : SqL K H a xs ∨ SqT K H a xs) (s : Same H H') : SqL K H' a xs ∨ SqT K H' a xs := (Kp.at fun o e => s a o e).sq h
theorem LT.s {F : Addr → Prop} (h : LT H F a xs) : Sq K H a xs := by
  obtain ⟨_, h | h⟩ := h
  · exact .inl h
  · exact .inr (.inl h)
theorem TyX.same {v : V} {t : Value} (h : TyX K H v t) (s : Same H H') : TyX K H' v t := by
  cases h with
  | base h =>
    cases h with
    | non => exact .base .non
    | bl b => exact .base (.bl b)
    | int i => exact .base (.int i)
    | str z => exact .base (.str z)
    | flt z => exact .base (.flt z)
    | lst e => exact .base (.lst (s _ _ e))
    | frz e => exact .base (.frz (s _ _ e))
    | tup e => exact .base (.tup (s _ _ e))
    | dK e => exact .base (.dK (s _ _ e))
    | dT e => exact .base (.dT (s _ _ e))
    | ins e c ha hn ht hm => exact .base (.ins (s _ _ e) c ha hn ht hm)
  | byt b => exact .byt b
  | set e => exact .set (s _ _ e)
  | kList e c => exact .kList e c
  | kTuple e c => exact .kTuple e c
  | kDict e c => exact .kDict e c
  | fTuple e => exact .fTuple (s _ _ e)
  | fDict e => exact .fDict (s _ _ e)
theorem kp_same {b : Addr} (s : Same H H') : Kp K b H H' := Kp.at fun o e => s b o e
end
theorem or_walkA {K : PySem.W.Frag} {tl : TE} {σ : L2.St} {H0 H : Hp} {R : It → Hp → Prop} {a : Addr} {xs : List V} (ht : ∀ R' : VK, R' (.ref a) H → tl σ H R') (hS : SqL K H0 a xs ∨ SqT K H0 a xs) (k0 : ∀ o, H0 a = some o → H a = some o)
    (h : ∀ (J : It) (G : Hp → Prop), Walk J xs.length G (YAt xs) → (∀ H', (∀ o, H0 a = some o → H' a = some o) → G H') → R J H) : iList K tl σ H R ∨ iTup K tl σ H R := by
  rcases hS with hS | hS
  · exact .inl (ht _ ⟨a, rfl, ⟨xs, (Kp.at k0).1 xs hS⟩, h _ _ walk_list fun H' k => (Kp.at k).1 xs hS⟩)
  · exact .inr (ht _ ⟨a, rfl, ⟨xs, (Kp.at k0).2 xs hS⟩, h _ _ walk_tup fun H' k => (Kp.at k).2 xs hS⟩)
theorem walk_zipM {K : PySem.W.Frag} {a b : Addr} {xs ys : List V} : Walk (Itzm K a b xs ys) (min xs.length ys.length) (fun H => SqT K H a xs ∧ SqL K H b ys) (YPair (fun i => xs[i]?) (fun i => ys[i]?)) :=
  ⟨fun _ _ hi q => ⟨q, hi⟩, fun _ q => ⟨q, Nat.le_refl _⟩, fun _ _ _ _ _ _ y => y⟩
def sp_isname : Sp := fun vs H Q _ => ∃ s : Str, vs = [.str s] ∧ NameOk s ∧ ∀ H', Same H H' → Q (.bl true) H'
theorem ok_is_name {P : Program} {w : World} {K : PySem.W.Frag} {mg : Str → Option Value} {base : Heap} (T : Txt P K mg) : FnOk P w K mg base CX0 1 T.f_is_name T.fd_is_name ["value"] (sp_isname) := by
  refine T.F_is_name.ok sc_is_name (fun vs H Q E h => ?_) (fun cdv A outer s H vs Q E hr h => ?_)
  · obtain ⟨_, rfl, _⟩ := h; rfl
  · obtain ⟨z, rfl, ⟨n1, n2, n3⟩, q⟩ := h
    refine ⟨_, PSs.nox (pss_cons (ps_if (PW.pt (pw_or (pt_not (pt_val (pe_callB (show CallR _ _ (rIsi K) from call_isi) (by rfl) T.n_isinstance (by decide +kernel) (pa_cons (pv 0) (pa_cons (pe_bltn (v := .ty "str") (by rfl) T.n_str (by decide +kernel) rfl) pa_nil))))) (pw_or1 (pt_not (pt_chain op_le op_le pe_int (pe_callB call_len_str (by rfl) T.n_len (by decide +kernel) (pa_cons (pv 0) pa_nil)) pe_int))))) (pss_one (ps_ret pe_bl)) pss_nil)
      (pss_one (ps_ret (pe_callB (show CallR _ _ (rAll K) from cr_all rfl) (by rfl) T.n_all (by decide +kernel) (pa_cons (pe_lc (own := [("letter", 1)]) (g := gName 1) rfl sc_is_name.nd (pi_str (pv 0)) (blkOk_by (own := [("letter", 1)]) (N := N_is_name) (sc := defScope s_is_name) (by decide +kernel)) (fun _ _ _ _ _ => (pg_name (i := 1) sc_is_name.nd rfl (Or.inl rfl))) (fun _ _ _ _ _ => pts_nil) (fun _ _ _ _ _ => (pe_chain op_le_str op_le_str pe_str (pv 1) pe_str))) pa_nil))))), ?_⟩
    have zl : z.length = (tl z).length := len_tl z
    refine ⟨_, rfl, _, _, _, _, _, rfl, .ty _, .base (.str _), kit_ss, _, rfl, ?_⟩
    refine ⟨_, rfl, z, rfl, slen (by omega), _, _, rfl, rfl, _, rfl, ite2 (fun e1 => ?_) (fun e1 => absurd (decide_eq_true (by omega)) e1)⟩
    refine ⟨_, _, rfl, rfl, _, rfl, ite2 (fun e2 => absurd (decide_eq_true (show (z.length : Int) ≤ 8 by omega)) (by simpa using e2)) (fun e2 => ?_)⟩
    refine ⟨_, rfl, z, rfl, fun D nD => lc_it walk_str (fun i H' => H' D = some (.lst (List.replicate i (.bl true))) ∧ Same H H') ⟨upd_same, Same.new nD⟩ (fun _ _ _ _ => trivial) (fun i x H' H'' hi p y => ?_) (fun H' p => ?_)⟩
    · obtain ⟨p1, p2⟩ := p
      obtain ⟨rfl, c, hc, rfl⟩ := y
      have cm : c ∈ tl z := Array.mem_toList_iff.mpr (Array.mem_of_getElem? hc)
      have cb := n3 c cm
      have il : i < z.length := hi
      refine ⟨rfl, _, rfl, _, _, rfl, rfl, _, rfl, ite2 (fun e3 => ?_) (fun e3 => absurd (by rw [a97, ge_chr]; exact decide_eq_true cb.1) e3)⟩
      refine ⟨_, _, rfl, rfl, ?_⟩
      have el : (!decide ((Str.ofString "z").cps.toList < (⟨#[c]⟩ : Str).cps.toList)) = true := by
        rw [z122, ge_chr]; exact decide_eq_true cb.2
      rw [el]
      exact ⟨_, p1, by rw [List.length_replicate, sizeLine_eq]; omega, by rw [upd_same, List.replicate_succ'], Same.upd_p p2 nD⟩
    · obtain ⟨p1, p2⟩ := p
      refine ⟨D, List.replicate z.cps.size true, rfl, SqL.of (by rw [p1, List.map_replicate]), ?_⟩
      have : (List.replicate z.cps.size true).all id = true := by simp
      rw [this]
      exact q H' p2
/-- not an integer: isinstance says no, or it is a bool -/
def NotI (K : PySem.W.Frag) (H : Hp) (u : V) : Prop := ∃ t, TyX K H u t ∧ (PySem.W.kitOne K t (.type "int") = some false ∨ (PySem.W.kitOne K t (.type "int") = some true ∧ PySem.W.kitOne K t (.type "bool") = some true))
theorem NotI.same {K : PySem.W.Frag} {H H' : Hp} {u : V} (h : NotI K H u) (s : Same H H') : NotI K H' u := by
  obtain ⟨t, ty, k⟩ := h
  exact ⟨t, TyX.same ty s, k⟩
def sp_anyint (K : PySem.W.Frag) : Sp := fun vs H Q _ => ∃ v, vs = [v] ∧ ((∃ i : Int, v = .int i ∧ Q (.bl true) H) ∨ (NotI K H v ∧ Q (.bl false) H))
theorem ok_is_any_integer {P : Program} {w : World} {K : PySem.W.Frag} {mg : Str → Option Value} {base : Heap} (T : Txt P K mg) : FnOk P w K mg base CX0 1 T.f_is_any_integer T.fd_is_any_integer ["value"] (sp_anyint K) := by
  refine T.F_is_any_integer.ok sc_is_any_integer (fun vs H Q E h => ?_) (fun cdv A outer s H vs Q E hr h => ?_)
  · obtain ⟨_, rfl, _⟩ := h; rfl
  · obtain ⟨v, rfl, q⟩ := h
    refine ⟨_, PSs.nox (pss_one (ps_ret (pe_and (pe_callB (show CallR _ _ (rIsi K) from call_isi) (by rfl) T.n_isinstance (by decide +kernel) (pa_cons (pv 0) (pa_cons (pe_bltn (v := .ty "int") (by rfl) T.n_int (by decide +kernel) rfl) pa_nil))) (pe_one (pe_not (pe_callB (show CallR _ _ (rIsi K) from call_isi) (by rfl) T.n_isinstance (by decide +kernel) (pa_cons (pv 0) (pa_cons (pe_bltn (v := .ty "bool") (by rfl) T.n_bool (by decide +kernel) rfl) pa_nil)))))))), ?_⟩
    rcases q with ⟨i, rfl, q⟩ | ⟨⟨t, ty, k | ⟨k, k2⟩⟩, q⟩
    · exact ⟨_, rfl, _, _, _, _, _, rfl, .ty _, .base (.int i), kit_ii, _, rfl, _, rfl, _, _, _, _, _, rfl, .ty _, .base (.int i), kit_ib, _, rfl, q⟩
    · exact ⟨_, rfl, _, _, t, _, _, rfl, .ty _, ty, k, _, rfl, q⟩
    · exact ⟨_, rfl, _, _, t, _, _, rfl, .ty _, ty, k, _, rfl, _, rfl, _, _, t, _, _, rfl, .ty _, ty, k2, _, rfl, q⟩
def inI (lo hi : Int) : V → Bool | .int i => decide (lo ≤ i) && decide (i ≤ hi) | _ => false
def sp_isint (K : PySem.W.Frag) : Sp := fun vs H Q _ => ∃ (v : V) (lo hi : Int), vs = [v, .int lo, .int hi] ∧ ((∃ i, v = .int i) ∨ NotI K H v) ∧ Q (.bl (inI lo hi v)) H
theorem NotI.no {K : PySem.W.Frag} {H : Hp} {i : Int} (h : NotI K H (.int i)) : False := by
  obtain ⟨t, ty, k⟩ := h
  cases ty with
  | base b =>
    cases b
    rw [kit_ii, kit_ib] at k
    rcases k with k | ⟨_, k⟩ <;> cases k
theorem NotI.inI {K : PySem.W.Frag} {H : Hp} {v : V} (h : NotI K H v) (lo hi : Int) : inI lo hi v = false := by
  cases v with
  | int i => exact absurd h fun z => z.no
  | _ => rfl
theorem ok_is_integer {P : Program} {w : World} {K : PySem.W.Frag} {mg : Str → Option Value} {base : Heap} (T : Txt P K mg) : FnOk P w K mg base CX0 2 T.f_is_integer T.fd_is_integer ["value", "low", "high"] (sp_isint K) := by
  refine T.F_is_integer.ok sc_is_integer (fun vs H Q E h => ?_) (fun cdv A outer s H vs Q E hr h => ?_)
  · obtain ⟨_, _, _, rfl, _⟩ := h; rfl
  · obtain ⟨v, lo, hi, rfl, h1, q⟩ := h
    refine ⟨_, PSs.nox (pss_one (ps_ret (pe_and (pe_call (ok_is_any_integer T) (hr.mono (by decide)) (by rfl) T.g_is_any_integer T.F_is_any_integer.kp (b_is_any_integer T) .nil pass0 (pa_cons (pv 0) pa_nil)) (pe_one (pe_chain op_le op_le (pv 1) (pv 0) (pv 2)))))), ?_⟩
    rcases h1 with ⟨i, rfl⟩ | h1
    · refine ⟨_, rfl, _, rfl, .inl ⟨i, rfl, _, rfl, ?_⟩⟩
      have en : inI lo hi (.int i) = (decide (lo ≤ i) && decide (i ≤ hi)) := rfl
      rw [en] at q
      refine ⟨_, rfl, _, rfl, _, _, rfl, rfl, _, rfl, ite2 (fun e1 => ?_) (fun e1 => ?_)⟩
      · rw [e1, Bool.true_and] at q
        exact ⟨_, rfl, _, _, rfl, rfl, q⟩
      · rw [Bool.eq_false_iff.mpr e1, Bool.false_and] at q
        exact q
    · rw [h1.inI] at q
      exact ⟨_, rfl, _, rfl, .inr ⟨h1, _, rfl, q⟩⟩
def sp_islist (K : PySem.W.Frag) : Sp := fun vs H Q _ => ∃ (a : Addr) (xs : List V) (lo hi : Int), vs = [.ref a, .int lo, .int hi] ∧ Sq K H a xs ∧ lo ≤ xs.length ∧ xs.length ≤ hi ∧ ∀ H', Same H H' → Q (.bl true) H'
theorem ok_is_list {P : Program} {w : World} {K : PySem.W.Frag} {mg : Str → Option Value} {base : Heap} (T : Txt P K mg) : FnOk P w K mg base CX0 1 T.f_is_list T.fd_is_list ["value", "low", "high"] (sp_islist K) := by
  refine T.F_is_list.ok sc_is_list (fun vs H Q E h => ?_) (fun cdv A outer s H vs Q E hr h => ?_)
  · obtain ⟨_, _, _, _, rfl, _⟩ := h; rfl
  · obtain ⟨a, xs, lo, hi, rfl, hS, h1, h2, q⟩ := h
    refine ⟨_, PSs.nox (pss_one (ps_ret (pe_and (pe_callB (show CallR _ _ (rIsiT K) from call_isiT) (by rfl) T.n_isinstance (by decide +kernel) (pa_cons (pv 0) (pa_cons (pe_tup (pa_cons (pe_bltn (v := .ty "list") (by rfl) T.n_list (by decide +kernel) rfl) (pa_cons (pe_bltn (v := .ty "tuple") (by rfl) T.n_tuple (by decide +kernel) rfl) pa_nil))) pa_nil))) (pe_one (pe_chain op_le op_le (pv 1) (pe_callB (show CallR _ _ (rLenSeq K) from call_len_seq) (by rfl) T.n_len (by decide +kernel) (pa_cons (pv 0) pa_nil)) (pv 2)))))), ?_⟩
    refine ⟨_, rfl, lenk 2 rfl (by decide), fun tp ntp => ?_⟩
    have sm : Same H (upd H tp (.tup [.ty "list", .ty "tuple"])) := Same.new ntp
    have ht : upd H tp (.tup [.ty "list", .ty "tuple"]) tp = some (.tup [.ty "list", .ty "tuple"]) := upd_same
    obtain ⟨t, ty, kk⟩ := (hS.same sm).kit
    refine ⟨_, tp, _, t, _, _, rfl, ht, .cons (.ty _) (.cons (.ty _) .nil), ty, kk, _, rfl, ?_⟩
    refine ⟨_, rfl, _, rfl, a, _, rfl, (hS.same sm).sq, _, _, rfl, rfl, _, rfl, ite2 (fun e1 => ?_) (fun e1 => absurd (decide_eq_true h1) e1)⟩
    refine ⟨_, rfl, _, _, rfl, rfl, ?_⟩
    show Q (.bl (decide ((xs.length : Int) ≤ hi))) _
    rw [decide_eq_true h2]
    exact q _ sm
def sp_distinct (K : PySem.W.Frag) : Sp := fun vs H Q _ => ∃ (a : Addr) (ns : List Str), vs = [.ref a] ∧ (SqL K H a (ns.map V.str) ∨ SqT K H a (ns.map V.str)) ∧ ns.Nodup ∧ ns.length ≤ 8 ∧ ∀ H', Same H H' → Q .non H'
theorem val_none {α : Type} {l : List α} {f : α → Str} {g : α → V} {x : Str} (h : x ∉ l.map f) : valV (l.map fun y => ((Sum.inr (f y) : Key), g y)) (Sum.inr x) = none := by
  unfold valV
  rw [Option.map_eq_none_iff, List.find?_eq_none]
  intro kv hkv e
  obtain ⟨y, hy, rfl⟩ := List.mem_map.mp hkv
  exact h (List.mem_map.mpr ⟨y, hy, Sum.inr.inj (of_decide_eq_true e)⟩)
theorem not_mem_take {α : Type} {l : List α} (nd : l.Nodup) {i : Nat} (hi : i < l.length) : l[i] ∉ l.take i := by
  intro h
  obtain ⟨j, hj⟩ := List.getElem?_of_mem h
  obtain ⟨lj, gj⟩ := List.getElem?_eq_some_iff.mp hj
  rw [List.length_take] at lj
  rw [List.getElem_take] at gj
  have n1 := List.nodup_iff_pairwise_ne.mp nd
  rw [List.pairwise_iff_getElem] at n1
  exact n1 j i (by omega) hi (by omega) gj
theorem str_at' {sc : List Str} {j : Nat} {x : V} (h : (sc.map V.str)[j]? = some x) : ∃ hj : j < sc.length, x = .str sc[j] := by
  rw [List.getElem?_map] at h
  cases e : sc[j]? with
  | none => rw [e] at h; cases h
  | some y =>
    rw [e] at h
    obtain ⟨hj, ey⟩ := List.getElem?_eq_some_iff.mp e
    exact ⟨hj, by rw [ey]; exact (Option.some.inj h).symm⟩
theorem take_snoc {α : Type} {l : List α} {i : Nat} (hi : i < l.length) : l.take (i + 1) = l.take i ++ [l[i]] := by
  rw [List.take_succ, List.getElem?_eq_getElem hi]; rfl
theorem ok_check_distinct {P : Program} {w : World} {K : PySem.W.Frag} {mg : Str → Option Value} {base : Heap} (T : Txt P K mg) : FnOk P w K mg base CX0 1 T.f_check_distinct T.fd_check_distinct ["names"] (sp_distinct K) := by
  refine T.F_check_distinct.ok sc_check_distinct (fun vs H Q E h => ?_) (fun cdv A outer s H vs Q E hr h => ?_)
  · obtain ⟨_, _, rfl, _⟩ := h; rfl
  · obtain ⟨a, ns, rfl, hS, nd, n8, q⟩ := h
    refine ⟨_, PSs.nox (pss_cons (ps_set (i := 1) sc_check_distinct.nd rfl (Or.inl rfl) pe_dnewK)
      (pss_one (ps_for PassesOwn.never rfl (pi_or (pi_list (pv 0)) (pi_tup (pv 0))) (pg_name (i := 2) sc_check_distinct.nd rfl (Or.inl rfl)) (pss_cons (ps_if (pt_cmp (pc_din (hu_of hr) (pv 2) (pv 1))) (pss_one ps_never) pss_nil)
      (pss_one (ps_asg pe_bl (pg_sub (pv 1) (pv 2) (set_dict (hu_of hr))))))))), ?_⟩
    intro D nD
    refine or_walkA (fun R' h => ⟨_, rfl, h⟩) hS (fun o e => Same.new nD a o e) fun J G w g => for_it w (fun i σ H' => ∃ x2, σ = [some (.ref a), some (.ref D), x2] ∧ Same H H' ∧ H' D = some (.dK ((ns.take i).map fun x => (Sum.inr x, .bl true)))) ?_ ?_ ?_ ?_
    · exact ⟨_, rfl, Same.new nD, upd_same⟩
    · rintro i σ H' _ ⟨x2, rfl, s1, hD⟩
      exact g H' (s1 a)
    · rintro i x σ Hx H' hi ⟨x2, rfl, s1, hD⟩ ⟨rfl, hx⟩
      obtain ⟨hj, rfl⟩ := str_at' hx
      have hn := val_none (l := ns.take i) (f := id) (g := fun _ => .bl true) (x := ns[i]) (by rw [List.map_id]; exact not_mem_take nd hj)
      replace hn : valV ((ns.take i).map fun x => ((Sum.inr x : Key), V.bl true)) (Sum.inr ns[i]) = none := hn
      have dg : DGet H' D (.str ns[i]) none := by rw [← hn]; exact DGet.k (k := Sum.inr ns[i]) hD
      refine ⟨_, rfl, _, rfl, D, _, rfl, dg, _, rfl, ?_⟩
      refine ⟨_, rfl, _, rfl, D, _, rfl, DPut.k (k := Sum.inr ns[i]) hD (by rw [List.length_map, List.length_take, sizeLine_eq]; omega), ?_⟩
      refine ⟨_, rfl, Same.upd_p s1 nD, ?_⟩
      rw [upd_same, putK_new _ hn, take_snoc hj, List.map_append]
      rfl
    · rintro σ H' ⟨x2, rfl, s1, hD⟩
      exact q H' s1

end K62
namespace K62
open PySem PySem.Spec PyProof.Rows L2 TL
/-! ### bad tuples in ascending order -/
theorem code_inj {B : Int} : ∀ {r q : List Int}, r.length = q.length → TS.Bd B r → TS.Bd B q → TS.code B r ≤ TS.code B q → TS.code B q ≤ TS.code B r → r = q
  | [], [], _, _, _, _, _ => rfl
  | [], _ :: _, h, _, _, _, _ => by simp at h
  | _ :: _, [], h, _, _, _, _ => by simp at h
  | d :: r, e :: q, hl, hr, hq, h1, h2 => by
    have hl' : r.length = q.length := by simpa using hl
    have he : d = e := by
      rcases Int.lt_trichotomy d e with h | h | h
      · have := TS.code_lt (B := B) hl' hr.tail hq.tail h; omega
      · exact h
      · have := TS.code_lt (B := B) hl'.symm hq.tail hr.tail h; omega
    subst he
    have a1 : ¬ TS.code B q < TS.code B r := fun h => by have := (TS.code_same (B := B) (d := d) hl'.symm).mpr h; omega
    have a2 : ¬ TS.code B r < TS.code B q := fun h => by have := (TS.code_same (B := B) (d := d) hl').mpr h; omega
    rw [code_inj hl' hr.tail hq.tail (by omega) (by omega)]
def Srt (bad out : List (List Int)) : Prop := out.Perm bad ∧ out.Pairwise fun x y => TS.code 6 x ≤ TS.code 6 y
theorem Srt.uniq {bad o1 o2 : List (List Int)} {d : Nat} (hb : ∀ ns ∈ bad, ns.length = d ∧ TS.Bd 6 ns) (h1 : Srt bad o1) (h2 : Srt bad o2) : o1 = o2 :=
  List.Perm.eq_of_pairwise (fun a b ha hb' l1 l2 => code_inj ((hb a (h1.1.mem_iff.mp ha)).1.trans (hb b (h2.1.mem_iff.mp hb')).1.symm) (hb a (h1.1.mem_iff.mp ha)).2 (hb b (h2.1.mem_iff.mp hb')).2 l1 l2) h1.2 h2.2 (h1.1.trans h2.1.symm)
theorem row_bd {L : List (Str × Int)} (ok : VarsOk L) {r : Row} (h : RowOk L r) : ∀ ns ∈ r.2.2, ns.length = r.2.1.length ∧ TS.Bd 6 ns := fun ns hns => by
  refine ⟨h.bl ns hns, fun v hv => ?_⟩
  obtain ⟨i, hi⟩ := List.getElem?_of_mem hv
  obtain ⟨li, _⟩ := List.getElem?_eq_some_iff.mp hi
  rw [h.bl ns hns] at li
  have hx := List.getElem?_eq_getElem li
  obtain ⟨a, b⟩ := h.bv ns hns i _ v hx hi
  have := (sizes_val ok (h.sub _ (List.getElem_mem li))).2.2
  omega
def intOf : V → Int | .int i => i | _ => 0
def rdT (H : Hp) : V → List Int | .ref t => (match H t with | some (.tup vs) => vs.map intOf | _ => []) | _ => []
theorem rdT_is {H : Hp} {G : Addr → Prop} {x : V} {ns : List Int} (h : isTupI H G x ns) : rdT H x = ns := by
  obtain ⟨t, rfl, _, ht⟩ := h
  unfold rdT
  simp only [ht, List.map_map]
  have : (intOf ∘ V.int) = id := rfl
  rw [this, List.map_id]
theorem pd_mem {α β : Type} {F : α → β → Prop} : ∀ {l₁ : List α} {l₂ : List β}, Paired F l₁ l₂ → ∀ x ∈ l₁, ∃ y ∈ l₂, F x y
  | _, _, .nil, _, h => by cases h
  | _, _, .cons r t, x, h => by
    rcases List.mem_cons.mp h with rfl | h
    · exact ⟨_, List.mem_cons_self, r⟩
    · obtain ⟨y, hy, f⟩ := pd_mem t x h
      exact ⟨y, List.mem_cons_of_mem _ hy, f⟩
theorem map_rdT {H : Hp} {G : Addr → Prop} : ∀ {xs : List V} {bad : List (List Int)}, Paired (isTupI H G) xs bad → xs.map (rdT H) = bad
  | _, _, .nil => rfl
  | _, _, .cons r t => by rw [List.map_cons, rdT_is r, map_rdT t]
theorem pd_all {α β : Type} {F : α → β → Prop} (f : α → β) : ∀ {l : List α}, (∀ x ∈ l, F x (f x)) → Paired F l (l.map f)
  | [], _ => .nil
  | x :: r, h => .cons (h x List.mem_cons_self) (pd_all f fun z hz => h z (List.mem_cons_of_mem _ hz))
theorem sort_out {H : Hp} {G : Addr → Prop} {xs ys : List V} {bad : List (List Int)} (pd : Paired (isTupI H G) xs bad) (pm : ys.Perm xs) (pw : ys.Pairwise fun x y => TS.code 6 (rdT H x) ≤ TS.code 6 (rdT H y)) :
    Srt bad (ys.map (rdT H)) ∧ Paired (isTupI H G) ys (ys.map (rdT H)) := by
  refine ⟨⟨?_, ?_⟩, pd_all _ fun x hx => ?_⟩
  · rw [← map_rdT pd]; exact pm.map _
  · rw [List.pairwise_map]; exact pw
  · obtain ⟨ns, _, h⟩ := pd_mem pd x (pm.mem_iff.mp hx)
    rw [rdT_is h]; exact h
theorem sort_in {K : PySem.W.Frag} {H : Hp} {G : Addr → Prop} {xs : List V} {bad : List (List Int)} {d : Nat} (pd : Paired (isTupI H G) xs bad) (hb : ∀ ns ∈ bad, ns.length = d ∧ TS.Bd 6 ns) :
    ∀ x ∈ xs, ∃ t, x = V.ref t ∧ SqT K H t ((rdT H x).map V.int) ∧ (rdT H x).length = d ∧ TS.Bd 6 (rdT H x) := fun x hx => by
  obtain ⟨ns, hns, h⟩ := pd_mem pd x hx
  obtain ⟨h1, h2⟩ := hb ns hns
  rw [rdT_is h]
  obtain ⟨t, rfl, _, ht⟩ := h
  exact ⟨t, rfl, .inl (.inl ht), h1, h2⟩
/-! ### neighbors -/
def share (a b : List Str) : Bool := a.any fun x => decide (x ∈ b)
def nbs (R : List Row) (r : Row) : List Str := (R.filter fun s => (!decide (s.1 = r.1)) && share r.2.1 s.2.1).map (·.1)
abbrev Ent := Str × Addr × Addr
def kvS (E : List Ent) : List (Key × V) := E.map fun q => ((Sum.inr q.1 : Key), V.ref q.2.1)
def kvB (E : List Ent) : List (Key × V) := E.map fun q => ((Sum.inr q.1 : Key), V.ref q.2.2)
theorem val_map {α : Type} (f : α → Str) (g : α → V) : ∀ {l : List α} {x : α}, (l.map f).Nodup → x ∈ l → valV (l.map fun y => ((Sum.inr (f y) : Key), g y)) (Sum.inr (f x)) = some (g x)
  | y :: r, x, nd, h => by
    rw [List.map_cons, List.nodup_cons] at nd
    rcases List.mem_cons.mp h with rfl | h
    · exact valV_pos rfl
    · have ne : f y ≠ f x := fun e => nd.1 (by rw [e]; exact List.mem_map.mpr ⟨x, h, rfl⟩)
      rw [List.map_cons, valV_neg (fun z => ne (Sum.inr.inj z))]
      exact val_map f g nd.2 h
theorem Same.none {H H' : Hp} {p : Addr} (s : Same H H') (h : H' p = none) : H p = none := by
  cases e : H p with
  | none => rfl
  | some o => rw [s _ _ e] at h; cases h
def scAt (H : Hp) (q : Ent) (r : Row) : Prop := q.1 = r.1 ∧ H q.2.1 = some (.lst (r.2.1.map V.str))
theorem sc_keys {H : Hp} : ∀ {E : List Ent} {R : List Row}, Paired (scAt H) E R → E.map (·.1) = R.map (·.1)
  | _, _, .nil => rfl
  | _, _, .cons r t => by rw [List.map_cons, List.map_cons, r.1, sc_keys t]
theorem dec_vstr {x y : Str} : decide (V.str x = V.str y) = decide (x = y) := by
  by_cases h : x = y
  · subst h; simp
  · rw [decide_eq_false h, decide_eq_false fun z => h (V.str.inj z)]
def sp_nb : Sp := fun vs H Q _ => ∃ (d : Addr) (o : Obj) (E : List Ent) (R : List Row) (r : Row), vs = [.str r.1, .ref d] ∧ H d = some (.frz o (.dK (kvS E))) ∧ R.length ≤ 8 ∧ (R.map (·.1)).Nodup ∧ r ∈ R ∧ Paired (scAt H) E R ∧ (∀ r ∈ R, r.2.1.length ≤ 4) ∧
  ∀ p H', Same H H' → H p = none → H' p = some (.lst ((nbs R r).map V.str)) → Q (.ref p) H'
theorem ok__neighbors_of {P : Program} {w : World} {K : PySem.W.Frag} {mg : Str → Option Value} {base : Heap} (T : Txt P K mg) : FnOk P w K mg base CX0 1 T.f__neighbors_of T.fd__neighbors_of ["event", "scopes"] (sp_nb) := by
  refine T.F__neighbors_of.ok sc__neighbors_of (fun vs H Q E h => ?_) (fun cdv A outer s H vs Q E hr h => ?_)
  · obtain ⟨_, _, _, _, _, rfl, _⟩ := h; rfl
  · obtain ⟨d, o, E, R, r, rfl, hd, r8, nd, hr', pd, l4, qq⟩ := h
    have lE := pd.length
    have ndE : (E.map (·.1)).Nodup := by rw [sc_keys pd]; exact nd
    obtain ⟨ir, hir⟩ := List.getElem?_of_mem hr'
    obtain ⟨q, hq, eq, hsc⟩ := pd_get' pd hir
    have mq := List.mem_of_getElem? hq
    have r4 := l4 r hr'
    refine ⟨_, PSs.nox (pss_cons (ps_set (i := 2) sc__neighbors_of.nd rfl (Or.inl rfl) (pe_lst pa_nil))
      (pss_cons (ps_for PassesOwn.never rfl (pi_items (pv 1)) (pg_tup rfl (pgs_cons (pg_name (i := 3) sc__neighbors_of.nd rfl (Or.inl rfl)) (pgs_cons (pg_name (i := 4) sc__neighbors_of.nd rfl (Or.inr rfl)) pgs_nil))) (pss_one (ps_if (PW.pt (pw_and (pt_cmpR op_ne (pv 3) (pv 0) (nomark _)) (pw_and1 (pt_val (pe_callB (show CallR _ _ (rAny K) from cr_any rfl) (by rfl) T.n_any (by decide +kernel) (pa_cons (pe_lc (own := [("variable", 5)]) (g := gName 5) rfl sc__neighbors_of.nd (pi_list (pe_dget (hu_of hr) (pv 1) (pv 0) (fun _ _ => rfl))) (blkOk_by (own := [("variable", 5)]) (N := N__neighbors_of) (sc := defScope s__neighbors_of) (by decide +kernel)) (fun _ _ _ _ _ => (pg_name (i := 5) sc__neighbors_of.nd rfl (Or.inl rfl))) (fun _ _ _ _ _ => pts_nil) (fun _ _ _ _ _ => (pe_cmpR (show OpR _ (compareOp .In) (rIn K false) from op_in_seq) (pv 5) (pv 4) (by first | rfl | with_unfolding_all rfl)))) pa_nil)))))) (pss_one (ps_expr (pe_bm PySem.F.plainAttrs_list PySem.F.slot_list_append PySem.F.type_list_append mt_append (pv 2) (pa_cons (pv 3) pa_nil)))) pss_nil)))
      (pss_one (ps_ret (pv 2))))), ?_⟩
    refine ⟨Nat.zero_le _, fun p np => ?_⟩
    refine ⟨_, rfl, d, o, kvS E, rfl, Same.new np _ _ hd, for_it walk_items (fun i σ H' => ∃ x3 x4, σ = [some (.str r.1), some (.ref d), some (.ref p), x3, x4, none] ∧ Same H H' ∧ H' p = some (.lst ((nbs (R.take i) r).map V.str))) ?_ ?_ ?_ ?_⟩
    · exact ⟨_, _, rfl, Same.new np, upd_same⟩
    · rintro i σ H' _ ⟨x3, x4, rfl, s1, hp⟩
      exact s1 _ _ hd
    · rintro i x σ H1 H2 hi ⟨x3, x4, rfl, s1, hp⟩ ⟨T, y1, y2, rfl, nT, rfl, e1, e2⟩
      have li : i < E.length := by unfold kvS at hi; rwa [List.length_map] at hi
      have liR : i < R.length := by omega
      obtain ⟨w, hw, ew, hsc2⟩ := pd_get pd (List.getElem?_eq_getElem li)
      obtain ⟨_, ew2⟩ := List.getElem?_eq_some_iff.mp hw
      have eq1 : (kvS E)[i]? = some (Sum.inr w.1, V.ref E[i].2.1) := by unfold kvS; rw [List.getElem?_map, List.getElem?_eq_getElem li, ← ew]; rfl
      simp only [eq1, Option.map_some] at e1 e2
      cases e1
      cases e2
      have s2 := Same.upd_p (o := .tup [kV (Sum.inr w.1), .ref E[i].2.1]) s1 (Same.none s1 nT)
      have hp2 : upd H1 T (.tup [kV (Sum.inr w.1), .ref E[i].2.1]) p = some (.lst ((nbs (R.take i) r).map V.str)) := by rw [upd_ne (ne_of_none hp nT)]; exact hp
      have hT2 : upd H1 T (.tup [kV (Sum.inr w.1), .ref E[i].2.1]) T = some (.tup [kV (Sum.inr w.1), .ref E[i].2.1]) := upd_same
      generalize upd H1 T (.tup [kV (Sum.inr w.1), .ref E[i].2.1]) = H2 at s2 hp2 hT2
      have e3 : nbs (R.take (i + 1)) r = nbs (R.take i) r ++ (if ((!decide (w.1 = r.1)) && share r.2.1 w.2.1) = true then [w.1] else []) := by
        unfold nbs
        rw [take_snoc liR, ew2, List.filter_append, List.map_append]
        congr 1
        by_cases h : ((!decide (w.1 = r.1)) && share r.2.1 w.2.1) = true
        · rw [if_pos h, List.filter_cons, if_pos h]; rfl
        · rw [if_neg h, List.filter_cons, if_neg h]; rfl
      have skip : ((!decide (w.1 = r.1)) && share r.2.1 w.2.1) = false → nbs (R.take (i + 1)) r = nbs (R.take i) r := fun h => by rw [e3, h]; simp
      have ln : (nbs (R.take i) r).length ≤ 8 := by
        unfold nbs
        rw [List.length_map]
        have := List.length_filter_le (fun s : Row => (!decide (s.1 = r.1)) && share r.2.1 s.2.1) (R.take i)
        rw [List.length_take] at this
        omega
      refine ⟨T, _, rfl, .inl (.inl hT2), rfl, _, _, rfl, _, _, rfl, rfl, ?_⟩
      refine ⟨_, rfl, _, rfl, rfl, _, rfl, ite2 (fun c => ?_) (fun c => ⟨_, _, rfl, s2, by
        have c' : (!decide (w.1 = r.1)) = false := by rw [← dec_vstr]; exact Bool.eq_false_iff.mpr c
        rw [skip (by rw [c', Bool.false_and])]
        exact hp2⟩)⟩
      have dg : DGet H2 d (.str r.1) (some (.ref q.2.1)) := .inl ⟨kvS E, Sum.inr r.1, .inr ⟨o, s2 _ _ hd⟩, rfl, by rw [← eq]; exact (val_map (fun q => q.1) (fun q => V.ref q.2.1) ndE mq).symm⟩
      refine ⟨_, rfl, _, rfl, d, _, rfl, dg, q.2.1, rfl, ⟨_, SqL.of (s2 _ _ hsc)⟩, fun D nD => ?_⟩
      refine lc_it (walk_list (K := K) (a := q.2.1) (xs := r.2.1.map V.str)) (fun j H' => H' D = some (.lst (((r.2.1.take j).map fun x => decide (x ∈ w.2.1)).map V.bl)) ∧ Same H2 H') ⟨upd_same, Same.new nD⟩ ?_ ?_ ?_
      · rintro j H' _ ⟨h1, h3⟩
        exact SqL.of (h3 _ _ (s2 _ _ hsc))
      · rintro j x H3 H4 hj ⟨h1, h3⟩ ⟨rfl, hx⟩
        rw [List.length_map] at hj
        obtain ⟨lj, rfl⟩ := str_at' hx
        refine ⟨rfl, _, rfl, _, rfl, E[i].2.1, _, rfl, .inl (SqL.of (h3 _ _ (s2 _ _ hsc2))), rfl, flat_str _, _, h1, by rw [List.length_map, List.length_map, List.length_take, sizeLine_eq]; omega, ?_, Same.upd_p h3 nD⟩
        rw [upd_same, inV_str, take_snoc lj, List.map_append, List.map_append]; rfl
      · rintro H3 ⟨h1, h3⟩
        rw [List.length_map, List.take_length] at h1
        refine ⟨D, r.2.1.map (fun x => decide (x ∈ w.2.1)), rfl, SqL.of h1, _, rfl, ?_⟩
        have es : (r.2.1.map fun x => decide (x ∈ w.2.1)).any id = share r.2.1 w.2.1 := by unfold share; rw [List.any_map]; rfl
        rw [es]
        have c' : (!decide (w.1 = r.1)) = true := by rw [← dec_vstr]; exact c
        by_cases hs : share r.2.1 w.2.1 = true
        · rw [hs]
          refine iteT ⟨_, rfl, .inl ⟨rfl, _, SqL.of (h3 _ _ hp2)⟩, _, rfl, p, _, _, rfl, rfl, h3 _ _ hp2, by rw [List.length_map, sizeLine_eq]; omega, ?_⟩
          refine ⟨_, _, rfl, Same.upd_p (s2.trans h3) np, ?_⟩
          rw [upd_same, e3, c', hs, if_pos (show (true && true) = true from rfl), List.map_append]; rfl
        · have hs' : share r.2.1 w.2.1 = false := Bool.eq_false_iff.mpr hs
          rw [hs']
          exact iteF ⟨_, _, rfl, s2.trans h3, by rw [skip (by rw [hs', Bool.and_false])]; exact h3 _ _ hp2⟩
    · rintro σ H' ⟨x3, x4, rfl, s1, hp⟩
      refine ⟨_, rfl, qq p H' s1 np ?_⟩
      have : (kvS E).length = R.length := by unfold kvS; rw [List.length_map, lE]
      rw [this, List.take_length] at hp
      exact hp

end K62
namespace K62
open PySem PySem.Spec PyProof.Rows L2 TL
/-! ### a problem that stands -/
def pfl (av ds dp ae dsc dbt dn : Addr) : List (Str × V) :=
  putF "_neighbors" (.ref dn) (putF "_bad_tuples" (.ref dbt) (putF "_scopes" (.ref dsc) (putF "_events" (.ref ae) (putF "_places" (.ref dp) (putF "_sizes" (.ref ds) (putF "_variables" (.ref av) []))))))
section
variable (av ds dp ae dsc dbt dn : Addr)
theorem pfl_variables : (pfl av ds dp ae dsc dbt dn).lookup ("_variables" : Str) = some (.ref av) := by
  unfold pfl
  iterate 6 refine (lookup_putF ..).trans ((if_neg (by decide +kernel)).trans ?_)
  exact (lookup_putF ..).trans (if_pos rfl)
theorem pfl_sizes : (pfl av ds dp ae dsc dbt dn).lookup ("_sizes" : Str) = some (.ref ds) := by
  unfold pfl
  iterate 5 refine (lookup_putF ..).trans ((if_neg (by decide +kernel)).trans ?_)
  exact (lookup_putF ..).trans (if_pos rfl)
theorem pfl_events : (pfl av ds dp ae dsc dbt dn).lookup ("_events" : Str) = some (.ref ae) := by
  unfold pfl
  iterate 3 refine (lookup_putF ..).trans ((if_neg (by decide +kernel)).trans ?_)
  exact (lookup_putF ..).trans (if_pos rfl)
theorem pfl_scopes : (pfl av ds dp ae dsc dbt dn).lookup ("_scopes" : Str) = some (.ref dsc) := by
  unfold pfl
  iterate 2 refine (lookup_putF ..).trans ((if_neg (by decide +kernel)).trans ?_)
  exact (lookup_putF ..).trans (if_pos rfl)
theorem pfl_bad : (pfl av ds dp ae dsc dbt dn).lookup ("_bad_tuples" : Str) = some (.ref dbt) := by
  unfold pfl
  iterate 1 refine (lookup_putF ..).trans ((if_neg (by decide +kernel)).trans ?_)
  exact (lookup_putF ..).trans (if_pos rfl)
end
def isEv (H : Hp) (F : Addr → Prop) (x : V) (q : Ent) : Prop := ∃ t, x = .ref t ∧ F t ∧ H t = some (.tup [.str q.1, .ref q.2.1, .ref q.2.2])
def isEnt (H : Hp) (F G : Addr → Prop) (q : Ent) (r : Row) : Prop := q.1 = r.1 ∧ F q.2.1 ∧ F q.2.2 ∧ H q.2.1 = some (.lst (r.2.1.map V.str)) ∧ ∃ ys out, H q.2.2 = some (.lst ys) ∧ Srt r.2.2 out ∧ Paired (isTupI H G) ys out
def kvN (N : List (Str × Addr)) : List (Key × V) := N.map fun q => ((Sum.inr q.1 : Key), V.ref q.2)
def isNb (H : Hp) (F : Addr → Prop) (R : List Row) (z : Str × Addr) (r : Row) : Prop := z.1 = r.1 ∧ F z.2 ∧ H z.2 = some (.lst ((nbs R r).map V.str))
def NbAt (H : Hp) (F : Addr → Prop) (R : List Row) (dn : Addr) : Prop := ∃ N, F dn ∧ H dn = some (.dK (kvN N)) ∧ Paired (isNb H F R) N R
def kvP (L : List (Str × Int)) : List (Key × V) := (L.map (·.1)).zipIdx.map fun z => ((Sum.inr z.1 : Key), V.int ((z.2 : Nat) : Int))
def PlAt (H : Hp) (F : Addr → Prop) (L : List (Str × Int)) (dp : Addr) : Prop := F dp ∧ H dp = some (.dK (kvP L))
def IsP (C : Addr) (H : Hp) (F G : Addr → Prop) (p : Addr) (L : List (Str × Int)) (R : List Row) : Prop := ∃ (dx av ds dp ae dsc dbt dn : Addr) (E : List Ent) (xs es : List V),
  H p = some (.ins C dx (pfl av ds dp ae dsc dbt dn)) ∧ (F p ∧ F av ∧ F ds ∧ F ae ∧ F dsc ∧ F dbt ∧ NbAt H F R dn ∧ PlAt H F L dp) ∧ (H av = some (.lst xs) ∧ Paired (isPair H G) xs L) ∧ H ds = some (.dK (kvL L)) ∧
  (H ae = some (.lst es) ∧ Paired (isEv H F) es E ∧ Paired (isEnt H F G) E R) ∧ H dsc = some (.dK (kvS E)) ∧ H dbt = some (.dK (kvB E))
section
variable {C : Addr} {H H' : Hp} {F F' G W : Addr → Prop}
theorem isEv.mv {x : V} {q : Ent} (h : isEv H F x q) (m : Mv W H H') (d : ∀ a, F a → ¬ W a) : isEv H' F x q := by
  obtain ⟨t, e, f, h⟩ := h
  exact ⟨t, e, f, m _ _ (d _ f) h⟩
theorem isEnt.mv {q : Ent} {r : Row} (h : isEnt H F G q r) (m : Mv W H H') (d : ∀ a, F a → ¬ W a) (d' : ∀ a, G a → ¬ W a) : isEnt H' F G q r := by
  obtain ⟨e, f1, f2, h1, ys, out, h2, s, pd⟩ := h
  exact ⟨e, f1, f2, m _ _ (d _ f1) h1, ys, out, m _ _ (d _ f2) h2, s, Paired.mono (fun _ _ z => z.mv m d') pd⟩
theorem isEv.wk {x : V} {q : Ent} (h : isEv H F x q) (f : ∀ a, F a → F' a) : isEv H F' x q := by
  obtain ⟨t, e, g, h⟩ := h
  exact ⟨t, e, f _ g, h⟩
theorem isEnt.wk {q : Ent} {r : Row} (h : isEnt H F G q r) (f : ∀ a, F a → F' a) : isEnt H F' G q r := by
  obtain ⟨e, f1, f2, h1, h2⟩ := h
  exact ⟨e, f _ f1, f _ f2, h1, h2⟩
theorem isNb.mv {R : List Row} {z : Str × Addr} {r : Row} (h : isNb H F R z r) (m : Mv W H H') (d : ∀ a, F a → ¬ W a) : isNb H' F R z r := ⟨h.1, h.2.1, m _ _ (d _ h.2.1) h.2.2⟩
theorem NbAt.mv {R : List Row} {dn : Addr} (h : NbAt H F R dn) (m : Mv W H H') (d : ∀ a, F a → ¬ W a) : NbAt H' F R dn := by
  obtain ⟨N, f, h1, h2⟩ := h
  exact ⟨N, f, m _ _ (d _ f) h1, Paired.mono (fun _ _ z => z.mv m d) h2⟩
theorem IsP.mv {p : Addr} {L : List (Str × Int)} {R : List Row} (h : IsP C H F G p L R) (m : Mv W H H') (d : ∀ a, F a → ¬ W a) (d' : ∀ a, G a → ¬ W a) : IsP C H' F G p L R := by
  obtain ⟨dx, av, ds, dp, ae, dsc, dbt, dn, E, xs, es, hp, ⟨f1, f2, f3, f4, f5, f6, f7⟩, ⟨h1, h2⟩, h3, ⟨h4, h5, h6⟩, h7, h8⟩ := h
  exact ⟨dx, av, ds, dp, ae, dsc, dbt, dn, E, xs, es, m _ _ (d _ f1) hp, ⟨f1, f2, f3, f4, f5, f6, f7.1.mv m d, f7.2.1, m _ _ (d _ f7.2.1) f7.2.2⟩, ⟨m _ _ (d _ f2) h1, Paired.mono (fun _ _ z => z.mv m d') h2⟩, m _ _ (d _ f3) h3,
    ⟨m _ _ (d _ f4) h4, Paired.mono (fun _ _ z => z.mv m d) h5, Paired.mono (fun _ _ z => z.mv m d d') h6⟩, m _ _ (d _ f5) h7, m _ _ (d _ f6) h8⟩
theorem IsP.same {p : Addr} {L : List (Str × Int)} {R : List Row} (h : IsP C H F G p L R) (m : Same H H') : IsP C H' F G p L R := h.mv (Mv.of_same m (W := fun _ => False)) (fun _ _ z => z) fun _ _ z => z
end
def Old (H : Hp) : Addr → Prop := fun a => ∃ o, H a = some o
def New (H : Hp) : Addr → Prop := fun a => H a = none
theorem isPair.old {H : Hp} {G : Addr → Prop} {x : V} {q : Str × Int} (h : isPair H G x q) : isPair H (Old H) x q := by
  obtain ⟨t, e, _, h⟩ := h
  exact ⟨t, e, ⟨_, h⟩, h⟩
theorem isTupI.old {H : Hp} {G : Addr → Prop} {x : V} {ns : List Int} (h : isTupI H G x ns) : isTupI H (Old H) x ns := by
  obtain ⟨t, e, _, h⟩ := h
  exact ⟨t, e, ⟨_, h⟩, h⟩
theorem LT.old {H : Hp} {F : Addr → Prop} {a : Addr} {xs : List V} (h : LT H F a xs) : LT H (Old H) a xs := ⟨h.2.elim (fun e => ⟨_, e⟩) fun e => ⟨_, e⟩, h.2⟩
theorem isRow.old {H : Hp} {F G : Addr → Prop} {x : V} {r : Row} (h : isRow H F G x r) : isRow H (Old H) (Old H) x r := by
  obtain ⟨p, a, b, ys, e, f, h, la, lb, hp⟩ := h
  exact ⟨p, a, b, ys, e, ⟨_, h⟩, h, la.old, lb.old, Paired.mono (fun _ _ z => z.old) hp⟩
theorem Mv.same_old {H H' : Hp} (s : Same H H') : ∀ a, Old H a → ∃ o, H' a = some o := fun a ⟨o, e⟩ => ⟨o, s _ _ e⟩
/-- what a dict's lock leaves -/
theorem Same.unlock {H H' : Hp} {d : Addr} {o : Obj} {u : HO} (h : H d = some u) (s : Same (upd H d (.frz o u)) H') : Same H (upd H' d u) := fun a v e => by
  by_cases ha : a = d
  · subst ha
    rw [h] at e
    cases e
    exact upd_same
  · rw [upd_ne ha]
    exact s a v (by rw [upd_ne ha]; exact e)
theorem frz_at {H H' : Hp} {d : Addr} {o : Obj} {u : HO} (s : Same (upd H d (.frz o u)) H') : H' d = some (.frz o u) := s _ _ upd_same
theorem kvL_take_len (L : List (Str × Int)) (i : Nat) : (kvL (L.take i)).length ≤ L.length := by
  unfold kvL; rw [List.length_map, List.length_take]; omega
theorem kvL_put {L : List (Str × Int)} (nd : (L.map (·.1)).Nodup) {i : Nat} (hi : i < L.length) : putK (kvL (L.take i)) (Sum.inr L[i].1) (.int L[i].2) = kvL (L.take (i + 1)) := by
  have hn := val_none (l := L.take i) (f := fun q => q.1) (g := fun q => V.int q.2) (x := L[i].1) (by
    have h := not_mem_take nd (i := i) (by rw [List.length_map]; exact hi)
    rw [List.getElem_map, ← List.map_take] at h
    exact h)
  unfold kvL
  rw [putK_new _ hn, take_snoc hi, List.map_append]
  rfl
theorem ent_put {g : Ent → V} {E : List Ent} (nd : (E.map (·.1)).Nodup) {i : Nat} (hi : i < E.length) : putK ((E.take i).map fun q => ((Sum.inr q.1 : Key), g q)) (Sum.inr E[i].1) (g E[i]) = (E.take (i + 1)).map fun q => ((Sum.inr q.1 : Key), g q) := by
  have hn := val_none (l := E.take i) (f := fun q => q.1) (g := g) (x := E[i].1) (by
    have h := not_mem_take nd (i := i) (by rw [List.length_map]; exact hi)
    rw [List.getElem_map, ← List.map_take] at h
    exact h)
  rw [putK_new _ hn, take_snoc hi, List.map_append]
  rfl

theorem kvP_snoc (L : List (Str × Int)) (q : Str × Int) : kvP (L ++ [q]) = kvP L ++ [((Sum.inr q.1 : Key), V.int ((L.length : Nat) : Int))] := by
  unfold kvP
  rw [List.map_append, List.zipIdx_append, List.map_append]
  simp
theorem zip_fst : ∀ (l : List Str) (k : Nat), (l.zipIdx k).map (fun z => (Sum.inr z.1 : Key)) = l.map Sum.inr
  | [], _ => rfl
  | x :: r, k => by rw [List.zipIdx_cons, List.map_cons, List.map_cons, zip_fst r (k + 1)]
theorem kvP_keys (L : List (Str × Int)) : (kvP L).map (·.1) = (L.map (·.1)).map Sum.inr := by
  unfold kvP
  rw [List.map_map]
  exact zip_fst _ 0
theorem kvP_len (L : List (Str × Int)) : (kvP L).length = L.length := by
  unfold kvP; simp
theorem kvP_put {L : List (Str × Int)} (nd : (L.map (·.1)).Nodup) {i : Nat} (hi : i < L.length) : putK (kvP (L.take i)) (Sum.inr L[i].1) (.int (i : Nat)) = kvP (L.take (i + 1)) := by
  have hn : valV (kvP (L.take i)) (Sum.inr L[i].1) = none := by
    unfold valV
    rw [Option.map_eq_none_iff, List.find?_eq_none]
    intro kv hkv e
    have h1 : kv.1 ∈ (kvP (L.take i)).map (·.1) := List.mem_map.mpr ⟨kv, hkv, rfl⟩
    rw [of_decide_eq_true e, kvP_keys] at h1
    obtain ⟨y, hy, e2⟩ := List.mem_map.mp h1
    cases (Sum.inr.inj e2)
    have h := not_mem_take nd (i := i) (by rw [List.length_map]; exact hi)
    rw [List.getElem_map, ← List.map_take] at h
    exact h hy
  rw [putK_new _ hn, take_snoc hi, kvP_snoc, List.length_take, Nat.min_eq_left (Nat.le_of_lt hi)]

end K62
namespace K62
open PySem PySem.Spec PyProof.Rows L2 TL
/-! ### the checks of variables and events, of good ones -/
def sp_vrow : Sp := fun vs H Q _ => ∃ (t : Addr) (q : Str × Int), vs = [.ref t] ∧ H t = some (.tup [.str q.1, .int q.2]) ∧ NameOk q.1 ∧ 1 ≤ q.2 ∧ q.2 ≤ 6 ∧ ∀ H', Same H H' → Q (.bl true) H'
theorem ok__is_variable_row {P : Program} {w : World} {K : PySem.W.Frag} {mg : Str → Option Value} {base : Heap} (T : Txt P K mg) : FnOk P w K mg base CX0 3 T.f__is_variable_row T.fd__is_variable_row ["row"] (sp_vrow) := by
  refine T.F__is_variable_row.ok sc__is_variable_row (fun vs H Q E h => ?_) (fun cdv A outer s H vs Q E hr h => ?_)
  · obtain ⟨_, _, rfl, _⟩ := h; rfl
  · obtain ⟨t, q, rfl, ht, hn, h1, h6, qq⟩ := h
    refine ⟨_, PSs.nox (pss_one (ps_ret (pe_and (pe_callB (show CallR _ _ (rIsi K) from call_isi) (by rfl) T.n_isinstance (by decide +kernel) (pa_cons (pv 0) (pa_cons (pe_bltn (v := .ty "tuple") (by rfl) T.n_tuple (by decide +kernel) rfl) pa_nil))) (pe_and (pe_cmpR op_eq (pe_callB (show CallR _ _ (rLenSeq K) from call_len_seq) (by rfl) T.n_len (by decide +kernel) (pa_cons (pv 0) pa_nil)) pe_int (nomark _)) (pe_and (pe_call (ok_is_name T) (hr.mono (by decide)) (by rfl) T.g_is_name T.F_is_name.kp (b_is_name T) .nil pass0 (pa_cons (pe_ix (show IxR _ (rIxT K) from ix_tup) (pv 0) pe_int (fun _ _ => rfl)) pa_nil)) (pe_one (pe_call (ok_is_integer T) (hr.mono (by decide)) (by rfl) T.g_is_integer T.F_is_integer.kp (b_is_integer T) .nil pass0 (pa_cons (pe_ix (show IxR _ (rIxT K) from ix_tup) (pv 0) pe_int (fun _ _ => rfl)) (pa_cons pe_int (pa_cons pe_int pa_nil)))))))))), ?_⟩
    refine ⟨_, rfl, _, _, _, _, _, rfl, .ty _, .base (.tup ht), kit_tt, _, rfl, ?_⟩
    refine ⟨_, rfl, t, _, rfl, .inr (.inl (.inl ht)), rfl, _, rfl, ?_⟩
    refine ⟨_, rfl, t, _, (0 : Int), _, rfl, rfl, .inl (.inl ht), rfl, q.1, rfl, hn, fun H1 s1 => ?_⟩
    have ht1 := s1 _ _ ht
    refine ⟨_, rfl, ?_⟩
    refine ⟨_, rfl, t, _, (1 : Int), _, rfl, rfl, .inl (.inl ht1), rfl, .int q.2, 1, 6, rfl, .inl ⟨q.2, rfl⟩, by show Q (.bl (decide (1 ≤ q.2) && decide (q.2 ≤ 6))) H1; rw [decide_eq_true h1, decide_eq_true h6]; exact qq _ s1⟩
def sp_vars (K : PySem.W.Frag) : Sp := fun vs H Q _ => ∃ (a : Addr) (xs : List V) (G : Addr → Prop) (L : List (Str × Int)), vs = [.ref a] ∧ Sq K H a xs ∧ Paired (isPair H G) xs L ∧ VarsOk L ∧ ∀ H', Same H H' → Q .non H'
theorem ok__check_variables {P : Program} {w : World} {K : PySem.W.Frag} {mg : Str → Option Value} {base : Heap} (T : Txt P K mg) : FnOk P w K mg base CX0 4 T.f__check_variables T.fd__check_variables ["variables"] (sp_vars K) := by
  refine T.F__check_variables.ok sc__check_variables (fun vs H Q E h => ?_) (fun cdv A outer s H vs Q E hr h => ?_)
  · obtain ⟨_, _, _, _, rfl, _⟩ := h; rfl
  · obtain ⟨a, xs, G, L, rfl, hS, pd, ok, q⟩ := h
    have lxs := pd.length
    have h1 := ok.pos
    have h8 := ok.few
    refine ⟨_, PSs.nox (pss_cons (ps_if (PW.pt (pw_or (pt_not (pt_val (pe_call (ok_is_list T) (hr.mono (by decide)) (by rfl) T.g_is_list T.F_is_list.kp (b_is_list T) .nil pass0 (pa_cons (pv 0) (pa_cons pe_int (pa_cons (pe_glob (v := .int 8) (by rfl) T.c_MOST_VARIABLES.choose_spec ⟨_, rfl⟩) pa_nil)))))) (pw_or1 (pt_not (pt_val (pe_callB (show CallR _ _ (rAll K) from cr_all rfl) (by rfl) T.n_all (by decide +kernel) (pa_cons (pe_lc (own := [("row", 3)]) (g := gName 3) rfl sc__check_variables.nd (pi_or (pi_list (pv 0)) (pi_tup (pv 0))) (blkOk_by (own := [("row", 3)]) (N := N__check_variables) (sc := defScope s__check_variables) (by decide +kernel)) (fun _ _ _ _ _ => (pg_name (i := 3) sc__check_variables.nd rfl (Or.inl rfl))) (fun _ _ _ _ _ => pts_nil) (fun _ _ _ _ _ => (pe_call (ok__is_variable_row T) (hr.mono (by decide)) (by rfl) T.g__is_variable_row T.F__is_variable_row.kp (b__is_variable_row T) .nil pass0 (pa_cons (pv 3) pa_nil)))) pa_nil))))))) (pss_one ps_never) pss_nil)
      (pss_one (ps_expr (pe_call (ok_check_distinct T) (hr.mono (by decide)) (by rfl) T.g_check_distinct T.F_check_distinct.kp (b_check_distinct T) .nil pass0 (pa_cons (pe_lc (own := [("name", 1), ("_", 2)]) (g := gTup K 2 (gCons (gName 1) (gCons (gName 2) gNil))) rfl sc__check_variables.nd (pi_or (pi_list (pv 0)) (pi_tup (pv 0))) (blkOk_by (own := [("name", 1), ("_", 2)]) (N := N__check_variables) (sc := defScope s__check_variables) (by decide +kernel)) (fun _ _ _ _ _ => (pg_tup rfl (pgs_cons (pg_name (i := 1) sc__check_variables.nd rfl (Or.inl rfl)) (pgs_cons (pg_name (i := 2) sc__check_variables.nd rfl (Or.inl rfl)) pgs_nil)))) (fun _ _ _ _ _ => pts_nil) (fun _ _ _ _ _ => (pv 1))) pa_nil))))), ?_⟩
    refine ⟨_, rfl, a, xs, 1, 8, rfl, hS, by omega, by omega, fun H1 s1 => ?_⟩
    refine ⟨_, rfl, ?_⟩
    refine or_walkA (fun R' h => ⟨_, rfl, h⟩) hS.sq (s1 a) fun J G1 w g D nD => ?_
    refine lc_it w (fun i H' => H' D = some (.lst (List.replicate i (.bl true))) ∧ Same H1 H') ⟨upd_same, Same.new nD⟩ (fun i H' _ p => g H' fun o e => p.2 a o (s1 a o e)) ?_ ?_
    · rintro i x H2 H3 hi ⟨p1, p2⟩ ⟨rfl, hx⟩
      obtain ⟨y, hy, t, rfl, _, ht⟩ := pd_get pd hx
      refine ⟨rfl, _, rfl, t, y, rfl, p2 _ _ (s1 _ _ ht), ok.nm y (List.mem_of_getElem? hy), (ok.sz y (List.mem_of_getElem? hy)).1, (ok.sz y (List.mem_of_getElem? hy)).2, fun H4 s4 => ?_⟩
      exact ⟨_, s4 _ _ p1, by rw [List.length_replicate, sizeLine_eq]; omega, by rw [upd_same, List.replicate_succ'], Same.upd_p (p2.trans s4) nD⟩
    · rintro H2 ⟨p1, p2⟩
      refine ⟨D, List.replicate xs.length true, rfl, SqL.of (by rw [p1, List.map_replicate]), ?_⟩
      have e : (List.replicate xs.length true).all id = true := by simp
      rw [e]
      refine ⟨_, rfl, ?_⟩
      have s2 := s1.trans p2
      refine or_walkA (fun R' h => ⟨_, rfl, h⟩) hS.sq (s2 a) fun J2 G2 w2 g2 D2 nD2 => ?_
      refine lc_it w2 (fun i H' => H' D2 = some (.lst ((L.take i).map fun z => V.str z.1)) ∧ Same H2 H') ⟨upd_same, Same.new nD2⟩ (fun i H' _ p => g2 H' fun o e => p.2 a o (s2 a o e)) ?_ ?_
      · rintro i x H3 H4 hi ⟨r1, r2⟩ ⟨rfl, hx⟩
        obtain ⟨y, hy, t, rfl, _, ht⟩ := pd_get pd hx
        have ht3 := r2 _ _ (s2 _ _ ht)
        refine ⟨t, _, rfl, .inl (.inl ht3), rfl, _, _, rfl, _, _, rfl, rfl, rfl, _, rfl, _, r1, by rw [List.length_map, List.length_take, sizeLine_eq]; omega, ?_, Same.upd_p r2 nD2⟩
        obtain ⟨li, ey⟩ := List.getElem?_eq_some_iff.mp hy
        rw [upd_same, take_snoc li, List.map_append, ey]; rfl
      · rintro H3 ⟨r1, r2⟩
        rw [lxs, List.take_length, show (L.map fun z => V.str z.1) = (L.map (·.1)).map V.str by rw [List.map_map]; rfl] at r1
        exact ⟨D2, L.map (·.1), rfl, .inl (SqL.of r1), ok.nd, by rw [List.length_map]; omega, fun H4 s4 => q H4 ((s2.trans r2).trans s4)⟩
def sp_var : Sp := fun vs H Q _ => ∃ (x : Str) (d : Addr) (kvs : List (Key × V)) (v : V), vs = [.str x, .ref d] ∧ H d = some (.dK kvs) ∧ valV kvs (Sum.inr x) = some v ∧ Q .non H
theorem ok__check_variable {P : Program} {w : World} {K : PySem.W.Frag} {mg : Str → Option Value} {base : Heap} (T : Txt P K mg) : FnOk P w K mg base CX0 1 T.f__check_variable T.fd__check_variable ["value", "sizes"] (sp_var) := by
  refine T.F__check_variable.ok sc__check_variable (fun vs H Q E h => ?_) (fun cdv A outer s H vs Q E hr h => ?_)
  · obtain ⟨_, _, _, _, rfl, _⟩ := h; rfl
  · obtain ⟨x, d, kvs, v, rfl, hd, hv, q⟩ := h
    refine ⟨_, PSs.nox (pss_one (ps_if (PW.pt (pw_or (pt_not (pt_val (pe_callB (show CallR _ _ (rIsi K) from call_isi) (by rfl) T.n_isinstance (by decide +kernel) (pa_cons (pv 0) (pa_cons (pe_bltn (v := .ty "str") (by rfl) T.n_str (by decide +kernel) rfl) pa_nil))))) (pw_or1 (pt_cmp (pc_dnotin (hu_of hr) (pv 0) (pv 1)))))) (pss_one ps_never) pss_nil)), ?_⟩
    have dg : DGet H d (.str x) (some v) := by rw [← hv]; exact DGet.k (k := Sum.inr x) hd
    exact ⟨_, rfl, _, _, _, _, _, rfl, .ty _, .base (.str _), kit_ss, _, rfl, _, rfl, _, rfl, d, _, rfl, dg, _, rfl, q⟩
def sp_chkscope (K : PySem.W.Frag) : Sp := fun vs H Q _ => ∃ (a d : Addr) (sc : List Str) (kvs : List (Key × V)), vs = [.ref a, .ref d] ∧ (SqL K H a (sc.map V.str) ∨ SqT K H a (sc.map V.str)) ∧ H d = some (.dK kvs) ∧ (∀ x ∈ sc, ∃ v, valV kvs (Sum.inr x) = some v) ∧ sc.Nodup ∧ sc.length ≤ 8 ∧ ∀ H', Same H H' → Q .non H'
theorem ok__check_scope {P : Program} {w : World} {K : PySem.W.Frag} {mg : Str → Option Value} {base : Heap} (T : Txt P K mg) : FnOk P w K mg base CX0 2 T.f__check_scope T.fd__check_scope ["scope", "sizes"] (sp_chkscope K) := by
  refine T.F__check_scope.ok sc__check_scope (fun vs H Q E h => ?_) (fun cdv A outer s H vs Q E hr h => ?_)
  · obtain ⟨_, _, _, _, rfl, _⟩ := h; rfl
  · obtain ⟨a, d, sc, kvs, rfl, hS, hd, hv, nd, s8, q⟩ := h
    refine ⟨_, PSs.nox (pss_cons (ps_for PassesOwn.never rfl (pi_or (pi_list (pv 0)) (pi_tup (pv 0))) (pg_name (i := 2) sc__check_scope.nd rfl (Or.inl rfl)) (pss_one (ps_expr (pe_call (ok__check_variable T) (hr.mono (by decide)) (by rfl) T.g__check_variable T.F__check_variable.kp (b__check_variable T) .nil pass0 (pa_cons (pv 2) (pa_cons (pv 1) pa_nil))))))
      (pss_one (ps_expr (pe_call (ok_check_distinct T) (hr.mono (by decide)) (by rfl) T.g_check_distinct T.F_check_distinct.kp (b_check_distinct T) .nil pass0 (pa_cons (pv 0) pa_nil))))), ?_⟩
    refine or_walkA (fun R' h => ⟨_, rfl, h⟩) hS (fun o e => e) fun J G w g => for_it w (fun i σ H' => ∃ x2, σ = [some (.ref a), some (.ref d), x2] ∧ H' = H) ?_ ?_ ?_ ?_
    · exact ⟨_, rfl, rfl⟩
    · rintro i σ H' _ ⟨x2, rfl, rfl⟩
      exact g _ fun o e => e
    · rintro i x σ Hx H' hi ⟨x2, rfl, rfl⟩ ⟨rfl, hx⟩
      obtain ⟨hj, rfl⟩ := str_at' hx
      obtain ⟨v, hv⟩ := hv _ (List.getElem_mem hj)
      exact ⟨_, rfl, _, rfl, _, d, kvs, v, rfl, hd, hv, _, rfl, rfl⟩
    · rintro σ H' ⟨x2, rfl, rfl⟩
      exact ⟨_, rfl, a, sc, rfl, hS, nd, s8, fun H' s' => q H' s'⟩
theorem int_at' {ns : List Int} {j : Nat} {x : V} (h : (ns.map V.int)[j]? = some x) : ∃ n, ns[j]? = some n ∧ x = .int n := by
  rw [List.getElem?_map] at h
  cases e : ns[j]? with
  | none => rw [e] at h; cases h
  | some y => rw [e] at h; exact ⟨y, rfl, (Option.some.inj h).symm⟩
/-- whether these are values, one for each of the sizes -/
def valsB (vs : List V) (zs : List Int) : Bool := decide (vs.length = zs.length) && (vs.zip zs).all fun z => inI 0 (z.2 - 1) z.1
theorem valsB_ok {ns zs : List Int} (l : ns.length = zs.length) (h : ∀ (i : Nat) (n z : Int), ns[i]? = some n → zs[i]? = some z → 0 ≤ n ∧ n < z) : valsB (ns.map V.int) zs = true := by
  unfold valsB
  rw [List.length_map, decide_eq_true l, Bool.true_and, List.all_eq_true]
  intro z hz
  obtain ⟨i, hi⟩ := List.getElem?_of_mem hz
  obtain ⟨h1, h2⟩ := List.getElem?_zip_eq_some.mp hi
  obtain ⟨n, hn, e⟩ := int_at' h1
  obtain ⟨a, b⟩ := h i n z.2 hn h2
  rw [e]
  show (decide (0 ≤ n) && decide (n ≤ z.2 - 1)) = true
  rw [decide_eq_true a, decide_eq_true (by omega)]; rfl
def sp_arevals (K : PySem.W.Frag) : Sp := fun vs H Q _ => ∃ (v : V) (p : Addr) (zs : List Int), vs = [v, .ref p] ∧ H p = some (.lst (zs.map V.int)) ∧ zs.length ≤ 8 ∧
  ((∃ ty, TyX K H v ty ∧ PySem.W.kitOne K ty (.type "tuple") = some false ∧ Q (.bl false) H) ∨
   ∃ t ws, v = .ref t ∧ H t = some (.tup ws) ∧ (∀ x ∈ ws, (∃ i, x = .int i) ∨ NotI K H x) ∧ ∀ H', Same H H' → Q (.bl (valsB ws zs)) H')
theorem ok__are_values {P : Program} {w : World} {K : PySem.W.Frag} {mg : Str → Option Value} {base : Heap} (T : Txt P K mg) : FnOk P w K mg base CX0 3 T.f__are_values T.fd__are_values ["value", "sizes"] (sp_arevals K) := by
  refine T.F__are_values.ok sc__are_values (fun vs H Q E h => ?_) (fun cdv A outer s H vs Q E hr h => ?_)
  · obtain ⟨_, _, _, rfl, _⟩ := h; rfl
  · obtain ⟨v, p, zs, rfl, hp, z8, h⟩ := h
    refine ⟨_, PSs.nox (pss_cons (ps_if (PW.pt (pw_or (pt_not (pt_val (pe_callB (show CallR _ _ (rIsi K) from call_isi) (by rfl) T.n_isinstance (by decide +kernel) (pa_cons (pv 0) (pa_cons (pe_bltn (v := .ty "tuple") (by rfl) T.n_tuple (by decide +kernel) rfl) pa_nil))))) (pw_or1 (pt_cmpR op_ne (pe_callB (show CallR _ _ (rLenSeq K) from call_len_seq) (by rfl) T.n_len (by decide +kernel) (pa_cons (pv 0) pa_nil)) (pe_callB (show CallR _ _ (rLenSeq K) from call_len_seq) (by rfl) T.n_len (by decide +kernel) (pa_cons (pv 1) pa_nil)) (nomark _))))) (pss_one (ps_ret pe_bl)) pss_nil)
      (pss_one (ps_ret (pe_callB (show CallR _ _ (rAll K) from cr_all rfl) (by rfl) T.n_all (by decide +kernel) (pa_cons (pe_lc (own := [("item", 2), ("size", 3)]) (g := gTup K 2 (gCons (gName 2) (gCons (gName 3) gNil))) rfl sc__are_values.nd (pi_zipM (by rfl) T.n_zip (pa_cons (pv 0) (pa_cons (pv 1) pa_nil))) (blkOk_by (own := [("item", 2), ("size", 3)]) (N := N__are_values) (sc := defScope s__are_values) (by decide +kernel)) (fun _ _ _ _ _ => (pg_tup rfl (pgs_cons (pg_name (i := 2) sc__are_values.nd rfl (Or.inl rfl)) (pgs_cons (pg_name (i := 3) sc__are_values.nd rfl (Or.inl rfl)) pgs_nil)))) (fun _ _ _ _ _ => pts_nil) (fun _ _ _ _ _ => (pe_call (ok_is_integer T) (hr.mono (by decide)) (by rfl) T.g_is_integer T.F_is_integer.kp (b_is_integer T) .nil pass0 (pa_cons (pv 2) (pa_cons pe_int (pa_cons (pe_op op_sub (pv 3) pe_int) pa_nil)))))) pa_nil))))), ?_⟩
    rcases h with ⟨ty, hty, k, q⟩ | ⟨t, ws, rfl, ht, hw, q⟩
    · exact ⟨_, rfl, _, _, ty, _, _, rfl, .ty _, hty, k, _, rfl, q⟩
    · refine ⟨_, rfl, _, _, _, _, _, rfl, .ty _, .base (.tup ht), kit_tt, _, rfl, ?_⟩
      refine ⟨_, rfl, t, _, rfl, .inr (.inl (.inl ht)), _, rfl, p, _, rfl, .inl (SqL.of hp), rfl, _, rfl, ite2 (fun e => ?_) (fun e => ?_)⟩
      · have ne : ¬ ws.length = zs.length := fun z => by rw [List.length_map, z] at e; simp at e
        have en : valsB ws zs = false := by unfold valsB; rw [decide_eq_false ne, Bool.false_and]
        rw [en] at q
        exact q H (Same.refl H)
      · have el : ws.length = zs.length := by
          rw [List.length_map] at e
          simp at e
          omega
        refine ⟨_, rfl, _, rfl, t, p, _, _, rfl, .inl (.inl ht), SqL.of hp, fun D nD => ?_⟩
        have mn : min ws.length (zs.map V.int).length = zs.length := by rw [List.length_map, el, Nat.min_self]
        refine lc_it walk_zipM (fun i H' => H' D = some (.lst ((((ws.zip zs).take i).map fun z => inI 0 (z.2 - 1) z.1).map V.bl)) ∧ Same H H') ⟨upd_same, Same.new nD⟩ (fun i H' _ p' => ⟨.inl (.inl (p'.2 _ _ ht)), SqL.of (p'.2 _ _ hp)⟩) ?_ ?_
        · rintro i x H2 H3 hi ⟨p1, p2⟩ ⟨T', x1, x2, rfl, nT, rfl, e1, e2⟩
          obtain ⟨z, hz, rfl⟩ := int_at' e2
          have mx := hw x1 (List.mem_of_getElem? e1)
          have li : i < (ws.zip zs).length := by rw [List.length_zip]; rw [List.length_map] at hi; exact hi
          have ez : (ws.zip zs)[i] = (x1, z) := by
            have := List.getElem?_zip_eq_some.mpr ⟨(show ws[i]? = some (x1, z).1 from e1), (show zs[i]? = some (x1, z).2 from hz)⟩
            exact (List.getElem?_eq_some_iff.mp this).2
          have hDT : upd H2 T' (.tup [x1, .int z]) D = some (.lst ((((ws.zip zs).take i).map fun z => inI 0 (z.2 - 1) z.1).map V.bl)) := by rw [upd_ne (ne_of_none p1 nT)]; exact p1
          have s3 := p2.trans (Same.new (o := .tup [x1, .int z]) nT)
          refine ⟨T', _, rfl, .inl (.inl upd_same), rfl, _, _, rfl, _, _, rfl, rfl, rfl, ?_⟩
          refine ⟨_, rfl, _, rfl, _, _, rfl, rfl, x1, 0, z - 1, rfl, mx.imp id fun h => h.same s3, ?_⟩
          refine ⟨_, hDT, by rw [List.length_map, List.length_map, List.length_take, sizeLine_eq]; omega, ?_, Same.upd_p s3 nD⟩
          rw [upd_same, take_snoc li, ez, List.map_append, List.map_append]; rfl
        · rintro H2 ⟨p1, p2⟩
          have lz : (ws.zip zs).length = min ws.length (zs.map V.int).length := by rw [List.length_zip, List.length_map]
          rw [← lz, List.take_length] at p1
          refine ⟨D, (ws.zip zs).map (fun z => inI 0 (z.2 - 1) z.1), rfl, SqL.of p1, ?_⟩
          have en : ((ws.zip zs).map fun z => inI 0 (z.2 - 1) z.1).all id = valsB ws zs := by
            unfold valsB; rw [decide_eq_true el, Bool.true_and, List.all_map]; rfl
          rw [en]
          exact q H2 p2

end K62
namespace K62
open PySem PySem.Spec PyProof.Rows L2 TL
theorem sizes_zs {L : List (Str × Int)} (ok : VarsOk L) {sc : List Str} (h : ∀ x ∈ sc, x ∈ L.map (·.1)) : ∀ x ∈ sc, valV (kvL L) (Sum.inr x) = some (.int (sizeOf L x)) := fun x hx => (sizes_val ok (h x hx)).1
def sp_arebad (K : PySem.W.Frag) : Sp := fun vs H Q _ => ∃ (a p : Addr) (ys : List V) (bad : List (List Int)) (G : Addr → Prop) (zs : List Int), vs = [.ref a, .ref p] ∧ Sq K H a ys ∧ Paired (isTupI H G) ys bad ∧ H p = some (.lst (zs.map V.int)) ∧ zs.length ≤ 8 ∧ bad.length ≤ 12 ∧ bad.Nodup ∧ (∀ ns ∈ bad, ns.length = zs.length) ∧
  (∀ ns ∈ bad, ∀ (i : Nat) (n z : Int), ns[i]? = some n → zs[i]? = some z → 0 ≤ n ∧ n < z) ∧ ∀ H', Same H H' → Q (.bl true) H'
theorem pd_take {α β : Type} {F : α → β → Prop} : ∀ {l₁ : List α} {l₂ : List β} (i : Nat), Paired F l₁ l₂ → Paired F (l₁.take i) (l₂.take i)
  | _, _, 0, _ => by simp only [List.take_zero]; exact .nil
  | _, _, _ + 1, .nil => .nil
  | _, _, i + 1, .cons r t => .cons r (pd_take i t)
theorem ok__are_bad_tuples {P : Program} {w : World} {K : PySem.W.Frag} {mg : Str → Option Value} {base : Heap} (T : Txt P K mg) : FnOk P w K mg base CX0 4 T.f__are_bad_tuples T.fd__are_bad_tuples ["bad_tuples", "sizes"] (sp_arebad K) := by
  refine T.F__are_bad_tuples.ok sc__are_bad_tuples (fun vs H Q E h => ?_) (fun cdv A outer s H vs Q E hr h => ?_)
  · obtain ⟨_, _, _, _, _, _, rfl, _⟩ := h; rfl
  · obtain ⟨a, p, ys, bad, G, zs, rfl, hS, pd, hp, z8, b12, nd, bl, bv, q⟩ := h
    have lys := pd.length
    refine ⟨_, PSs.nox (pss_cons (ps_set (i := 2) sc__are_bad_tuples.nd rfl (Or.inl rfl) (pe_lst pa_nil))
      (pss_cons (ps_for PassesOwn.never rfl (pi_or (pi_list (pv 0)) (pi_tup (pv 0))) (pg_name (i := 3) sc__are_bad_tuples.nd rfl (Or.inl rfl)) (pss_cons (ps_if (PW.pt (pw_or (pt_not (pt_val (pe_call (ok__are_values T) (hr.mono (by decide)) (by rfl) T.g__are_values T.F__are_values.kp (b__are_values T) .nil pass0 (pa_cons (pv 3) (pa_cons (pv 1) pa_nil))))) (pw_or1 (pt_cmpR (show OpR _ (compareOp .In) (rInD K) from op_inD (hu65 hr)) (pv 3) (pv 2) (by first | rfl | with_unfolding_all rfl))))) (pss_one (ps_ret pe_bl)) pss_nil)
      (pss_one (ps_expr (pe_bm PySem.F.plainAttrs_list PySem.F.slot_list_append PySem.F.type_list_append mt_append (pv 2) (pa_cons (pv 3) pa_nil))))))
      (pss_one (ps_ret pe_bl)))), ?_⟩
    refine ⟨Nat.zero_le _, fun l nl => ?_⟩
    refine or_walkA (fun R' h => ⟨_, rfl, h⟩) hS.sq (fun o e => Same.new nl a o e) fun J G1 w g => for_it w (fun i σ H' => ∃ x3, σ = [some (.ref a), some (.ref p), some (.ref l), x3] ∧ Same H H' ∧ H' l = some (.lst (ys.take i))) ?_ ?_ ?_ ?_
    · exact ⟨_, rfl, Same.new nl, upd_same⟩
    · rintro i σ H' _ ⟨x3, rfl, s1, hl⟩
      exact g H' (s1 a)
    · rintro i x σ Hx H' hi ⟨x3, rfl, s1, hl⟩ ⟨rfl, hx⟩
      obtain ⟨ns, hn, hT⟩ := pd_get pd hx
      obtain ⟨li, ens⟩ := List.getElem?_eq_some_iff.mp hn
      have hT' := hT
      obtain ⟨t, rfl, _, ht⟩ := hT'
      have mm := List.mem_of_getElem? hn
      refine ⟨_, rfl, _, rfl, .ref t, p, zs, rfl, s1 _ _ hp, z8, .inr ⟨t, _, rfl, s1 _ _ ht, fun x hx => (by obtain ⟨i, _, rfl⟩ := List.mem_map.mp hx; exact .inl ⟨i, rfl⟩), fun H2 s2 => ?_⟩⟩
      rw [valsB_ok (bl ns mm) (bv ns mm)]
      have s12 := s1.trans s2
      refine ⟨_, rfl, ?_⟩
      refine ⟨_, rfl, _, rfl, tupD ns, (bad.take i).map tupD, dp_tup (hT.same s12), .lst (SqL.of (s2 _ _ hl)) (dp_all (fun _ _ z => dp_tup z) (pd_take i (Paired.mono (fun _ _ z => isTupI.same z s12) pd))), (shd_tup ns).shaped (by decide), (shd_tups _).shaped (by decide), _, rfl, ?_⟩
      rw [any_tups, decide_eq_false (by rw [← ens]; exact not_mem_take nd li)]
      refine iteF ⟨_, rfl, .inl ⟨rfl, _, SqL.of (s2 _ _ hl)⟩, _, rfl, l, _, _, rfl, rfl, s2 _ _ hl, by rw [List.length_take, sizeLine_eq]; omega, ?_⟩
      obtain ⟨lj, ex⟩ := List.getElem?_eq_some_iff.mp hx
      exact ⟨_, rfl, Same.upd_p s12 nl, by rw [upd_same, take_snoc lj, ex]⟩
    · rintro σ H' ⟨x3, rfl, s1, hl⟩
      exact q H' s1
def sp_erow (K : PySem.W.Frag) : Sp := fun vs H Q _ => ∃ (t a b : Addr) (x : Str) (xs ys : List V), vs = [.ref t] ∧ H t = some (.tup [.str x, .ref a, .ref b]) ∧ NameOk x ∧ Sq K H a xs ∧ Sq K H b ys ∧ 1 ≤ xs.length ∧ xs.length ≤ 4 ∧ ys.length ≤ 12 ∧ ∀ H', Same H H' → Q (.bl true) H'
theorem ok__is_event_row {P : Program} {w : World} {K : PySem.W.Frag} {mg : Str → Option Value} {base : Heap} (T : Txt P K mg) : FnOk P w K mg base CX0 2 T.f__is_event_row T.fd__is_event_row ["row"] (sp_erow K) := by
  refine T.F__is_event_row.ok sc__is_event_row (fun vs H Q E h => ?_) (fun cdv A outer s H vs Q E hr h => ?_)
  · obtain ⟨_, _, _, _, _, _, rfl, _⟩ := h; rfl
  · obtain ⟨t, a, b, x, xs, ys, rfl, ht, hn, ha, hb, x1, x4, y12, q⟩ := h
    refine ⟨_, PSs.nox (pss_cons (ps_if (PW.pt (pw_or (pt_not (pt_val (pe_callB (show CallR _ _ (rIsi K) from call_isi) (by rfl) T.n_isinstance (by decide +kernel) (pa_cons (pv 0) (pa_cons (pe_bltn (v := .ty "tuple") (by rfl) T.n_tuple (by decide +kernel) rfl) pa_nil))))) (pw_or1 (pt_cmpR op_ne (pe_callB (show CallR _ _ (rLenSeq K) from call_len_seq) (by rfl) T.n_len (by decide +kernel) (pa_cons (pv 0) pa_nil)) pe_int (nomark _))))) (pss_one (ps_ret pe_bl)) pss_nil)
      (pss_one (ps_ret (pe_and (pe_call (ok_is_name T) (hr.mono (by decide)) (by rfl) T.g_is_name T.F_is_name.kp (b_is_name T) .nil pass0 (pa_cons (pe_ix (show IxR _ (rIxT K) from ix_tup) (pv 0) pe_int (fun _ _ => rfl)) pa_nil)) (pe_and (pe_call (ok_is_list T) (hr.mono (by decide)) (by rfl) T.g_is_list T.F_is_list.kp (b_is_list T) .nil pass0 (pa_cons (pe_ix (show IxR _ (rIxT K) from ix_tup) (pv 0) pe_int (fun _ _ => rfl)) (pa_cons pe_int (pa_cons pe_int pa_nil)))) (pe_one (pe_call (ok_is_list T) (hr.mono (by decide)) (by rfl) T.g_is_list T.F_is_list.kp (b_is_list T) .nil pass0 (pa_cons (pe_ix (show IxR _ (rIxT K) from ix_tup) (pv 0) pe_int (fun _ _ => rfl)) (pa_cons pe_int (pa_cons pe_int pa_nil)))))))))), ?_⟩
    refine ⟨_, rfl, _, _, _, _, _, rfl, .ty _, .base (.tup ht), kit_tt, _, rfl, ?_⟩
    refine ⟨_, rfl, t, _, rfl, .inr (.inl (.inl ht)), rfl, _, rfl, ?_⟩
    refine ⟨_, rfl, t, _, (0 : Int), _, rfl, rfl, .inl (.inl ht), rfl, x, rfl, hn, fun H1 s1 => ?_⟩
    refine ⟨_, rfl, ?_⟩
    refine ⟨_, rfl, t, _, (1 : Int), _, rfl, rfl, .inl (.inl (s1 _ _ ht)), rfl, a, xs, 1, 4, rfl, ha.same s1, by omega, by omega, fun H2 s2 => ?_⟩
    have s12 := s1.trans s2
    refine ⟨_, rfl, ?_⟩
    exact ⟨_, rfl, t, _, (2 : Int), _, rfl, rfl, .inl (.inl (s12 _ _ ht)), rfl, b, ys, 0, 12, rfl, hb.same s12, by omega, by omega, fun H3 s3 => q H3 (s12.trans s3)⟩
def sp_evs (K : PySem.W.Frag) : Sp := fun vs H Q _ => ∃ (a d : Addr) (xs : List V) (F G : Addr → Prop) (L : List (Str × Int)) (R : List Row), vs = [.ref a, .ref d] ∧ Sq K H a xs ∧ Paired (isRow H F G) xs R ∧ H d = some (.dK (kvL L)) ∧ VarsOk L ∧ EvsOk L R ∧ ∀ H', Same H H' → Q .non H'
theorem ok__check_events {P : Program} {w : World} {K : PySem.W.Frag} {mg : Str → Option Value} {base : Heap} (T : Txt P K mg) : FnOk P w K mg base CX0 5 T.f__check_events T.fd__check_events ["events", "sizes"] (sp_evs K) := by
  refine T.F__check_events.ok sc__check_events (fun vs H Q E h => ?_) (fun cdv A outer s H vs Q E hr h => ?_)
  · obtain ⟨_, _, _, _, _, _, _, rfl, _⟩ := h; rfl
  · obtain ⟨a, d, xs, F, G, L, R, rfl, hS, pd, hd, okL, okR, q⟩ := h
    have lxs := pd.length
    have r8 := okR.few
    refine ⟨_, PSs.nox (pss_cons (ps_if (PW.pt (pw_or (pt_not (pt_val (pe_call (ok_is_list T) (hr.mono (by decide)) (by rfl) T.g_is_list T.F_is_list.kp (b_is_list T) .nil pass0 (pa_cons (pv 0) (pa_cons pe_int (pa_cons (pe_glob (v := .int 8) (by rfl) T.c_MOST_EVENTS.choose_spec ⟨_, rfl⟩) pa_nil)))))) (pw_or1 (pt_not (pt_val (pe_callB (show CallR _ _ (rAll K) from cr_all rfl) (by rfl) T.n_all (by decide +kernel) (pa_cons (pe_lc (own := [("row", 6)]) (g := gName 6) rfl sc__check_events.nd (pi_or (pi_list (pv 0)) (pi_tup (pv 0))) (blkOk_by (own := [("row", 6)]) (N := N__check_events) (sc := defScope s__check_events) (by decide +kernel)) (fun _ _ _ _ _ => (pg_name (i := 6) sc__check_events.nd rfl (Or.inl rfl))) (fun _ _ _ _ _ => pts_nil) (fun _ _ _ _ _ => (pe_call (ok__is_event_row T) (hr.mono (by decide)) (by rfl) T.g__is_event_row T.F__is_event_row.kp (b__is_event_row T) .nil pass0 (pa_cons (pv 6) pa_nil)))) pa_nil))))))) (pss_one ps_never) pss_nil)
      (pss_cons (ps_set (i := 2) sc__check_events.nd rfl (Or.inl rfl) (pe_lst pa_nil))
      (pss_one (ps_for PassesOwn.never rfl (pi_or (pi_list (pv 0)) (pi_tup (pv 0))) (pg_tup rfl (pgs_cons (pg_name (i := 3) sc__check_events.nd rfl (Or.inl rfl)) (pgs_cons (pg_name (i := 4) sc__check_events.nd rfl (Or.inl rfl)) (pgs_cons (pg_name (i := 5) sc__check_events.nd rfl (Or.inl rfl)) pgs_nil)))) (pss_cons (ps_if (pt_cmpR (show OpR _ (compareOp .In) (rIn K false) from op_in_seq) (pv 3) (pv 2) (by first | rfl | with_unfolding_all rfl)) (pss_one ps_never) pss_nil)
      (pss_cons (ps_expr (pe_bm PySem.F.plainAttrs_list PySem.F.slot_list_append PySem.F.type_list_append mt_append (pv 2) (pa_cons (pv 3) pa_nil)))
      (pss_cons (ps_expr (pe_call (ok__check_scope T) (hr.mono (by decide)) (by rfl) T.g__check_scope T.F__check_scope.kp (b__check_scope T) .nil pass0 (pa_cons (pv 4) (pa_cons (pv 1) pa_nil))))
      (pss_one (ps_if (pt_not (pt_val (pe_call (ok__are_bad_tuples T) (hr.mono (by decide)) (by rfl) T.g__are_bad_tuples T.F__are_bad_tuples.kp (b__are_bad_tuples T) .nil pass0 (pa_cons (pv 5) (pa_cons (pe_lc (own := [("variable", 7)]) (g := gName 7) rfl sc__check_events.nd (pi_or (pi_list (pv 4)) (pi_tup (pv 4))) (blkOk_by (own := [("variable", 7)]) (N := N__check_events) (sc := defScope s__check_events) (by decide +kernel)) (fun _ _ _ _ _ => (pg_name (i := 7) sc__check_events.nd rfl (Or.inl rfl))) (fun _ _ _ _ _ => pts_nil) (fun _ _ _ _ _ => (pe_dget (hu_of hr) (pv 1) (pv 7) (fun _ _ => rfl)))) pa_nil))))) (pss_one ps_never) pss_nil))))))))), ?_⟩
    refine ⟨_, rfl, a, xs, 0, 8, rfl, hS, by omega, by omega, fun H1 s1 => ?_⟩
    refine ⟨_, rfl, ?_⟩
    refine or_walkA (fun R' h => ⟨_, rfl, h⟩) hS.sq (s1 a) fun J G1 w g D nD => ?_
    refine lc_it w (fun i H' => H' D = some (.lst (List.replicate i (.bl true))) ∧ Same H1 H') ⟨upd_same, Same.new nD⟩ (fun i H' _ p => g H' fun o e => p.2 a o (s1 a o e)) ?_ ?_
    · rintro i x H2 H3 hi ⟨p1, p2⟩ ⟨rfl, hx⟩
      obtain ⟨r, hr', t, ta, tb, ys, rfl, _, ht, la, lb, pb⟩ := pd_get pd hx
      have rok := okR.ok r (List.mem_of_getElem? hr')
      have s13 := s1.trans p2
      have k1 := rok.pos
      have k2 := rok.few
      have k3 := rok.bfew
      have k4 := pb.length
      refine ⟨rfl, _, rfl, t, ta, tb, r.1, _, ys, rfl, s13 _ _ ht, rok.nm, la.s.same s13, lb.s.same s13, by rw [List.length_map]; omega, by rw [List.length_map]; omega, by omega, fun H4 s4 => ?_⟩
      exact ⟨_, s4 _ _ p1, by rw [List.length_replicate, sizeLine_eq]; omega, by rw [upd_same, List.replicate_succ'], Same.upd_p (p2.trans s4) nD⟩
    · rintro H2 ⟨p1, p2⟩
      refine ⟨D, List.replicate xs.length true, rfl, SqL.of (by rw [p1, List.map_replicate]), ?_⟩
      have e : (List.replicate xs.length true).all id = true := by simp
      rw [e]
      refine ⟨_, rfl, ?_⟩
      have s2 := s1.trans p2
      refine ⟨Nat.zero_le _, fun l nl => ?_⟩
      have nlH : H l = none := by
        cases e : H l with
        | none => rfl
        | some o => rw [s2 _ _ e] at nl; cases nl
      refine or_walkA (fun R' h => ⟨_, rfl, h⟩) hS.sq (fun o e => (s2.trans (Same.new nl)) a o e) fun J G2 w g2 => for_it w (fun i σ H' => ∃ x3 x4 x5, σ = [some (.ref a), some (.ref d), some (.ref l), x3, x4, x5, none, none] ∧ Same H H' ∧ H' l = some (.lst ((R.take i).map fun r => V.str r.1))) ?_ ?_ ?_ ?_
      · exact ⟨_, _, _, rfl, s2.trans (Same.new nl), upd_same⟩
      · rintro i σ H' _ ⟨x3, x4, x5, rfl, s3, hl⟩
        exact g2 H' (s3 a)
      · rintro i x σ Hx H' hi ⟨x3, x4, x5, rfl, s3, hl⟩ ⟨rfl, hx⟩
        obtain ⟨r, hr', t, ta, tb, ys, rfl, _, ht, la, lb, pb⟩ := pd_get pd hx
        obtain ⟨li, er⟩ := List.getElem?_eq_some_iff.mp hr'
        have rok := okR.ok r (List.mem_of_getElem? hr')
        have nin : r.1 ∉ (R.map (·.1)).take i := by
          have := not_mem_take okR.nd (i := i) (by rw [List.length_map]; exact li)
          rw [List.getElem_map, er] at this
          exact this
        have hl2 : H' l = some (.lst (((R.map (·.1)).take i).map V.str)) := by rw [hl, ← List.map_take, List.map_map]; rfl
        have k2 := rok.few
        refine ⟨t, _, rfl, .inl (.inl (s3 _ _ ht)), rfl, _, _, rfl, _, _, rfl, _, _, rfl, rfl, ?_⟩
        refine ⟨_, rfl, _, rfl, l, _, rfl, .inl (SqL.of hl2), rfl, flat_str _, _, rfl, ?_⟩
        rw [inV_str, decide_eq_false nin]
        refine iteF ⟨_, rfl, .inl ⟨rfl, _, SqL.of hl2⟩, _, rfl, l, _, _, rfl, rfl, hl2, by rw [List.length_map, List.length_take, sizeLine_eq]; omega, ?_⟩
        have s4 := Same.upd_p (o := .lst (((R.map (·.1)).take i).map V.str ++ [V.str r.1])) s3 nlH
        have hl4 : upd H' l (.lst (((R.map (·.1)).take i).map V.str ++ [V.str r.1])) l = some (.lst ((R.take (i + 1)).map fun r => V.str r.1)) := by
          rw [upd_same, take_snoc li, List.map_append, ← List.map_take, List.map_map, er]; rfl
        generalize upd H' l (.lst (((R.map (·.1)).take i).map V.str ++ [V.str r.1])) = H4 at s4 hl4
        have hv := sizes_zs okL rok.sub
        refine ⟨_, rfl, _, rfl, ta, d, r.2.1, _, rfl, (la.s.same s4).sq, s4 _ _ hd, fun x hx => ⟨_, hv x hx⟩, rok.nd, by omega, fun H5 s5 => ?_⟩
        have s45 := s4.trans s5
        refine ⟨_, rfl, ?_⟩
        refine or_walkA (fun R' h => ⟨_, rfl, h⟩) la.s.sq (s45 ta) fun J3 G3 w3 g3 D3 nD3 => ?_
        refine lc_it w3 (fun i H' => H' D3 = some (.lst (((r.2.1.take i).map (sizeOf L)).map V.int)) ∧ Same H5 H') ⟨upd_same, Same.new nD3⟩ (fun i H' _ p => g3 H' fun o e => p.2 ta o (s45 ta o e)) ?_ ?_
        · rintro j y H6 H7 hj ⟨p1, p2⟩ ⟨rfl, hy⟩
          obtain ⟨lj, rfl⟩ := str_at' hy
          have hvj := hv _ (List.getElem_mem lj)
          have dg : DGet H7 d (.str r.2.1[j]) (some (.int (sizeOf L r.2.1[j]))) := by rw [← hvj]; exact DGet.k (k := Sum.inr r.2.1[j]) (p2 _ _ (s45 _ _ hd))
          refine ⟨rfl, _, rfl, _, rfl, d, _, rfl, dg, _, p1, by rw [List.length_map, List.length_map, List.length_take, sizeLine_eq]; omega, ?_, Same.upd_p p2 nD3⟩
          rw [upd_same, take_snoc lj, List.map_append, List.map_append]; rfl
        · rintro H6 ⟨p1, p2⟩
          rw [List.length_map, List.take_length] at p1
          have s6 := s45.trans p2
          refine ⟨tb, D3, ys, r.2.2, G, r.2.1.map (sizeOf L), rfl, lb.s.same s6, Paired.mono (fun _ _ z => isTupI.same z s6) pb, p1, by rw [List.length_map]; omega, rok.bfew, rok.bnd, fun ns hns => by rw [List.length_map]; exact rok.bl ns hns, fun ns hns k n z h1 h2 => ?_, fun H7 s7 => ?_⟩
          · rw [List.getElem?_map] at h2
            cases e : r.2.1[k]? with
            | none => rw [e] at h2; cases h2
            | some x => rw [e] at h2; cases h2; exact rok.bv ns hns k x n e h1
          · exact ⟨_, rfl, _, _, _, rfl, s6.trans s7, s7 _ _ (p2 _ _ (s5 _ _ hl4))⟩
      · rintro σ H' ⟨x3, x4, x5, rfl, s3, hl⟩
        exact q H' s3

end K62
namespace K62
open PySem PySem.Spec PyProof.Rows L2 TL
/-! ### making a problem -/
def sp_pinit (K : PySem.W.Frag) (C : Addr) : Sp := fun vs H Q _ => ∃ (H0 : Hp) (p dx a e : Addr) (xs ys : List V) (L : List (Str × Int)) (R : List Row), vs = [.ref p, .ref a, .ref e] ∧ H p = some (.ins C dx []) ∧ H0 p = none ∧ Same H0 H ∧
  Sq K H0 a xs ∧ Paired (isPair H0 (Old H0)) xs L ∧ VarsOk L ∧ Sq K H0 e ys ∧ Paired (isRow H0 (Old H0) (Old H0)) ys R ∧ EvsOk L R ∧ ∀ H', Same H0 H' → IsP C H' (New H0) (Old H0) p L R → Q .non H'
theorem same_p {H0 H : Hp} {p : Addr} {o : HO} (s : Same H0 H) (n : H0 p = none) : Same H0 (upd H p o) := Same.upd_p s n
theorem ent_keys {H : Hp} {F G : Addr → Prop} : ∀ {E : List Ent} {R : List Row}, Paired (isEnt H F G) E R → E.map (·.1) = R.map (·.1)
  | _, _, .nil => rfl
  | _, _, .cons r t => by rw [List.map_cons, List.map_cons, r.1, ent_keys t]
theorem putK_len' (c : List (Key × V)) (k : Key) (x : V) : (putK c k x).length ≤ c.length + 1 := by
  unfold putK
  split
  · rw [List.length_map]; omega
  · rw [List.length_append]; exact Nat.le_refl _
theorem ok_Problem_init {P : Program} {w : World} {K : PySem.W.Frag} {mg : Str → Option Value} {base : Heap} (T : Txt P K mg) : FnOk P w K mg base CX0 6 T.f_Problem_init T.fd_Problem_init ["self", "variables", "events"] (sp_pinit K T.C_Problem) := by
  refine T.F_Problem_init.ok sc_Problem_init (fun vs H Q E h => ?_) (fun cdv A outer s H vs Q E hr h => ?_)
  · obtain ⟨_, _, _, _, _, _, _, _, _, rfl, _⟩ := h; rfl
  · obtain ⟨H0, p, dx, a, e, xs, ys, L, R, rfl, hp, n0, s0, hA, pdL, okL, hE, pdR, okR, q⟩ := h
    have lxs := pdL.length
    have lys := pdR.length
    have l8 := okL.few
    have r8 := okR.few
    refine ⟨_, PSs.nox (pss_cons (ps_expr (pe_call (ok__check_variables T) (hr.mono (by decide)) (by rfl) T.g__check_variables T.F__check_variables.kp (b__check_variables T) .nil pass0 (pa_cons (pv 1) pa_nil)))
      (pss_cons (ps_fld (pv 0) (pe_callTy (show CallR _ _ (rListOf K) from call_list_of) (by rfl) T.n_list (by decide +kernel) (pa_cons (pv 1) pa_nil)) rfl)
      (pss_cons (ps_fld (pv 0) (pe_dc (own := [("name", 3), ("size", 4)]) (g := gTup K 2 (gCons (gName 3) (gCons (gName 4) gNil))) rfl sc_Problem_init.nd (pi_or (pi_list (pv 1)) (pi_tup (pv 1))) (blkOk_by (own := [("name", 3), ("size", 4)]) (N := N_Problem_init) (sc := defScope s_Problem_init) (by decide +kernel)) (fun _ _ _ _ _ => (pg_tup rfl (pgs_cons (pg_name (i := 3) sc_Problem_init.nd rfl (Or.inl rfl)) (pgs_cons (pg_name (i := 4) sc_Problem_init.nd rfl (Or.inl rfl)) pgs_nil)))) (fun _ _ _ _ _ => pts_nil) (fun _ _ _ _ _ => (pv 3)) (fun _ _ _ _ _ => (pv 4))) rfl)
      (pss_cons (ps_fld (pv 0) (pe_lock (pe_dc (own := [("place", 5), ("name", 3)]) (g := gTup K 2 (gCons (gName 5) (gCons (gName 3) gNil))) rfl sc_Problem_init.nd (pi_enumD (by rfl) T.n_enumerate (pa_cons (show PE _ _ (tFld K _ _) from pe_fld (pv 0) rfl) pa_nil)) (blkOk_by (own := [("place", 5), ("name", 3)]) (N := N_Problem_init) (sc := defScope s_Problem_init) (by decide +kernel)) (fun _ _ _ _ _ => (pg_tup rfl (pgs_cons (pg_name (i := 5) sc_Problem_init.nd rfl (Or.inl rfl)) (pgs_cons (pg_name (i := 3) sc_Problem_init.nd rfl (Or.inl rfl)) pgs_nil)))) (fun _ _ _ _ _ => pts_nil) (fun _ _ _ _ _ => (pv 3)) (fun _ _ _ _ _ => (pv 5)))) rfl)
      (pss_cons (ps_expr (pe_call (ok__check_events T) (hr.mono (by decide)) (by rfl) T.g__check_events T.F__check_events.kp (b__check_events T) .nil pass0 (pa_cons (pv 2) (pa_cons (show PE _ _ (tFld K _ _) from pe_fld (pv 0) rfl) pa_nil))))
      (pss_cons (ps_fld (pv 0) (pe_lc (own := [("name", 3), ("scope", 6), ("bad_tuples", 7)]) (g := gTup K 3 (gCons (gName 3) (gCons (gName 6) (gCons (gName 7) gNil)))) rfl sc_Problem_init.nd (pi_or (pi_list (pv 2)) (pi_tup (pv 2))) (blkOk_by (own := [("name", 3), ("scope", 6), ("bad_tuples", 7)]) (N := N_Problem_init) (sc := defScope s_Problem_init) (by decide +kernel)) (fun _ _ _ _ _ => (pg_tup rfl (pgs_cons (pg_name (i := 3) sc_Problem_init.nd rfl (Or.inl rfl)) (pgs_cons (pg_name (i := 6) sc_Problem_init.nd rfl (Or.inl rfl)) (pgs_cons (pg_name (i := 7) sc_Problem_init.nd rfl (Or.inl rfl)) pgs_nil))))) (fun _ _ _ _ _ => pts_nil) (fun _ _ _ _ _ => (pe_tup (pa_cons (pv 3) (pa_cons (pe_callTy (show CallR _ _ (rListOf K) from call_list_of) (by rfl) T.n_list (by decide +kernel) (pa_cons (pv 6) pa_nil)) (pa_cons (pe_callB (show CallR _ _ (rSortTT K) from cr_sortTT) (by rfl) T.n_sorted (by decide +kernel) (pa_cons (pv 7) pa_nil)) pa_nil)))))) rfl)
      (pss_cons (ps_fld (pv 0) (pe_dc (own := [("name", 3), ("scope", 6), ("_", 8)]) (g := gTup K 3 (gCons (gName 3) (gCons (gName 6) (gCons (gName 8) gNil)))) rfl sc_Problem_init.nd (pi_list (show PE _ _ (tFld K _ _) from pe_fld (pv 0) rfl)) (blkOk_by (own := [("name", 3), ("scope", 6), ("_", 8)]) (N := N_Problem_init) (sc := defScope s_Problem_init) (by decide +kernel)) (fun _ _ _ _ _ => (pg_tup rfl (pgs_cons (pg_name (i := 3) sc_Problem_init.nd rfl (Or.inl rfl)) (pgs_cons (pg_name (i := 6) sc_Problem_init.nd rfl (Or.inl rfl)) (pgs_cons (pg_name (i := 8) sc_Problem_init.nd rfl (Or.inl rfl)) pgs_nil))))) (fun _ _ _ _ _ => pts_nil) (fun _ _ _ _ _ => (pv 3)) (fun _ _ _ _ _ => (pv 6))) rfl)
      (pss_cons (ps_fld (pv 0) (pe_dc (own := [("name", 3), ("_", 8), ("bad_tuples", 7)]) (g := gTup K 3 (gCons (gName 3) (gCons (gName 8) (gCons (gName 7) gNil)))) rfl sc_Problem_init.nd (pi_list (show PE _ _ (tFld K _ _) from pe_fld (pv 0) rfl)) (blkOk_by (own := [("name", 3), ("_", 8), ("bad_tuples", 7)]) (N := N_Problem_init) (sc := defScope s_Problem_init) (by decide +kernel)) (fun _ _ _ _ _ => (pg_tup rfl (pgs_cons (pg_name (i := 3) sc_Problem_init.nd rfl (Or.inl rfl)) (pgs_cons (pg_name (i := 8) sc_Problem_init.nd rfl (Or.inl rfl)) (pgs_cons (pg_name (i := 7) sc_Problem_init.nd rfl (Or.inl rfl)) pgs_nil))))) (fun _ _ _ _ _ => pts_nil) (fun _ _ _ _ _ => (pv 3)) (fun _ _ _ _ _ => (pv 7))) rfl)
      (pss_one (ps_fld (pv 0) (pe_lock (pe_dc (own := [("name", 3)]) (g := gName 3) rfl sc_Problem_init.nd (pi_keys (show PE _ _ (tFld K _ _) from pe_fld (pv 0) rfl)) (blkOk_by (own := [("name", 3)]) (N := N_Problem_init) (sc := defScope s_Problem_init) (by decide +kernel)) (fun _ _ _ _ _ => (pg_name (i := 3) sc_Problem_init.nd rfl (Or.inl rfl))) (fun _ _ _ _ _ => pts_nil) (fun _ _ _ _ _ => (pv 3)) (fun _ _ _ _ _ => (pe_call (ok__neighbors_of T) (hr.mono (by decide)) (by rfl) T.g__neighbors_of T.F__neighbors_of.kp (b__neighbors_of T) .nil pass0 (pa_cons (pv 3) (pa_cons (show PE _ _ (tFld K _ _) from pe_fld (pv 0) rfl) pa_nil)))))) rfl)))))))))), ?_⟩
    -- the check of the variables
    refine ⟨_, rfl, a, xs, Old H0, L, rfl, hA.same s0, Paired.mono (fun _ _ z => z.same s0) pdL, okL, fun H1 s1 => ?_⟩
    have hp1 := s1 _ _ hp
    replace s1 := s0.trans s1
    clear hp s0
    -- self._variables
    refine ⟨_, rfl, a, xs, rfl, (hA.same s1).sq, fun av nav => ?_⟩
    have nvp : av ≠ p := (ne_of_none hp1 nav).symm
    refine ⟨_, rfl, p, _, dx, _, rfl, Same.new nav _ _ hp1, T.cl_Problem, T.na_Problem__variables, (by decide), ?_⟩
    have s2 := same_p (o := .ins T.C_Problem dx (putF "_variables" (.ref av) [])) (s1.trans (Same.new (o := .lst xs) nav)) n0
    have hp2 : upd (upd H1 av (.lst xs)) p (.ins T.C_Problem dx (putF "_variables" (.ref av) [])) p = some (.ins T.C_Problem dx (putF "_variables" (.ref av) [])) := upd_same
    have hav2 : upd (upd H1 av (.lst xs)) p (.ins T.C_Problem dx (putF "_variables" (.ref av) [])) av = some (.lst xs) := by rw [upd_ne nvp, upd_same]
    have nav0 := Same.none s1 nav
    generalize upd (upd H1 av (.lst xs)) p (.ins T.C_Problem dx (putF "_variables" (.ref av) [])) = H2 at s2 hp2 hav2
    clear s1 hp1 nav
    -- self._sizes
    refine or_walkA (fun R' h => ⟨_, rfl, h⟩) hA.sq (s2 a) fun J G1 w g ds nds => ?_
    refine dc_it w (fun i H' => H' ds = some (.dK (kvL (L.take i))) ∧ Same H2 H') ⟨upd_same, Same.new nds⟩ (fun i H' _ h => g H' fun o e => h.2 a o (s2 a o e)) ?_ ?_
    · rintro i x H3 H4 hi ⟨h1, h2⟩ ⟨rfl, hx⟩
      obtain ⟨y, hy, t, rfl, _, ht⟩ := pd_get pdL hx
      obtain ⟨li, ey⟩ := List.getElem?_eq_some_iff.mp hy
      have ht4 := h2 _ _ (s2 _ _ ht)
      refine ⟨t, _, rfl, .inl (.inl ht4), rfl, _, _, rfl, _, _, rfl, rfl, rfl, _, rfl, _, rfl, _, Sum.inr y.1, rfl, h1, by have := kvL_take_len L i; rw [sizeLine_eq]; omega, ?_, Same.upd_p h2 nds⟩
      rw [upd_same, ← ey, kvL_put okL.nd li]
    rintro H3 ⟨hds, s3⟩
    rw [lxs, List.take_length] at hds
    have hp3 := s3 _ _ hp2
    have hav3 := s3 _ _ hav2
    have ndp : ds ≠ p := (ne_of_none hp2 nds).symm
    refine ⟨_, rfl, p, _, dx, _, rfl, hp3, T.cl_Problem, T.na_Problem__sizes, (by show 1 < 1000; decide), ?_⟩
    have s4 := same_p (o := .ins T.C_Problem dx (putF "_sizes" (.ref ds) (putF "_variables" (.ref av) []))) (s2.trans s3) n0
    have hp4 : upd H3 p (.ins T.C_Problem dx (putF "_sizes" (.ref ds) (putF "_variables" (.ref av) []))) p = some (.ins T.C_Problem dx (putF "_sizes" (.ref ds) (putF "_variables" (.ref av) []))) := upd_same
    have hav4 : upd H3 p (.ins T.C_Problem dx (putF "_sizes" (.ref ds) (putF "_variables" (.ref av) []))) av = some (.lst xs) := by rw [upd_ne nvp]; exact hav3
    have hds4 : upd H3 p (.ins T.C_Problem dx (putF "_sizes" (.ref ds) (putF "_variables" (.ref av) []))) ds = some (.dK (kvL L)) := by rw [upd_ne ndp]; exact hds
    have nds0 := Same.none s2 nds
    generalize upd H3 p (.ins T.C_Problem dx (putF "_sizes" (.ref ds) (putF "_variables" (.ref av) []))) = H4 at s4 hp4 hav4 hds4
    clear s3 hp3 hav3 hds s2 hp2 hav2 nds
    -- self._places
    refine ⟨ds, _, hds4, trivial, fun od => ?_⟩
    refine ⟨_, rfl, p, _, dx, _, _, rfl, by rw [upd_ne (Ne.symm ndp)]; exact hp4, T.cl_Problem, T.na_Problem__sizes, (lookup_putF ..).trans (if_pos rfl), ds, od, kvL L, rfl, upd_same, fun dp ndp' => ?_⟩
    refine dc_it walk_enumD (fun i H' => H' dp = some (.dK (kvP (L.take i))) ∧ Same (upd H4 ds (.frz od (.dK (kvL L)))) H') ⟨upd_same, Same.new ndp'⟩ (fun i H' _ h => frz_at h.2) ?_ ?_
    · rintro i x H5 H6 hi ⟨h1, h2⟩ ⟨T', y1, y2, rfl, nT, rfl, e1, e2⟩
      have li : i < L.length := by unfold kvL at hi; rwa [List.length_map] at hi
      have eq1 : (kvL L)[i]? = some (Sum.inr L[i].1, V.int L[i].2) := by unfold kvL; rw [List.getElem?_map, List.getElem?_eq_getElem li]; rfl
      simp only [eq1, Option.map_some] at e1 e2
      cases e1
      cases e2
      have hdT : upd H5 T' (.tup [.int (i : Nat), kV (Sum.inr L[i].1)]) dp = some (.dK (kvP (L.take i))) := by rw [upd_ne (ne_of_none h1 nT)]; exact h1
      refine ⟨T', _, rfl, .inl (.inl upd_same), rfl, _, _, rfl, _, _, rfl, rfl, rfl, _, rfl, _, rfl, _, Sum.inr L[i].1, rfl, hdT, by rw [kvP_len, List.length_take, sizeLine_eq]; omega, ?_, Same.upd_p (h2.trans (Same.new nT)) ndp'⟩
      rw [upd_same, kvP_put okL.nd li]
    rintro H5 ⟨hdp, s5⟩
    have lkL : (kvL L).length = L.length := by unfold kvL; rw [List.length_map]
    rw [lkL, List.take_length] at hdp
    have ndpp : dp ≠ p := fun e => by rw [e, upd_ne (Ne.symm ndp), hp4] at ndp'; cases ndp'
    have nddd : dp ≠ ds := fun e => by rw [e, upd_same] at ndp'; cases ndp'
    have ndp0 : H0 dp = none := Same.none s4 (by rw [upd_ne nddd] at ndp'; exact ndp')
    refine ⟨frz_at s5, ?_⟩
    have s6 := Same.unlock hds4 s5
    have hdp6 : upd H5 ds (.dK (kvL L)) dp = some (.dK (kvP L)) := by rw [upd_ne nddd]; exact hdp
    generalize upd H5 ds (.dK (kvL L)) = H6 at s6 hdp6
    have hp6 := s6 _ _ hp4
    refine ⟨_, rfl, p, _, dx, _, rfl, hp6, T.cl_Problem, T.na_Problem__places, (by show 2 < 1000; decide), ?_⟩
    have s7 := same_p (o := .ins T.C_Problem dx (putF "_places" (.ref dp) (putF "_sizes" (.ref ds) (putF "_variables" (.ref av) [])))) (s4.trans s6) n0
    have hp7 : upd H6 p (.ins T.C_Problem dx (putF "_places" (.ref dp) (putF "_sizes" (.ref ds) (putF "_variables" (.ref av) [])))) p = some (.ins T.C_Problem dx (putF "_places" (.ref dp) (putF "_sizes" (.ref ds) (putF "_variables" (.ref av) [])))) := upd_same
    have hav7 : upd H6 p (.ins T.C_Problem dx (putF "_places" (.ref dp) (putF "_sizes" (.ref ds) (putF "_variables" (.ref av) [])))) av = some (.lst xs) := by rw [upd_ne nvp]; exact s6 _ _ hav4
    have hds7 : upd H6 p (.ins T.C_Problem dx (putF "_places" (.ref dp) (putF "_sizes" (.ref ds) (putF "_variables" (.ref av) [])))) ds = some (.dK (kvL L)) := by rw [upd_ne ndp]; exact s6 _ _ hds4
    have hdp7 : upd H6 p (.ins T.C_Problem dx (putF "_places" (.ref dp) (putF "_sizes" (.ref ds) (putF "_variables" (.ref av) [])))) dp = some (.dK (kvP L)) := by rw [upd_ne ndpp]; exact hdp6
    generalize upd H6 p (.ins T.C_Problem dx (putF "_places" (.ref dp) (putF "_sizes" (.ref ds) (putF "_variables" (.ref av) [])))) = H7 at s7 hp7 hav7 hds7 hdp7
    clear s6 hp6 s5 hdp s4 hp4 hav4 hds4 ndp'
    -- the check of the events
    refine ⟨_, rfl, _, rfl, p, _, dx, _, _, rfl, hp7, T.cl_Problem, T.na_Problem__sizes, (lookup_putF ..).trans ((if_neg (by decide +kernel)).trans ((lookup_putF ..).trans (if_pos rfl))), e, ds, ys, Old H0, Old H0, L, R, rfl, hE.same s7, Paired.mono (fun _ _ z => z.same s7) pdR, hds7, okL, okR, fun H8 s8 => ?_⟩
    have hp8 := s8 _ _ hp7
    have hav8 := s8 _ _ hav7
    have hds8 := s8 _ _ hds7
    have hdp8 := s8 _ _ hdp7
    replace s8 := s7.trans s8
    clear s7 hp7 hav7 hds7
    -- self._events
    refine or_walkA (fun R' h => ⟨_, rfl, h⟩) hE.sq (s8 e) fun J2 G2 w2 g2 ae nae => ?_
    have nep : ae ≠ p := (ne_of_none hp8 nae).symm
    have nae0 := Same.none s8 nae
    let F1 : Addr → Prop := fun t => H0 t = none ∧ t ≠ ae ∧ t ≠ p
    refine lc_it w2 (fun i H' => ∃ (es : List V) (E : List Ent), H' ae = some (.lst es) ∧ es.length = i ∧ Paired (isEv H' F1) es E ∧ Paired (isEnt H' F1 (Old H0)) E (R.take i) ∧ Same H8 H') ⟨[], [], upd_same, rfl, .nil, .nil, Same.new nae⟩ (fun i H' _ ⟨_, _, _, _, _, _, h⟩ => g2 H' fun o e' => h e o (s8 e o e')) ?_ ?_
    · rintro i x H9 H10 hi ⟨es, E, h1, h2, h3, h4, h5⟩ ⟨rfl, hx⟩
      obtain ⟨r, hr', t, ta, tb, bs, rfl, _, ht, la, lb, pb⟩ := pd_get pdR hx
      obtain ⟨li, er⟩ := List.getElem?_eq_some_iff.mp hr'
      have rok := okR.ok r (List.mem_of_getElem? hr')
      have s9 := s8.trans h5
      have k1 := rok.pos
      have k3 := rok.bfew
      have k4 := pb.length
      refine ⟨t, _, rfl, .inl (.inl (s9 _ _ ht)), rfl, _, _, rfl, _, _, rfl, _, _, rfl, rfl, rfl, ?_⟩
      refine ⟨_, rfl, _, rfl, ta, _, rfl, (la.s.same s9).sq, fun l nl => ?_⟩
      have sl := Same.new (o := .lst (r.2.1.map V.str)) nl
      have hl : upd H10 l (.lst (r.2.1.map V.str)) l = some (.lst (r.2.1.map V.str)) := upd_same
      have nl0 := Same.none s9 nl
      have nlae : l ≠ ae := (ne_of_none h1 nl).symm
      have nlp : l ≠ p := (ne_of_none (h5 _ _ hp8) nl).symm
      generalize upd H10 l (.lst (r.2.1.map V.str)) = H11 at sl hl
      have s11 := s9.trans sl
      have pb11 := Paired.mono (fun _ _ z => isTupI.same z s11) pb
      refine ⟨_, rfl, tb, bs, rdT H11, r.2.1.length, 6, rfl, (lb.s.same s11).sq, by omega, k1, sort_in pb11 (row_bd okL rok), fun out bq pm pw nq => ?_⟩
      obtain ⟨sr, pout⟩ := sort_out pb11 pm pw
      have sq := Same.new (o := .lst out) nq
      have hq : upd H11 bq (.lst out) bq = some (.lst out) := upd_same
      have nq0 := Same.none s11 nq
      have nqae : bq ≠ ae := (ne_of_none (sl _ _ h1) nq).symm
      have nqp : bq ≠ p := (ne_of_none (sl _ _ (h5 _ _ hp8)) nq).symm
      generalize upd H11 bq (.lst out) = H12 at sq hq
      refine ⟨lenk 3 rfl (by decide), fun u nu => ?_⟩
      have su := Same.new (o := .tup [.str r.1, .ref l, .ref bq]) nu
      have hu : upd H12 u (.tup [.str r.1, .ref l, .ref bq]) u = some (.tup [.str r.1, .ref l, .ref bq]) := upd_same
      have s12 := s11.trans sq
      have nu0 := Same.none s12 nu
      have nuae : u ≠ ae := (ne_of_none (sq _ _ (sl _ _ h1)) nu).symm
      have nup : u ≠ p := (ne_of_none (sq _ _ (sl _ _ (h5 _ _ hp8))) nu).symm
      generalize upd H12 u (.tup [.str r.1, .ref l, .ref bq]) = H13 at su hu
      have t13 := (sl.trans sq).trans su
      have mve : Mv (fun a => a = ae) H13 (upd H13 ae (.lst (es ++ [.ref u]))) := fun a o na e => by rw [upd_ne na]; exact e
      have oae : ∀ a, Old H0 a → ¬ a = ae := fun a ⟨o, ho⟩ ea => by rw [ea, nae0] at ho; cases ho
      refine ⟨es, t13 _ _ h1, by rw [h2, sizeLine_eq]; omega, es ++ [.ref u], E ++ [(r.1, l, bq)], upd_same, by rw [List.length_append, h2]; rfl, ?_, ?_, Same.upd_p (h5.trans t13) nae⟩
      · refine Paired.snoc (Paired.mono (fun _ _ z => ?_) h3) ?_
        · exact isEv.mv (isEv.mv z (Mv.of_same t13 (W := fun _ => False)) (fun _ _ z => z)) mve fun a ha => ha.2.1
        · exact ⟨u, rfl, ⟨nu0, nuae, nup⟩, by rw [upd_ne nuae]; exact hu⟩
      · rw [take_snoc li, er]
        refine Paired.snoc (Paired.mono (fun _ _ z => ?_) h4) ?_
        · exact isEnt.mv (isEnt.mv z (Mv.of_same t13 (W := fun _ => False)) (fun _ _ z => z) (fun _ _ z => z)) mve (fun a ha => ha.2.1) oae
        · refine ⟨rfl, ⟨nl0, nlae, nlp⟩, ⟨nq0, nqae, nqp⟩, by rw [upd_ne nlae]; exact su _ _ (sq _ _ hl), out, _, by rw [upd_ne nqae]; exact su _ _ hq, sr, Paired.mono (fun _ _ z => ?_) pout⟩
          exact isTupI.mv (isTupI.same z (sq.trans su)) mve oae
    rintro H9 ⟨es, E, hae, -, pev, pent, s9⟩
    rw [lys, List.take_length] at pent
    have hp9 := s9 _ _ hp8
    have hav9 := s9 _ _ hav8
    have hds9 := s9 _ _ hds8
    have hdp9 := s9 _ _ hdp8
    refine ⟨_, rfl, p, _, dx, _, rfl, hp9, T.cl_Problem, T.na_Problem__events, (by show 3 < 1000; decide), ?_⟩
    let fE := putF "_events" (.ref ae) (putF "_places" (.ref dp) (putF "_sizes" (.ref ds) (putF "_variables" (.ref av) [])))
    have s10 := same_p (o := .ins T.C_Problem dx fE) (s8.trans s9) n0
    have hp10 : upd H9 p (.ins T.C_Problem dx fE) p = some (.ins T.C_Problem dx fE) := upd_same
    have hav10 : upd H9 p (.ins T.C_Problem dx fE) av = some (.lst xs) := by rw [upd_ne nvp]; exact hav9
    have hds10 : upd H9 p (.ins T.C_Problem dx fE) ds = some (.dK (kvL L)) := by rw [upd_ne ndp]; exact hds9
    have hdp10 : upd H9 p (.ins T.C_Problem dx fE) dp = some (.dK (kvP L)) := by rw [upd_ne ndpp]; exact hdp9
    have hae10 : upd H9 p (.ins T.C_Problem dx fE) ae = some (.lst es) := by rw [upd_ne nep]; exact hae
    have mvp : Mv (fun a => a = p) H9 (upd H9 p (.ins T.C_Problem dx fE)) := fun a o na e => by rw [upd_ne na]; exact e
    have oap : ∀ a, Old H0 a → ¬ a = p := fun a ⟨o, ho⟩ ea => by rw [ea, n0] at ho; cases ho
    have pev10 := Paired.mono (fun _ _ z => isEv.mv z mvp fun a ha => ha.2.2) pev
    have pent10 := Paired.mono (fun _ _ z => isEnt.mv z mvp (fun a ha => ha.2.2) oap) pent
    generalize upd H9 p (.ins T.C_Problem dx fE) = H10 at s10 hp10 hav10 hds10 hdp10 hae10 pev10 pent10
    clear mvp hae pev pent s9 hp9 hav9 hds9 hp8 hav8 hds8 nae
    have ekeys := ent_keys pent10
    have end' : (E.map (·.1)).Nodup := by rw [ekeys]; exact okR.nd
    have lE := pent10.length
    have les := pev10.length
    -- self._scopes
    have evs : ∀ {H' : Hp} {i : Nat} {x : V}, Same H10 H' → es[i]? = some x → ∃ t, ∃ hi : i < E.length, x = .ref t ∧ H' t = some (.tup [.str E[i].1, .ref E[i].2.1, .ref E[i].2.2]) := fun s' hx => by
      obtain ⟨q, hq, t, e, _, ht⟩ := pd_get pev10 hx
      obtain ⟨li, eq⟩ := List.getElem?_eq_some_iff.mp hq
      exact ⟨t, li, e, by rw [eq]; exact s' _ _ ht⟩
    refine ⟨_, rfl, p, _, dx, _, _, rfl, hp10, T.cl_Problem, T.na_Problem__events, (lookup_putF ..).trans (if_pos rfl), ae, rfl, ⟨_, SqL.of hae10⟩, fun dsc ndsc => ?_⟩
    refine dc_it (walk_list (K := K) (a := ae) (xs := es)) (fun i H' => H' dsc = some (.dK (kvS (E.take i))) ∧ Same H10 H') ⟨upd_same, Same.new ndsc⟩ (fun i H' _ h => SqL.of (h.2 _ _ hae10)) ?_ ?_
    · rintro i x H11 H12 hi ⟨h1, h2⟩ ⟨rfl, hx⟩
      obtain ⟨t, li, rfl, ht⟩ := evs h2 hx
      refine ⟨t, _, rfl, .inl (.inl ht), rfl, _, _, rfl, _, _, rfl, _, _, rfl, rfl, rfl, _, rfl, _, rfl, _, Sum.inr E[i].1, rfl, h1, by unfold kvS; rw [List.length_map, List.length_take, sizeLine_eq]; omega, ?_, Same.upd_p h2 ndsc⟩
      rw [upd_same]
      exact congrArg (fun z => some (HO.dK z)) (ent_put (g := fun q => V.ref q.2.1) end' li)
    rintro H11 ⟨hdsc, s11⟩
    rw [les, List.take_length] at hdsc
    have hp11 := s11 _ _ hp10
    have nscp : dsc ≠ p := (ne_of_none hp10 ndsc).symm
    refine ⟨_, rfl, p, _, dx, _, rfl, hp11, T.cl_Problem, T.na_Problem__scopes, (by show 4 < 1000; decide), ?_⟩
    let fS := putF "_scopes" (.ref dsc) fE
    have mvp : Mv (fun a => a = p) H11 (upd H11 p (.ins T.C_Problem dx fS)) := fun a o na e => by rw [upd_ne na]; exact e
    have s12 := same_p (o := .ins T.C_Problem dx fS) (s10.trans s11) n0
    have hp12 : upd H11 p (.ins T.C_Problem dx fS) p = some (.ins T.C_Problem dx fS) := upd_same
    have hav12 := mvp _ _ nvp (s11 _ _ hav10)
    have hds12 := mvp _ _ ndp (s11 _ _ hds10)
    have hdp12 := mvp _ _ ndpp (s11 _ _ hdp10)
    have hae12 := mvp _ _ nep (s11 _ _ hae10)
    have hdsc12 := mvp _ _ nscp hdsc
    have pev12 := Paired.mono (fun _ _ z => isEv.mv (isEv.mv z (Mv.of_same s11 (W := fun _ => False)) (fun _ _ z => z)) mvp fun a ha => ha.2.2) pev10
    have pent12 := Paired.mono (fun _ _ z => isEnt.mv (isEnt.mv z (Mv.of_same s11 (W := fun _ => False)) (fun _ _ z => z) (fun _ _ z => z)) mvp (fun a ha => ha.2.2) oap) pent10
    have nsc0 := Same.none s10 ndsc
    generalize upd H11 p (.ins T.C_Problem dx fS) = H12 at mvp s12 hp12 hav12 hds12 hdp12 hae12 hdsc12 pev12 pent12
    clear mvp hdsc s11 hp11 pev10 pent10 hp10 hav10 hds10 hae10 s10 ndsc evs
    -- self._bad_tuples
    have evs : ∀ {H' : Hp} {i : Nat} {x : V}, Same H12 H' → es[i]? = some x → ∃ t, ∃ hi : i < E.length, x = .ref t ∧ H' t = some (.tup [.str E[i].1, .ref E[i].2.1, .ref E[i].2.2]) := fun s' hx => by
      obtain ⟨q, hq, t, e, _, ht⟩ := pd_get pev12 hx
      obtain ⟨li, eq⟩ := List.getElem?_eq_some_iff.mp hq
      exact ⟨t, li, e, by rw [eq]; exact s' _ _ ht⟩
    refine ⟨_, rfl, p, _, dx, _, _, rfl, hp12, T.cl_Problem, T.na_Problem__events, (lookup_putF ..).trans ((if_neg (by decide +kernel)).trans ((lookup_putF ..).trans (if_pos rfl))), ae, rfl, ⟨_, SqL.of hae12⟩, fun dbt ndbt => ?_⟩
    refine dc_it (walk_list (K := K) (a := ae) (xs := es)) (fun i H' => H' dbt = some (.dK (kvB (E.take i))) ∧ Same H12 H') ⟨upd_same, Same.new ndbt⟩ (fun i H' _ h => SqL.of (h.2 _ _ hae12)) ?_ ?_
    · rintro i x H13 H14 hi ⟨h1, h2⟩ ⟨rfl, hx⟩
      obtain ⟨t, li, rfl, ht⟩ := evs h2 hx
      refine ⟨t, _, rfl, .inl (.inl ht), rfl, _, _, rfl, _, _, rfl, _, _, rfl, rfl, rfl, _, rfl, _, rfl, _, Sum.inr E[i].1, rfl, h1, by unfold kvB; rw [List.length_map, List.length_take, sizeLine_eq]; omega, ?_, Same.upd_p h2 ndbt⟩
      rw [upd_same]
      exact congrArg (fun z => some (HO.dK z)) (ent_put (g := fun q => V.ref q.2.2) end' li)
    rintro H13 ⟨hdbt, s13⟩
    rw [les, List.take_length] at hdbt
    have hp13 := s13 _ _ hp12
    have nbtp : dbt ≠ p := (ne_of_none hp12 ndbt).symm
    refine ⟨_, rfl, p, _, dx, _, rfl, hp13, T.cl_Problem, T.na_Problem__bad_tuples, (by show 5 < 1000; decide), ?_⟩
    let fB := putF "_bad_tuples" (.ref dbt) fS
    have mvp : Mv (fun a => a = p) H13 (upd H13 p (.ins T.C_Problem dx fB)) := fun a o na e => by rw [upd_ne na]; exact e
    have s14 := same_p (o := .ins T.C_Problem dx fB) (s12.trans s13) n0
    have hp14 : upd H13 p (.ins T.C_Problem dx fB) p = some (.ins T.C_Problem dx fB) := upd_same
    have hav14 := mvp _ _ nvp (s13 _ _ hav12)
    have hds14 := mvp _ _ ndp (s13 _ _ hds12)
    have hdp14 := mvp _ _ ndpp (s13 _ _ hdp12)
    have hae14 := mvp _ _ nep (s13 _ _ hae12)
    have hdsc14 := mvp _ _ nscp (s13 _ _ hdsc12)
    have hdbt14 := mvp _ _ nbtp hdbt
    have pev14 := Paired.mono (fun _ _ z => isEv.mv (isEv.mv z (Mv.of_same s13 (W := fun _ => False)) (fun _ _ z => z)) mvp fun a ha => ha.2.2) pev12
    have pent14 := Paired.mono (fun _ _ z => isEnt.mv (isEnt.mv z (Mv.of_same s13 (W := fun _ => False)) (fun _ _ z => z) (fun _ _ z => z)) mvp (fun a ha => ha.2.2) oap) pent12
    have nbt0 := Same.none s12 ndbt
    generalize upd H13 p (.ins T.C_Problem dx fB) = H14 at mvp s14 hp14 hav14 hds14 hdp14 hae14 hdsc14 hdbt14 pev14 pent14
    clear mvp hdbt s13 hp13 pev12 pent12 hp12 hav12 hds12 hae12 hdsc12 s12 ndbt evs
    -- self._neighbors
    refine ⟨dsc, _, hdsc14, trivial, fun od2 => ?_⟩
    have hpu : upd H14 dsc (.frz od2 (.dK (kvS E))) p = some (.ins T.C_Problem dx fB) := by rw [upd_ne (Ne.symm nscp)]; exact hp14
    refine ⟨_, rfl, p, _, dx, _, _, rfl, hpu, T.cl_Problem, T.na_Problem__scopes, (lookup_putF ..).trans ((if_neg (by decide +kernel)).trans ((lookup_putF ..).trans (if_pos rfl))), dsc, od2, rfl, .inl ⟨kvS E, upd_same, fun dn ndn => ?_⟩⟩
    let F2 : Addr → Prop := fun t => H0 t = none ∧ t ≠ dn ∧ t ≠ p ∧ t ≠ dsc
    have scs : ∀ {H' : Hp}, Same (upd H14 dsc (.frz od2 (.dK (kvS E)))) H' → Paired (scAt H') E R := fun s' => Paired.mono (fun q r ⟨e1, _, _, hsc, _⟩ => ⟨e1, s' _ _ (by rw [upd_ne (ne_of hsc hdsc14 (by simp))]; exact hsc)⟩) pent14
    have ndn0 : H0 dn = none := Same.none s14 (by
      by_cases e : dn = dsc
      · rw [e, upd_same] at ndn; cases ndn
      · rw [upd_ne e] at ndn; exact ndn)
    have nndp : dn ≠ p := fun e => by rw [e, hpu] at ndn; cases ndn
    refine dc_it walk_keys (fun i H' => (∃ N : List (Str × Addr), H' dn = some (.dK (kvN N)) ∧ Paired (isNb H' F2 R) N (R.take i)) ∧ Same (upd H14 dsc (.frz od2 (.dK (kvS E)))) H') ⟨⟨[], upd_same, .nil⟩, Same.new ndn⟩ (fun i H' _ h => frz_at h.2) ?_ ?_
    · rintro i x H15 H16 hi ⟨⟨N, h1, hN⟩, h2⟩ ⟨rfl, k, v, hk, rfl⟩
      have li : i < E.length := by unfold kvS at hi; rwa [List.length_map] at hi
      have liR : i < R.length := by omega
      obtain ⟨w, hw, ew, _⟩ := pd_get pent14 (List.getElem?_eq_getElem li)
      obtain ⟨_, ew2⟩ := List.getElem?_eq_some_iff.mp hw
      have mw := List.mem_of_getElem? hw
      have eq1 : (kvS E)[i]? = some (Sum.inr w.1, V.ref E[i].2.1) := by unfold kvS; rw [List.getElem?_map, List.getElem?_eq_getElem li, ← ew]; rfl
      rw [eq1] at hk
      cases hk
      refine ⟨rfl, _, rfl, _, rfl, _, rfl, p, _, dx, _, _, rfl, h2 _ _ hpu, T.cl_Problem, T.na_Problem__scopes, (lookup_putF ..).trans ((if_neg (by decide +kernel)).trans ((lookup_putF ..).trans (if_pos rfl))), ?_⟩
      refine ⟨dsc, od2, E, R, w, rfl, frz_at h2, r8, okR.nd, mw, scs h2, fun r hr => (okR.ok r hr).few, fun p' H17 s17 np' hp' => ?_⟩
      have kN : N.map (·.1) = (R.take i).map (·.1) := by
        clear h1
        revert hN
        generalize R.take i = R'
        intro hN
        induction hN with
        | nil => rfl
        | cons r t ih => rw [List.map_cons, List.map_cons, r.1, ih]
      have hn := val_none (l := N) (f := fun q => q.1) (g := fun q => V.ref q.2) (x := w.1) (by
        rw [kN, List.map_take, ← ew2]
        have h := not_mem_take okR.nd (i := i) (by rw [List.length_map]; exact liR)
        rw [List.getElem_map] at h
        exact h)
      have lN := hN.length
      have np0 : H0 p' = none := Same.none s14 (by
        have := Same.none h2 np'
        by_cases e : p' = dsc
        · rw [e, upd_same] at this; cases this
        · rw [upd_ne e] at this; exact this)
      have nd1 : p' ≠ dn := fun e => by rw [e, h1] at np'; cases np'
      have nd2 : p' ≠ p := fun e => by rw [e, h2 _ _ hpu] at np'; cases np'
      have nd3 : p' ≠ dsc := fun e => by rw [e, frz_at h2] at np'; cases np'
      refine ⟨kvN N, Sum.inr w.1, rfl, s17 _ _ h1, by unfold kvN; rw [List.length_map, lN, List.length_take, sizeLine_eq]; omega, ⟨N ++ [(w.1, p')], ?_, ?_⟩, Same.upd_p (h2.trans s17) ndn⟩
      · rw [upd_same]; unfold kvN; rw [putK_new _ hn, List.map_append]; rfl
      · have mdn : Mv (fun a => a = dn) H17 (upd H17 dn (.dK (putK (kvN N) (Sum.inr w.1) (.ref p')))) := fun a o na e => by rw [upd_ne na]; exact e
        rw [take_snoc liR, ew2]
        refine Paired.snoc (Paired.mono (fun _ _ z => isNb.mv (isNb.mv z (Mv.of_same s17 (W := fun _ => False)) fun _ _ z => z) mdn fun a ha => ha.2.1) hN) ?_
        exact ⟨rfl, ⟨np0, nd1, nd2, nd3⟩, mdn _ _ nd1 hp'⟩
    rintro H15 ⟨⟨N, hdn, hN⟩, s15⟩
    have lkE : (kvS E).length = R.length := by unfold kvS; rw [List.length_map, lE]
    rw [lkE, List.take_length] at hN
    refine ⟨frz_at s15, ?_⟩
    have s16 := Same.unlock hdsc14 s15
    have mdsc : Mv (fun a => a = dsc) H15 (upd H15 dsc (.dK (kvS E))) := fun a o na e => by rw [upd_ne na]; exact e
    have nndsc : dn ≠ dsc := fun e => by rw [e, upd_same] at ndn; cases ndn
    have hdn16 := mdsc _ _ nndsc hdn
    have hN16 := Paired.mono (fun _ _ z => isNb.mv z mdsc fun a ha => ha.2.2.2) hN
    generalize upd H15 dsc (.dK (kvS E)) = H16 at s16 mdsc hdn16 hN16
    have hp16 := s16 _ _ hp14
    refine ⟨_, rfl, p, _, dx, _, rfl, hp16, T.cl_Problem, T.na_Problem__neighbors, (by show 6 < 1000; decide), ?_⟩
    have mvp : Mv (fun a => a = p) H16 (upd H16 p (.ins T.C_Problem dx (pfl av ds dp ae dsc dbt dn))) := fun a o na e => by rw [upd_ne na]; exact e
    have ms := Mv.of_same s16 (W := fun _ => False)
    refine q _ (same_p (s14.trans s16) n0) ⟨dx, av, ds, dp, ae, dsc, dbt, dn, E, xs, es, upd_same, ⟨n0, nav0, nds0, nae0, nsc0, nbt0, ⟨N, ndn0, mvp _ _ nndp hdn16, Paired.mono (fun _ _ z => ?_) hN16⟩, ndp0, mvp _ _ ndpp (ms _ _ id hdp14)⟩, ⟨mvp _ _ nvp (ms _ _ id hav14), ?_⟩, mvp _ _ ndp (ms _ _ id hds14), ⟨mvp _ _ nep (ms _ _ id hae14), ?_, ?_⟩, mvp _ _ nscp (ms _ _ id hdsc14), mvp _ _ nbtp (ms _ _ id hdbt14)⟩
    · obtain ⟨z1, z2, z3⟩ := isNb.mv z mvp fun a ha => ha.2.2.1
      exact ⟨z1, z2.1, z3⟩
    · exact Paired.mono (fun _ _ z => isPair.same z (same_p (s14.trans s16) n0)) pdL
    · exact Paired.mono (fun _ _ z => isEv.wk (isEv.mv (isEv.mv z ms (fun _ _ z => z)) mvp fun a ha => ha.2.2) fun a ha => ha.1) pev14
    · exact Paired.mono (fun _ _ z => isEnt.wk (isEnt.mv (isEnt.mv z ms (fun _ _ z => z) (fun _ _ z => z)) mvp (fun a ha => ha.2.2) oap) fun a ha => ha.1) pent14

end K62
namespace K62
open PySem PySem.Spec PyProof.Rows L2 TL
/-! ### what a problem tells -/
theorem pfl_no {m : Str} (av ds dp ae dsc dbt dn : Addr) (h : ([("_neighbors" : Str), "_bad_tuples", "_scopes", "_events", "_places", "_sizes", "_variables"].all fun k => decide (¬ m = k)) = true) : (pfl av ds dp ae dsc dbt dn).lookup m = none := by
  simp only [List.all_cons, List.all_nil, Bool.and_eq_true, decide_eq_true_eq] at h
  obtain ⟨h1, h2, h3, h4, h5, h6, h7, _⟩ := h
  unfold pfl
  exact (lookup_putF ..).trans ((if_neg h1).trans ((lookup_putF ..).trans ((if_neg h2).trans ((lookup_putF ..).trans ((if_neg h3).trans ((lookup_putF ..).trans ((if_neg h4).trans ((lookup_putF ..).trans ((if_neg h5).trans ((lookup_putF ..).trans ((if_neg h6).trans ((lookup_putF ..).trans ((if_neg h7).trans rfl)))))))))))))
theorem ent_of {H : Hp} {F G : Addr → Prop} {E : List Ent} {R : List Row} (h : Paired (isEnt H F G) E R) (nd : (R.map (·.1)).Nodup) {r : Row} (hr : r ∈ R) : ∃ q : Ent, q ∈ E ∧ isEnt H F G q r ∧ valV (kvS E) (Sum.inr r.1) = some (.ref q.2.1) ∧ valV (kvB E) (Sum.inr r.1) = some (.ref q.2.2) := by
  have nde : (E.map (·.1)).Nodup := by rw [ent_keys h]; exact nd
  obtain ⟨i, hi⟩ := List.getElem?_of_mem hr
  obtain ⟨q, hq, f⟩ := pd_get' h hi
  have mq := List.mem_of_getElem? hq
  have e := f.1
  refine ⟨q, mq, f, ?_, ?_⟩
  · rw [← e]; exact val_map (fun q => q.1) (fun q => V.ref q.2.1) nde mq
  · rw [← e]; exact val_map (fun q => q.1) (fun q => V.ref q.2.2) nde mq
def sp_pevs (C : Addr) : Sp := fun vs H Q _ => ∃ (p : Addr) (F G : Addr → Prop) (L : List (Str × Int)) (R : List Row), vs = [.ref p] ∧ IsP C H F G p L R ∧ ∀ l, H l = none → Q (.ref l) (upd H l (.lst ((R.map (·.1)).map V.str)))
theorem kvS_keys {H : Hp} {F G : Addr → Prop} {E : List Ent} {R : List Row} (h : Paired (isEnt H F G) E R) : (kvS E).map (fun kv => kV kv.1) = (R.map (·.1)).map V.str := by
  rw [← ent_keys h]; unfold kvS; rw [List.map_map, List.map_map]; rfl
theorem ok_Problem_events {P : Program} {w : World} {K : PySem.W.Frag} {mg : Str → Option Value} {base : Heap} (T : Txt P K mg) : FnOk P w K mg base CX0 1 T.f_Problem_events T.fd_Problem_events ["self"] (sp_pevs T.C_Problem) := by
  refine T.F_Problem_events.ok sc_Problem_events (fun vs H Q E h => ?_) (fun cdv A outer s H vs Q E hr h => ?_)
  · obtain ⟨_, _, _, _, _, rfl, _⟩ := h; rfl
  · obtain ⟨p, F, G, L, R, rfl, ⟨dx, av, ds, dp, ae, dsc, dbt, dn, E, xs, es, hp, _, _, _, ⟨_, _, h6⟩, h7, _⟩, q⟩ := h
    refine ⟨_, PSs.nox (pss_one (ps_ret (pe_callTy (show CallR _ _ rListD from call_list_dK (by rfl)) (by rfl) T.n_list (by decide +kernel) (pa_cons (show PE _ _ (tFld K _ _) from pe_fld (pv 0) rfl) pa_nil)))), ?_⟩
    exact ⟨_, rfl, p, _, dx, _, _, rfl, hp, T.cl_Problem, T.na_Problem__scopes, pfl_scopes .., dsc, _, rfl, h7, fun l nl => by rw [kvS_keys h6]; exact q l nl⟩
def sp_pev (C : Addr) (v : V) : Sp := fun vs H Q _ => ∃ (p : Addr) (F G : Addr → Prop) (L : List (Str × Int)) (R : List Row) (r : Row), vs = [.ref p, .str r.1] ∧ IsP C H F G p L R ∧ (R.map (·.1)).Nodup ∧ r ∈ R ∧ Q v H
theorem ok_Problem_is_event {P : Program} {w : World} {K : PySem.W.Frag} {mg : Str → Option Value} {base : Heap} (T : Txt P K mg) : FnOk P w K mg base CX0 1 T.f_Problem_is_event T.fd_Problem_is_event ["self", "value"] (sp_pev T.C_Problem (.bl true)) := by
  refine T.F_Problem_is_event.ok sc_Problem_is_event (fun vs H Q E h => ?_) (fun cdv A outer s H vs Q E hr h => ?_)
  · obtain ⟨_, _, _, _, _, _, rfl, _⟩ := h; rfl
  · obtain ⟨p, F, G, L, R, r, rfl, ⟨dx, av, ds, dp, ae, dsc, dbt, dn, E, xs, es, hp, _, _, _, ⟨_, _, h6⟩, h7, _⟩, nd, hr', q⟩ := h
    obtain ⟨qe, _, _, v1, _⟩ := ent_of h6 nd hr'
    refine ⟨_, PSs.nox (pss_one (ps_ret (pe_and (pe_callB (show CallR _ _ (rIsi K) from call_isi) (by rfl) T.n_isinstance (by decide +kernel) (pa_cons (pv 1) (pa_cons (pe_bltn (v := .ty "str") (by rfl) T.n_str (by decide +kernel) rfl) pa_nil))) (pe_one (pe_cmp (pc_din (hu_of hr) (pv 1) (show PE _ _ (tFld K _ _) from pe_fld (pv 0) rfl))))))), ?_⟩
    have dg : DGet H dsc (.str r.1) (some (.ref qe.2.1)) := by rw [← v1]; exact DGet.k (k := Sum.inr r.1) h7
    exact ⟨_, rfl, _, _, _, _, _, rfl, .ty _, .base (.str _), kit_ss, _, rfl, _, rfl, _, rfl, p, _, dx, _, _, rfl, hp, T.cl_Problem, T.na_Problem__scopes, pfl_scopes .., dsc, _, rfl, dg, q⟩
theorem ok_Problem_check_event {P : Program} {w : World} {K : PySem.W.Frag} {mg : Str → Option Value} {base : Heap} (T : Txt P K mg) : FnOk P w K mg base CX0 2 T.f_Problem_check_event T.fd_Problem_check_event ["self", "value"] (sp_pev T.C_Problem .non) := by
  refine T.F_Problem_check_event.ok sc_Problem_check_event (fun vs H Q E h => ?_) (fun cdv A outer s H vs Q E hr h => ?_)
  · obtain ⟨_, _, _, _, _, _, rfl, _⟩ := h; rfl
  · obtain ⟨p, F, G, L, R, r, rfl, hP, nd, hr', q⟩ := h
    have hP' := hP
    obtain ⟨dx, av, ds, dp, ae, dsc, dbt, dn, E, xs, es, hp, _⟩ := hP'
    refine ⟨_, PSs.nox (pss_one (ps_if (pt_not (pt_val (pe_meth (pl := _) (pv 0) T.cl_Problem T.m_Problem_is_event (ok_Problem_is_event T) (hr.mono (by decide)) (b_Problem_is_event T) .nil pass0 (pa_cons (pv 1) pa_nil)))) (pss_one ps_never) pss_nil)), ?_⟩
    exact ⟨_, rfl, p, dx, _, rfl, hp, pfl_no _ _ _ _ _ _ _ (by decide +kernel), _, rfl, p, F, G, L, R, r, rfl, hP, nd, hr', _, rfl, q⟩
theorem pfl_nb (av ds dp ae dsc dbt dn : Addr) : (pfl av ds dp ae dsc dbt dn).lookup ("_neighbors" : Str) = some (.ref dn) := (lookup_putF ..).trans (if_pos rfl)
theorem nb_of {H : Hp} {F : Addr → Prop} {N : List (Str × Addr)} {R R' : List Row} (h : Paired (isNb H F R') N R) (nd : (R.map (·.1)).Nodup) {r : Row} (hr : r ∈ R) : ∃ z : Str × Addr, valV (kvN N) (Sum.inr r.1) = some (.ref z.2) ∧ H z.2 = some (.lst ((nbs R' r).map V.str)) := by
  have kN : N.map (·.1) = R.map (·.1) := by
    clear nd hr
    induction h with
    | nil => rfl
    | cons r t ih => rw [List.map_cons, List.map_cons, r.1, ih]
  obtain ⟨i, hi⟩ := List.getElem?_of_mem hr
  obtain ⟨z, hz, e, _, hl⟩ := pd_get' h hi
  refine ⟨z, ?_, hl⟩
  rw [← e]
  exact val_map (fun q => q.1) (fun q => V.ref q.2) (by rw [kN]; exact nd) (List.mem_of_getElem? hz)
def sp_pnbs (C : Addr) : Sp := fun vs H Q _ => ∃ (p : Addr) (F G : Addr → Prop) (L : List (Str × Int)) (R : List Row) (r : Row), vs = [.ref p, .str r.1] ∧ IsP C H F G p L R ∧ (R.map (·.1)).Nodup ∧ r ∈ R ∧ ∀ l, H l = none → Q (.ref l) (upd H l (.lst ((nbs R r).map V.str)))
theorem ok_Problem_neighbors {P : Program} {w : World} {K : PySem.W.Frag} {mg : Str → Option Value} {base : Heap} (T : Txt P K mg) : FnOk P w K mg base CX0 3 T.f_Problem_neighbors T.fd_Problem_neighbors ["self", "event"] (sp_pnbs T.C_Problem) := by
  refine T.F_Problem_neighbors.ok sc_Problem_neighbors (fun vs H Q E h => ?_) (fun cdv A outer s H vs Q E hr h => ?_)
  · obtain ⟨_, _, _, _, _, _, rfl, _⟩ := h; rfl
  · obtain ⟨p, F, G, L, R, r, rfl, hP, nd, hr', q⟩ := h
    have hP' := hP
    obtain ⟨dx, av, ds, dp, ae, dsc, dbt, dn, E1, xs, es, hp, ⟨_, _, _, _, _, _, ⟨N, _, hN, pN⟩, _⟩, _⟩ := hP'
    obtain ⟨z, v1, hz⟩ := nb_of pN nd hr'
    have dg : DGet H dn (.str r.1) (some (.ref z.2)) := by rw [← v1]; exact DGet.k (k := Sum.inr r.1) hN
    refine ⟨_, PSs.nox (pss_cons (ps_expr (pe_meth (pl := _) (pv 0) T.cl_Problem T.m_Problem_check_event (ok_Problem_check_event T) (hr.mono (by decide)) (b_Problem_check_event T) .nil pass0 (pa_cons (pv 1) pa_nil)))
      (pss_one (ps_ret (pe_callTy (show CallR _ _ (rListOf K) from call_list_of) (by rfl) T.n_list (by decide +kernel) (pa_cons (pe_dget (hu_of hr) (show PE _ _ (tFld K _ _) from pe_fld (pv 0) rfl) (pv 1) (fun _ _ => rfl)) pa_nil))))), ?_⟩
    refine ⟨_, rfl, p, dx, _, rfl, hp, pfl_no _ _ _ _ _ _ _ (by decide +kernel), _, rfl, p, F, G, L, R, r, rfl, hP, nd, hr', ?_⟩
    exact ⟨_, rfl, p, _, dx, _, _, rfl, hp, T.cl_Problem, T.na_Problem__neighbors, pfl_nb .., _, rfl, dn, _, rfl, dg, z.2, _, rfl, .inl (SqL.of hz), fun l nl => q l nl⟩
def sp_chkp (C : Addr) : Sp := fun vs H Q _ => ∃ (p : Addr) (F G : Addr → Prop) (L : List (Str × Int)) (R : List Row), vs = [.ref p] ∧ IsP C H F G p L R ∧ Q .non H
theorem ok_check_problem {P : Program} {w : World} {K : PySem.W.Frag} {mg : Str → Option Value} {base : Heap} (T : Txt P K mg) : FnOk P w K mg base CX0 1 T.f_check_problem T.fd_check_problem ["value"] (sp_chkp T.C_Problem) := by
  refine T.F_check_problem.ok sc_check_problem (fun vs H Q E h => ?_) (fun cdv A outer s H vs Q E hr h => ?_)
  · obtain ⟨_, _, _, _, _, rfl, _⟩ := h; rfl
  · obtain ⟨p, F, G, L, R, rfl, ⟨dx, av, ds, dp, ae, dsc, dbt, dn, E1, xs, es, hp, _⟩, q⟩ := h
    refine ⟨_, PSs.nox (pss_one (ps_if (pt_not (pt_val (pe_callB (show CallR _ _ (rIsi K) from call_isi) (by rfl) T.n_isinstance (by decide +kernel) (pa_cons (pv 0) (pa_cons (pe_glob (v := .ref T.C_Problem) (by rfl) T.g_Problem rfl) pa_nil))))) (pss_one ps_never) pss_nil)), ?_⟩
    exact ⟨_, rfl, _, _, _, _, _, rfl, .own _, T.ow_Problem.ty hp, T.ow_Problem.me, _, rfl, q⟩
/-- what adjacent events are -/
theorem in_nbs {R : List Row} (nd : (R.map (·.1)).Nodup) {r s : Row} (hs : s ∈ R) : decide (s.1 ∈ nbs R r) = ((!decide (s.1 = r.1)) && share r.2.1 s.2.1) := by
  rw [← Bool.decide_coe ((!decide (s.1 = r.1)) && share r.2.1 s.2.1), decide_eq_decide]
  unfold nbs
  constructor
  · intro h
    obtain ⟨w, hw, e⟩ := List.mem_map.mp h
    obtain ⟨hw1, hw2⟩ := List.mem_filter.mp hw
    have : w = s := by
      clear h hw hw2
      induction R with
      | nil => cases hs
      | cons x R ih =>
        rw [List.map_cons, List.nodup_cons] at nd
        rcases List.mem_cons.mp hw1 with h1 | h1 <;> rcases List.mem_cons.mp hs with h2 | h2
        · rw [h1, h2]
        · exact absurd (List.mem_map.mpr ⟨s, h2, by rw [← e, h1]⟩) nd.1
        · exact absurd (List.mem_map.mpr ⟨w, h1, by rw [e, h2]⟩) nd.1
        · exact ih nd.2 h2 h1
    rw [← this]; exact hw2
  · intro h
    exact List.mem_map.mpr ⟨s, List.mem_filter.mpr ⟨hs, h⟩, rfl⟩
def adjB (r s : Row) : Bool := decide (r.1 = s.1) || share r.2.1 s.2.1
def sp_padj (C : Addr) : Sp := fun vs H Q _ => ∃ (p : Addr) (F G : Addr → Prop) (L : List (Str × Int)) (R : List Row) (r s : Row), vs = [.ref p, .str r.1, .str s.1] ∧ IsP C H F G p L R ∧ (R.map (·.1)).Nodup ∧ r ∈ R ∧ s ∈ R ∧ Q (.bl (adjB r s)) H
theorem ok_Problem_are_adjacent {P : Program} {w : World} {K : PySem.W.Frag} {mg : Str → Option Value} {base : Heap} (T : Txt P K mg) : FnOk P w K mg base CX0 3 T.f_Problem_are_adjacent T.fd_Problem_are_adjacent ["self", "one", "other"] (sp_padj T.C_Problem) := by
  refine T.F_Problem_are_adjacent.ok sc_Problem_are_adjacent (fun vs H Q E h => ?_) (fun cdv A outer s H vs Q E hr h => ?_)
  · obtain ⟨_, _, _, _, _, _, _, rfl, _⟩ := h; rfl
  · obtain ⟨p, F, G, L, R, r, w, rfl, hP, nd, hr', hw, q⟩ := h
    have hP' := hP
    obtain ⟨dx, av, ds, dp, ae, dsc, dbt, dn, E1, xs, es, hp, ⟨_, _, _, _, _, _, ⟨N, _, hN, pN⟩, _⟩, _⟩ := hP'
    refine ⟨_, PSs.nox (pss_cons (ps_expr (pe_meth (pl := _) (pv 0) T.cl_Problem T.m_Problem_check_event (ok_Problem_check_event T) (hr.mono (by decide)) (b_Problem_check_event T) .nil pass0 (pa_cons (pv 1) pa_nil)))
      (pss_cons (ps_expr (pe_meth (pl := _) (pv 0) T.cl_Problem T.m_Problem_check_event (ok_Problem_check_event T) (hr.mono (by decide)) (b_Problem_check_event T) .nil pass0 (pa_cons (pv 2) pa_nil)))
      (pss_one (ps_ret (pe_or (pe_cmpR op_eq (pv 1) (pv 2) (nomark _)) (pe_one (pe_cmpR (show OpR _ (compareOp .In) (rInA K false) from op_inA (hu_of hr)) (pv 2) (pe_dget (hu_of hr) (show PE _ _ (tFld K _ _) from pe_fld (pv 0) rfl) (pv 1) (fun _ _ => rfl)) (by first | rfl | with_unfolding_all rfl)))))))), ?_⟩
    obtain ⟨z, v1, hz⟩ := nb_of pN nd hr'
    have dg : DGet H dn (.str r.1) (some (.ref z.2)) := by rw [← v1]; exact DGet.k (k := Sum.inr r.1) hN
    refine ⟨_, rfl, p, dx, _, rfl, hp, pfl_no _ _ _ _ _ _ _ (by decide +kernel), _, rfl, p, F, G, L, R, _, rfl, hP, nd, hr', ?_⟩
    refine ⟨_, rfl, p, dx, _, rfl, hp, pfl_no _ _ _ _ _ _ _ (by decide +kernel), _, rfl, p, F, G, L, R, _, rfl, hP, nd, hw, ?_⟩
    refine ⟨_, rfl, _, rfl, rfl, _, rfl, ite2 (fun c => ?_) (fun c => ?_)⟩
    · rw [dec_vstr] at c
      unfold adjB at q
      rw [c, Bool.true_or] at q
      exact q
    · have c' : decide (r.1 = w.1) = false := by rw [← dec_vstr]; exact Bool.eq_false_iff.mpr c
      refine ⟨_, rfl, _, rfl, p, _, dx, _, _, rfl, hp, T.cl_Problem, T.na_Problem__neighbors, pfl_nb .., _, rfl, dn, _, rfl, dg, z.2, _, rfl, .inl (SqL.of hz), rfl, ?_⟩
      have e1 := in_nbs nd (r := r) hw
      have c2 : decide (w.1 = r.1) = false := decide_eq_false fun e => by rw [decide_eq_true e.symm] at c'; cases c'
      rw [c2] at e1
      show Q (.bl (inV (.str w.1) ((nbs R r).map V.str))) H
      rw [inV_str, e1]
      unfold adjB at q
      rw [c'] at q
      exact q
def sp_scsz (K : PySem.W.Frag) (C : Addr) : Sp := fun vs H Q _ => ∃ (p : Addr) (F G : Addr → Prop) (L : List (Str × Int)) (R : List Row) (r : Row), vs = [.ref p, .str r.1] ∧ IsP C H F G p L R ∧ VarsOk L ∧ EvsOk L R ∧ r ∈ R ∧
  ∀ D H', Same H H' → H D = none → H' D = some (.lst ((r.2.1.map (sizeOf L)).map V.int)) → Q (.ref D) H'
theorem ok_Problem_scope_sizes {P : Program} {w : World} {K : PySem.W.Frag} {mg : Str → Option Value} {base : Heap} (T : Txt P K mg) : FnOk P w K mg base CX0 1 T.f_Problem_scope_sizes T.fd_Problem_scope_sizes ["self", "event"] (sp_scsz K T.C_Problem) := by
  refine T.F_Problem_scope_sizes.ok sc_Problem_scope_sizes (fun vs H Q E h => ?_) (fun cdv A outer s H vs Q E hr h => ?_)
  · obtain ⟨_, _, _, _, _, _, rfl, _⟩ := h; rfl
  · obtain ⟨p, F, G, L, R, r, rfl, hP, okL, okR, hr', q⟩ := h
    obtain ⟨dx, av, ds, dp, ae, dsc, dbt, dn, E, xs, es, hp, _, _, hds, ⟨_, _, h6⟩, h7, h8⟩ := hP
    obtain ⟨qe, _, ⟨_, _, _, hsc, _⟩, v1, v2⟩ := ent_of h6 okR.nd hr'
    have rok := okR.ok r hr'
    have r4 := rok.few
    refine ⟨_, PSs.nox (pss_one (ps_ret (pe_lc (own := [("variable", 2)]) (g := gName 2) rfl sc_Problem_scope_sizes.nd (pi_list (pe_dget (hu_of hr) (show PE _ _ (tFld K _ _) from pe_fld (pv 0) rfl) (pv 1) (fun _ _ => rfl))) (blkOk_by (own := [("variable", 2)]) (N := N_Problem_scope_sizes) (sc := defScope s_Problem_scope_sizes) (by decide +kernel)) (fun _ _ _ _ _ => (pg_name (i := 2) sc_Problem_scope_sizes.nd rfl (Or.inl rfl))) (fun _ _ _ _ _ => pts_nil) (fun _ _ _ _ _ => (pe_dget (hu_of hr) (show PE _ _ (tFld K _ _) from pe_fld (pv 0) rfl) (pv 2) (fun _ _ => rfl)))))), ?_⟩
    refine ⟨_, rfl, p, _, dx, _, _, rfl, hp, T.cl_Problem, T.na_Problem__scopes, pfl_scopes .., _, rfl, dsc, _, rfl, (by rw [← v1]; exact DGet.k (k := Sum.inr r.1) h7 : DGet H dsc (.str r.1) (some (.ref qe.2.1))), qe.2.1, rfl, ⟨_, SqL.of hsc⟩, fun D nD => ?_⟩
    refine lc_it (walk_list (K := K) (a := qe.2.1) (xs := r.2.1.map V.str)) (fun j H' => H' D = some (.lst (((r.2.1.take j).map (sizeOf L)).map V.int)) ∧ Same H H') ⟨upd_same, Same.new nD⟩ (fun j H' _ h => SqL.of (h.2 _ _ hsc)) ?_ ?_
    · rintro j x H1 H2 hj ⟨k1, k2⟩ ⟨rfl, hx⟩
      obtain ⟨lj, rfl⟩ := str_at' hx
      obtain ⟨sv, _⟩ := sizes_val okL (rok.sub _ (List.getElem_mem lj))
      refine ⟨rfl, _, rfl, p, _, dx, _, _, rfl, k2 _ _ hp, T.cl_Problem, T.na_Problem__sizes, pfl_sizes .., _, rfl, ds, _, rfl, (by rw [← sv]; exact DGet.k (k := Sum.inr r.2.1[j]) (k2 _ _ hds) : DGet H2 ds (.str r.2.1[j]) (some (.int (sizeOf L r.2.1[j])))), ?_⟩
      refine ⟨_, k1, by rw [List.length_map, List.length_map, List.length_take, sizeLine_eq]; omega, ?_, Same.upd_p k2 nD⟩
      rw [upd_same, take_snoc lj, List.map_append, List.map_append]; rfl
    rintro H1 ⟨hD, s1⟩
    rw [List.length_map, List.take_length] at hD
    exact q D H1 s1 nD hD
/-- a piece of the problem -/
def isPc (R : List Row) (q : Str × List Int) : Prop := ∃ r ∈ R, r.1 = q.1 ∧ q.2 ∈ r.2.2
def sp_ispc (K : PySem.W.Frag) (C : Addr) : Sp := fun vs H Q _ => ∃ (p t u : Addr) (F G : Addr → Prop) (L : List (Str × Int)) (R : List Row) (x : Str) (ns : List Int), vs = [.ref p, .ref t] ∧ IsP C H F G p L R ∧ VarsOk L ∧ EvsOk L R ∧ H t = some (.tup [.str x, .ref u]) ∧ H u = some (.tup (ns.map V.int)) ∧ isPc R (x, ns) ∧
  ∀ H', Same H H' → Q (.bl true) H'
theorem ok_Problem_is_piece {P : Program} {w : World} {K : PySem.W.Frag} {mg : Str → Option Value} {base : Heap} (T : Txt P K mg) : FnOk P w K mg base CX0 4 T.f_Problem_is_piece T.fd_Problem_is_piece ["self", "value"] (sp_ispc K T.C_Problem) := by
  refine T.F_Problem_is_piece.ok sc_Problem_is_piece (fun vs H Q E h => ?_) (fun cdv A outer s H vs Q E hr h => ?_)
  · obtain ⟨_, _, _, _, _, _, _, _, _, rfl, _⟩ := h; rfl
  · obtain ⟨p, t, u, F, G, L, R, x, ns, rfl, hP, okL, okR, ht, hu, ⟨r, hr', ex, hns⟩, q⟩ := h
    cases ex
    refine ⟨_, PSs.nox (pss_cons (ps_if (PW.pt (pw_or (pt_not (pt_val (pe_callB (show CallR _ _ (rIsi K) from call_isi) (by rfl) T.n_isinstance (by decide +kernel) (pa_cons (pv 1) (pa_cons (pe_bltn (v := .ty "tuple") (by rfl) T.n_tuple (by decide +kernel) rfl) pa_nil))))) (pw_or (pt_cmpR op_ne (pe_callB (show CallR _ _ (rLenSeq K) from call_len_seq) (by rfl) T.n_len (by decide +kernel) (pa_cons (pv 1) pa_nil)) pe_int (nomark _)) (pw_or1 (pt_not (pt_val (pe_meth (pl := _) (pv 0) T.cl_Problem T.m_Problem_is_event (ok_Problem_is_event T) (hr.mono (by decide)) (b_Problem_is_event T) .nil pass0 (pa_cons (pe_ix (show IxR _ (rIxT K) from ix_tup) (pv 1) pe_int (fun _ _ => rfl)) pa_nil)))))))) (pss_one (ps_ret pe_bl)) pss_nil)
      (pss_cons (ps_asg (pv 1) (pg_tup rfl (pgs_cons (pg_name (i := 2) sc_Problem_is_piece.nd rfl (Or.inl rfl)) (pgs_cons (pg_name (i := 3) sc_Problem_is_piece.nd rfl (Or.inl rfl)) pgs_nil))))
      (pss_one (ps_ret (pe_and (pe_call (ok__are_values T) (hr.mono (by decide)) (by rfl) T.g__are_values T.F__are_values.kp (b__are_values T) .nil pass0 (pa_cons (pv 3) (pa_cons (pe_meth (pl := _) (pv 0) T.cl_Problem T.m_Problem_scope_sizes (ok_Problem_scope_sizes T) (hr.mono (by decide)) (b_Problem_scope_sizes T) .nil pass0 (pa_cons (pv 2) pa_nil)) pa_nil))) (pe_one (pe_cmpR (show OpR _ (compareOp .In) (rInD K) from op_inD (hu65 hr)) (pv 3) (pe_dget (hu_of hr) (show PE _ _ (tFld K _ _) from pe_fld (pv 0) rfl) (pv 2) (fun _ _ => rfl)) (by first | rfl | with_unfolding_all rfl)))))))), ?_⟩
    have hP' := hP
    obtain ⟨dx, av, ds, dp, ae, dsc, dbt, dn, E1, xs, es, hp, _, _, hds, ⟨_, _, h6⟩, h7, h8⟩ := hP'
    refine ⟨_, rfl, _, _, _, _, _, rfl, .ty _, .base (.tup ht), kit_tt, _, rfl, ?_⟩
    repeat (first | refine ⟨_, rfl, ?_⟩ | refine ⟨_, _, rfl, rfl, ?_⟩ | refine ⟨_, _, rfl, ?_⟩ | refine ⟨rfl, ?_⟩)
    refine ⟨t, _, rfl, .inr (.inl (.inl ht)), rfl, _, rfl, ite2 (fun e => by simp at e) (fun _ => ?_)⟩
    refine ⟨_, rfl, p, dx, _, rfl, hp, pfl_no _ _ _ _ _ _ _ (by decide +kernel), ?_⟩
    repeat (first | refine ⟨_, rfl, ?_⟩ | refine ⟨_, _, rfl, rfl, ?_⟩ | refine ⟨_, _, rfl, ?_⟩ | refine ⟨rfl, ?_⟩)
    refine ⟨t, _, _, _, rfl, rfl, .inl (.inl ht), atI_nat (j := 0) rfl, ?_⟩
    refine ⟨p, F, G, L, R, r, rfl, hP, okR.nd, hr', ?_⟩
    repeat (first | refine ⟨_, rfl, ?_⟩ | refine ⟨_, _, rfl, rfl, ?_⟩ | refine ⟨_, _, rfl, ?_⟩ | refine ⟨rfl, ?_⟩)
    refine ⟨t, _, rfl, .inl (.inl ht), rfl, _, _, rfl, _, _, rfl, rfl, ?_⟩
    repeat (first | refine ⟨_, rfl, ?_⟩ | refine ⟨_, _, rfl, rfl, ?_⟩ | refine ⟨_, _, rfl, ?_⟩ | refine ⟨rfl, ?_⟩)
    refine ⟨p, dx, _, rfl, hp, pfl_no _ _ _ _ _ _ _ (by decide +kernel), ?_⟩
    repeat (first | refine ⟨_, rfl, ?_⟩ | refine ⟨_, _, rfl, rfl, ?_⟩ | refine ⟨_, _, rfl, ?_⟩ | refine ⟨rfl, ?_⟩)
    refine ⟨p, F, G, L, R, r, rfl, hP, okL, okR, hr', fun D H1 s1 nD hD => ?_⟩
    repeat (first | refine ⟨_, rfl, ?_⟩ | refine ⟨_, _, rfl, rfl, ?_⟩ | refine ⟨_, _, rfl, ?_⟩ | refine ⟨rfl, ?_⟩)
    have rok := okR.ok r hr'
    refine ⟨.ref u, D, _, rfl, hD, by rw [List.length_map]; have := rok.few; omega, .inr ⟨u, _, rfl, s1 _ _ hu, (fun x hx => by obtain ⟨i, _, rfl⟩ := List.mem_map.mp hx; exact .inl ⟨i, rfl⟩), fun H2 s2 => ?_⟩⟩
    have ev : valsB (ns.map V.int) (r.2.1.map (sizeOf L)) = true := valsB_ok (by rw [List.length_map]; exact rok.bl ns hns) fun i n z hn hz => by
      rw [List.getElem?_map] at hz
      obtain ⟨x, hx, rfl⟩ := Option.map_eq_some_iff.mp hz
      exact rok.bv ns hns i x n hx hn
    rw [ev]
    repeat (first | refine ⟨_, rfl, ?_⟩ | refine ⟨_, _, rfl, rfl, ?_⟩ | refine ⟨_, _, rfl, ?_⟩ | refine ⟨rfl, ?_⟩)
    obtain ⟨qe, _, ⟨_, _, _, hsc, bs, out, hbs, srt, pout⟩, v1, v2⟩ := ent_of h6 okR.nd hr'
    have s12 := s1.trans s2
    refine ⟨p, _, dx, _, _, rfl, s12 _ _ hp, T.cl_Problem, T.na_Problem__bad_tuples, pfl_bad .., _, rfl, dbt, _, rfl, (by rw [← v2]; exact DGet.k (k := Sum.inr r.1) (s12 _ _ h8)), ?_⟩
    refine ⟨tupD ns, out.map tupD, dp_tup (G := fun _ => True) ⟨u, rfl, trivial, s12 _ _ hu⟩, .lst (SqL.of (s12 _ _ hbs)) (dp_all (fun _ _ z => dp_tup (isTupI.same z s12)) pout), (shd_tup _).shaped (by decide), (shd_tups _).shaped (by decide), ?_⟩
    rw [any_tups, decide_eq_true (srt.1.mem_iff.mpr hns)]
    exact q _ s12

end K62
namespace K62
open PySem PySem.Spec PyProof.Rows L2 TL
/-! ### equal problems, and a problem's text -/
theorem dp_strs {K : PySem.W.Frag} {H : Hp} : ∀ ns : List Str, DpAll K H (ns.map V.str) (ns.map PyData.str)
  | [] => .nil
  | n :: r => .cons (.str n) (dp_strs r)
def pairD (q : Str × Int) : PyData := .tuple [.str q.1, .int q.2]
def rowD (r : Row) : PyData := .tuple [.str r.1, .list (r.2.1.map PyData.str), .list (r.2.2.map tupD)]
theorem dp_pair {K : PySem.W.Frag} {H : Hp} {G : Addr → Prop} {x : V} {q : Str × Int} (h : isPair H G x q) : Dp K H x (pairD q) := by
  obtain ⟨t, rfl, _, h⟩ := h
  exact .tup (.inl (.inl h)) (.cons (.str _) (.cons (.int _) .nil))
theorem eqvAll_refl : ∀ {ds : List PyData}, (∀ d ∈ ds, PyData.eqv d d = true) → PyData.eqvAll ds ds = true
  | [], _ => by simp [PyData.eqvAll]
  | d :: r, h => by
    simp only [PyData.eqvAll]
    rw [h d List.mem_cons_self, eqvAll_refl fun x hx => h x (List.mem_cons_of_mem _ hx)]; rfl
theorem eqv_str (s : Str) : PyData.eqv (.str s) (.str s) = true := by simp [PyData.eqv]
theorem eqv_int (s : Int) : PyData.eqv (.int s) (.int s) = true := by simp [PyData.eqv]
theorem eqv_lst {ds : List PyData} (h : ∀ d ∈ ds, PyData.eqv d d = true) : PyData.eqv (.list ds) (.list ds) = true := by
  simp only [PyData.eqv]; exact eqvAll_refl h
theorem eqv_tp {ds : List PyData} (h : ∀ d ∈ ds, PyData.eqv d d = true) : PyData.eqv (.tuple ds) (.tuple ds) = true := by
  simp only [PyData.eqv]; exact eqvAll_refl h
theorem eqv_pair (q : Str × Int) : PyData.eqv (pairD q) (pairD q) = true := eqv_tp (allC (eqv_str _) (all1 (eqv_int _)))
theorem eqv_tupD (ns : List Int) : PyData.eqv (tupD ns) (tupD ns) = true := by rw [eqv_tup]; exact decide_eq_true rfl
theorem eqv_row (r : Row) : PyData.eqv (rowD r) (rowD r) = true := eqv_tp (allC (eqv_str _) (allC (eqv_lst fun d hd => by
  obtain ⟨s, _, rfl⟩ := List.mem_map.mp hd; exact eqv_str s) (all1 (eqv_lst fun d hd => by
  obtain ⟨s, _, rfl⟩ := List.mem_map.mp hd; exact eqv_tupD s))))
theorem eqv_map {α : Type} (f : α → PyData) (h : ∀ x, PyData.eqv (f x) (f x) = true) (l : List α) : PyData.eqv (.list (l.map f)) (.list (l.map f)) = true := eqv_lst fun d hd => by
  obtain ⟨s, _, rfl⟩ := List.mem_map.mp hd; exact h s
theorem shd_le {k j : Nat} {d : PyData} (h : Shd k d) (l : k ≤ j) : Shd j d := ⟨h.1, Nat.le_trans h.2 l⟩
theorem shd_pair {q : Str × Int} (h : NameOk q.1) : Shd 1 (pairD q) := Shd.tuple (allC (Shd.str h) (all1 (Shd.int _)))
theorem shd_vars {L : List (Str × Int)} (h : VarsOk L) : Shd 2 (.list (L.map pairD)) := Shd.list fun d hd => by
  obtain ⟨q, hq, rfl⟩ := List.mem_map.mp hd
  exact shd_pair (h.nm q hq)
theorem sub_nm {L : List (Str × Int)} (h : VarsOk L) {x : Str} (hx : x ∈ L.map (·.1)) : NameOk x := by
  obtain ⟨q, hq, rfl⟩ := List.mem_map.mp hx
  exact h.nm q hq
theorem shd_row {L : List (Str × Int)} (h : VarsOk L) {r : Row} (hr : RowOk L r) : Shd 3 (rowD r) := Shd.tuple (allC (shd_le (Shd.str hr.nm) (by decide)) (allC (shd_le (Shd.list (k := 0) fun d hd => by
  obtain ⟨s, hs, rfl⟩ := List.mem_map.mp hd; exact Shd.str (sub_nm h (hr.sub s hs))) (by decide)) (all1 (shd_tups _))))
theorem shd_rows {L : List (Str × Int)} (h : VarsOk L) {R : List Row} (hr : ∀ r ∈ R, RowOk L r) : Shd 4 (.list (R.map rowD)) := Shd.list fun d hd => by
  obtain ⟨r, hm, rfl⟩ := List.mem_map.mp hd
  exact shd_row h (hr r hm)
/-- the rows with their bad tuples in order -/
def SrtR (r s : Row) : Prop := s.1 = r.1 ∧ s.2.1 = r.2.1 ∧ Srt r.2.2 s.2.2
theorem RowOk.srt {L : List (Str × Int)} {r s : Row} (h : RowOk L r) (q : SrtR r s) : RowOk L s := by
  obtain ⟨x, sc, out⟩ := s
  obtain ⟨e1, e2, pm, _⟩ := q
  simp only at e1 e2 pm
  subst e1 e2
  exact ⟨h.nm, h.pos, h.few, h.sub, h.nd, by rw [pm.length_eq]; exact h.bfew, pm.nodup_iff.mpr h.bnd, fun ns hns => h.bl ns (pm.mem_iff.mp hns), fun ns hns => h.bv ns (pm.mem_iff.mp hns)⟩
theorem srtR_uniq {L : List (Str × Int)} (ok : VarsOk L) : ∀ {R S S' : List Row}, (∀ r ∈ R, RowOk L r) → Paired SrtR R S → Paired SrtR R S' → S = S'
  | _, _, _, _, .nil, .nil => rfl
  | r :: _, s :: _, s' :: _, h, .cons a t, .cons a' t' => by
    obtain ⟨x, sc, out⟩ := s
    obtain ⟨x', sc', out'⟩ := s'
    obtain ⟨e1, e2, e3⟩ := a
    obtain ⟨f1, f2, f3⟩ := a'
    simp only at e1 e2 e3 f1 f2 f3
    rw [e1, e2, f1, f2, Srt.uniq (row_bd ok (h r List.mem_cons_self)) e3 f3, srtR_uniq ok (fun q hq => h q (List.mem_cons_of_mem _ hq)) t t']
theorem ev_rows {H : Hp} {F G : Addr → Prop} : ∀ {es : List V} {E : List Ent} {R : List Row}, Paired (isEv H F) es E → Paired (isEnt H F G) E R → ∃ S : List Row, Paired SrtR R S ∧ Paired (isRow H F G) es S
  | _, _, _, .nil, .nil => ⟨[], .nil, .nil⟩
  | _, q :: _, r :: _, .cons ⟨t, e, f, ht⟩ u, .cons ⟨e1, f1, f2, hsc, ys, out, hys, hs, hpd⟩ u' => by
    obtain ⟨S, p1, p2⟩ := ev_rows u u'
    exact ⟨(r.1, r.2.1, out) :: S, .cons ⟨rfl, rfl, hs⟩ p1, .cons ⟨t, q.2.1, q.2.2, ys, e, f, by rw [← e1]; exact ht, ⟨f1, .inl hsc⟩, ⟨f2, .inl hys⟩, hpd⟩ p2⟩
/-- a row of lists -/
def isRowL (H : Hp) (F G : Addr → Prop) (x : V) (r : Row) : Prop := ∃ p a b ys, x = .ref p ∧ H p = some (.tup [.str r.1, .ref a, .ref b]) ∧ H a = some (.lst (r.2.1.map V.str)) ∧ H b = some (.lst ys) ∧ Paired (isTupI H G) ys r.2.2
theorem ev_rowsL {H : Hp} {F G : Addr → Prop} : ∀ {es : List V} {E : List Ent} {R : List Row}, Paired (isEv H F) es E → Paired (isEnt H F G) E R → ∃ S : List Row, Paired SrtR R S ∧ Paired (isRowL H F G) es S
  | _, _, _, .nil, .nil => ⟨[], .nil, .nil⟩
  | _, q :: _, r :: _, .cons ⟨t, e, f, ht⟩ u, .cons ⟨e1, f1, f2, hsc, ys, out, hys, hs, hpd⟩ u' => by
    obtain ⟨S, p1, p2⟩ := ev_rowsL u u'
    exact ⟨(r.1, r.2.1, out) :: S, .cons ⟨rfl, rfl, hs⟩ p1, .cons ⟨t, q.2.1, q.2.2, ys, e, by rw [← e1]; exact ht, hsc, hys, hpd⟩ p2⟩
theorem dp_row {K : PySem.W.Frag} {H : Hp} {F G : Addr → Prop} {x : V} {r : Row} (h : isRowL H F G x r) : Dp K H x (rowD r) := by
  obtain ⟨p, a, b, ys, rfl, hp, ha, hb, hpd⟩ := h
  exact .tup (.inl (.inl hp)) (.cons (.str _) (.cons (.lst (SqL.of ha) (dp_strs _)) (.cons (.lst (SqL.of hb) (dp_all (fun _ _ z => dp_tup z) hpd)) .nil)))
/-! ### equality of problems -/
theorem eqvAll_mapI {α : Type} [DecidableEq α] (f : α → PyData) (hf : ∀ x y, PyData.eqv (f x) (f y) = decide (x = y)) : ∀ l l' : List α, PyData.eqvAll (l.map f) (l'.map f) = decide (l = l')
  | [], [] => by simp [PyData.eqvAll]
  | [], _ :: _ => by simp [PyData.eqvAll]
  | _ :: _, [] => by simp [PyData.eqvAll]
  | x :: l, y :: l' => by
    simp only [List.map_cons, PyData.eqvAll]
    rw [hf x y, eqvAll_mapI f hf l l']
    by_cases h : x = y
    · subst h; simp
    · rw [decide_eq_false h, Bool.false_and]
      symm
      exact decide_eq_false fun e => h (List.cons.inj e).1
theorem eqv_mapI {α : Type} [DecidableEq α] (f : α → PyData) (hf : ∀ x y, PyData.eqv (f x) (f y) = decide (x = y)) (l l' : List α) : PyData.eqv (.list (l.map f)) (.list (l'.map f)) = decide (l = l') := by
  simp only [PyData.eqv]
  exact eqvAll_mapI f hf l l'
theorem eqv_s2 (a b : Str) : PyData.eqv (.str a) (.str b) = decide (a = b) := by
  simp only [PyData.eqv]
  by_cases h : a = b
  · subst h; simp
  · rw [decide_eq_false h]; simpa using h
theorem eqv_i2 (a b : Int) : PyData.eqv (.int a) (.int b) = decide (a = b) := by
  simp only [PyData.eqv]
  by_cases h : a = b
  · subst h; simp
  · rw [decide_eq_false h]; simpa using h
theorem eqv_pair2 (q q' : Str × Int) : PyData.eqv (pairD q) (pairD q') = decide (q = q') := by
  obtain ⟨a, i⟩ := q
  obtain ⟨b, j⟩ := q'
  unfold pairD
  rw [show PyData.eqv (.tuple [.str a, .int i]) (.tuple [.str b, .int j]) = (PyData.eqv (.str a) (.str b) && (PyData.eqv (.int i) (.int j) && true)) from rfl, eqv_s2, eqv_i2, Bool.and_true]
  by_cases h1 : a = b
  · by_cases h2 : i = j
    · subst h1 h2; simp
    · rw [decide_eq_false h2, Bool.and_false]; symm; exact decide_eq_false fun e => h2 (Prod.mk.inj e).2
  · rw [decide_eq_false h1, Bool.false_and]; symm; exact decide_eq_false fun e => h1 (Prod.mk.inj e).1
theorem eqv_row2 (r r' : Row) : PyData.eqv (rowD r) (rowD r') = decide (r = r') := by
  obtain ⟨a, s, b⟩ := r
  obtain ⟨a', s', b'⟩ := r'
  unfold rowD
  rw [show ∀ x y z x' y' z' : PyData, PyData.eqv (.tuple [x, y, z]) (.tuple [x', y', z']) = (PyData.eqv x x' && (PyData.eqv y y' && (PyData.eqv z z' && true))) from fun _ _ _ _ _ _ => rfl, eqv_s2, eqv_mapI PyData.str eqv_s2, eqv_mapI tupD eqv_tup, Bool.and_true]
  by_cases h1 : a = a'
  · by_cases h2 : s = s'
    · by_cases h3 : b = b'
      · subst h1 h2 h3; simp
      · rw [decide_eq_false h3, Bool.and_false, Bool.and_false]; symm; exact decide_eq_false fun e => h3 (Prod.mk.inj (Prod.mk.inj e).2).2
    · rw [decide_eq_false h2, Bool.false_and, Bool.and_false]; symm; exact decide_eq_false fun e => h2 (Prod.mk.inj (Prod.mk.inj e).2).1
  · rw [decide_eq_false h1, Bool.false_and]; symm; exact decide_eq_false fun e => h1 (Prod.mk.inj e).1
theorem okS {L : List (Str × Int)} {R S : List Row} (o : EvsOk L R) (k : Paired SrtR R S) : ∀ s ∈ S, RowOk L s := fun s hs => by
  obtain ⟨i, hi⟩ := List.getElem?_of_mem hs
  obtain ⟨r, hr', z⟩ := pd_get' k hi
  exact (o.ok r (List.mem_of_getElem? hr')).srt z
def sp_peq (K : PySem.W.Frag) (C : Addr) : Sp := fun vs H Q _ => ∃ (p : Addr) (y : V) (F G : Addr → Prop) (L : List (Str × Int)) (R S : List Row), vs = [.ref p, y] ∧ IsP C H F G p L R ∧ VarsOk L ∧ EvsOk L R ∧ Paired SrtR R S ∧
  ((∃ (p' : Addr) (F' G' : Addr → Prop) (L' : List (Str × Int)) (R' S' : List Row), y = .ref p' ∧ IsP C H F' G' p' L' R' ∧ VarsOk L' ∧ EvsOk L' R' ∧ Paired SrtR R' S' ∧ Q (.bl (decide (L = L') && decide (S = S'))) H) ∨
   (∃ t, TyX K H y t ∧ PySem.W.kitOne K t (.ref C) = some false ∧ Q (.bl false) H))
theorem ok_Problem_eq {P : Program} {w : World} {K : PySem.W.Frag} {mg : Str → Option Value} {base : Heap} (T : Txt P K mg) : FnOk P w K mg base CX0 1 T.f_Problem_eq T.fd_Problem_eq ["self", "other"] (sp_peq K T.C_Problem) := by
  refine T.F_Problem_eq.ok sc_Problem_eq (fun vs H Q E h => ?_) (fun cdv A outer s H vs Q E hr h => ?_)
  · obtain ⟨_, _, _, _, _, _, _, rfl, _⟩ := h; rfl
  · obtain ⟨p, y, F, G, L, R, S, rfl, ⟨dx, av, ds, dp, ae, dsc, dbt, dn, E1, xs, es, hp, _, ⟨h1, h2⟩, _, ⟨h4, h5, h6⟩, _⟩, okL, okR, hS, q⟩ := h
    refine ⟨_, PSs.nox (pss_one (ps_ret (pe_and (pe_callB (show CallR _ _ (rIsi K) from call_isi) (by rfl) T.n_isinstance (by decide +kernel) (pa_cons (pv 1) (pa_cons (pe_glob (v := .ref T.C_Problem) (by rfl) T.g_Problem rfl) pa_nil))) (pe_and (pe_cmpR (show OpR _ (compareOp .Eq) (rEqD K) from op_eqD hr.units) (show PE _ _ (tFld K _ _) from pe_fld (pv 0) rfl) (show PE _ _ (tFld K _ _) from pe_fld (pv 1) rfl) (nomark _)) (pe_one (pe_cmpR (show OpR _ (compareOp .Eq) (rEqD K) from op_eqD hr.units) (show PE _ _ (tFld K _ _) from pe_fld (pv 0) rfl) (show PE _ _ (tFld K _ _) from pe_fld (pv 1) rfl) (nomark _))))))), ?_⟩
    rcases q with ⟨p', F', G', L', R', S', rfl, ⟨dx', av', ds', dp', ae', dsc', dbt', dn', E1', xs', es', hp', _, ⟨h1', h2'⟩, _, ⟨h4', h5', h6'⟩, _⟩, okL', okR', hS', q⟩ | ⟨t, ty, k, q⟩
    · refine ⟨_, rfl, _, _, _, _, _, rfl, .own _, T.ow_Problem.ty hp', T.ow_Problem.me, _, rfl, ?_⟩
      refine ⟨_, rfl, p, _, dx, _, _, rfl, hp, T.cl_Problem, T.na_Problem__variables, pfl_variables .., _, rfl, p', _, dx', _, _, rfl, hp', T.cl_Problem, T.na_Problem__variables, pfl_variables .., .list (L.map pairD), .list (L'.map pairD), .lst (SqL.of h1) (dp_all (fun _ _ z => dp_pair z) h2), .lst (SqL.of h1') (dp_all (fun _ _ z => dp_pair z) h2'), (shd_vars okL).shaped (by decide), (shd_vars okL').shaped (by decide), _, rfl, ?_⟩
      rw [eqv_mapI pairD eqv_pair2]
      obtain ⟨T1, k1, k2⟩ := ev_rowsL h5 h6
      obtain ⟨T2, k1', k2'⟩ := ev_rowsL h5' h6'
      have e1 := srtR_uniq okL okR.ok k1 hS
      have e2 := srtR_uniq okL' okR'.ok k1' hS'
      subst e1 e2
      by_cases hL : L = L'
      · rw [decide_eq_true hL] at q ⊢
        refine iteT ⟨_, rfl, p, _, dx, _, _, rfl, hp, T.cl_Problem, T.na_Problem__events, pfl_events .., _, rfl, p', _, dx', _, _, rfl, hp', T.cl_Problem, T.na_Problem__events, pfl_events .., .list (T1.map rowD), .list (T2.map rowD), .lst (SqL.of h4) (dp_all (fun _ _ z => dp_row z) k2), .lst (SqL.of h4') (dp_all (fun _ _ z => dp_row z) k2'), (shd_rows okL (okS okR k1)).shaped (by decide), (shd_rows okL' (okS okR' k1')).shaped (by decide), ?_⟩
        rw [eqv_mapI rowD eqv_row2]
        rw [Bool.true_and] at q
        exact q
      · rw [decide_eq_false hL] at q ⊢
        refine iteF ?_
        rw [Bool.false_and] at q
        exact q
    · exact ⟨_, rfl, _, _, t, _, _, rfl, .own _, ty, k, _, rfl, q⟩
/-! ### texts of data -/
theorem cp_name {x : Str} (h : NameOk x) : CpOk x := fun c hc => by
  have := (h.2.2 c hc).2
  exact Nat.lt_of_le_of_lt this (by decide)
theorem okd_name {x : Str} (h : NameOk x) : OkD 82 0 (.str x) := okd_str (n := 8) (cp_name h) (by rw [len_tl]; exact h.2.1)
theorem dx_map {K : PySem.W.Frag} {H : Hp} {α : Type} {F : V → α → Prop} {B k : Nat} : ∀ {xs : List V} {ys : List α}, Paired F xs ys → (∀ x y, F x y → y ∈ ys → ∃ d, Dx K H x d ∧ OkD B k d) → ∃ ds, DxAll K H xs ds ∧ ∀ d ∈ ds, OkD B k d
  | _, _, .nil, _ => ⟨[], .nil, fun _ h => by cases h⟩
  | _, _, .cons r t, h => by
    obtain ⟨d, h1, h2⟩ := h _ _ r List.mem_cons_self
    obtain ⟨ds, h3, h4⟩ := dx_map t fun x y f hy => h x y f (List.mem_cons_of_mem _ hy)
    exact ⟨d :: ds, .cons h1 h3, allC h2 h4⟩
theorem dxAll_len {K : PySem.W.Frag} {H : Hp} : ∀ {xs : List V} {ds : List PyData}, DxAll K H xs ds → ds.length = xs.length
  | _, _, .nil => rfl
  | _, _, .cons _ t => congrArg (· + 1) (dxAll_len t)
theorem dx_lt {K : PySem.W.Frag} {H : Hp} {a : Addr} {xs : List V} {ds : List PyData} {B k m : Nat} (h : H a = some (.lst xs) ∨ H a = some (.tup xs)) (hd : DxAll K H xs ds) (ho : ∀ d ∈ ds, OkD B k d) (l : xs.length ≤ m) :
    ∃ d, Dx K H (.ref a) d ∧ OkD (m * (B + 2) + 3) (k + 1) d := by
  have le : ds.length ≤ m := by rw [dxAll_len hd]; exact l
  rcases h with h | h
  · exact ⟨_, .lst (SqL.of h) hd, okd_list ho le⟩
  · exact ⟨_, .tup (.inl (.inl h)) hd, okd_tuple ho le⟩
theorem dx_pair {K : PySem.W.Frag} {H : Hp} {G : Addr → Prop} {x : V} {q : Str × Int} (h : isPair H G x q) (n : NameOk q.1) (i : 1 ≤ q.2 ∧ q.2 ≤ 6) : ∃ d, Dx K H x d ∧ OkD 1009 1 d := by
  obtain ⟨t, rfl, _, h⟩ := h
  exact ⟨_, .tup (.inl (.inl h)) (.cons (.str _) (.cons (.int _) .nil)), okd_tuple (B := 501) (k := 0) (m := 2) (allC ((okd_name n).mono (by decide) (by decide)) (all1 (okd_int (by omega)))) (Nat.le_refl _)⟩
theorem dx_tup {K : PySem.W.Frag} {H : Hp} {G : Addr → Prop} {x : V} {ns : List Int} (h : isTupI H G x ns) (l : ns.length ≤ 4) (b : TS.Bd 6 ns) : ∃ d, Dx K H x d ∧ OkD 2015 1 d := by
  obtain ⟨t, rfl, _, h⟩ := h
  obtain ⟨ds, h1, h2⟩ := dx_map (K := K) (H := H) (F := fun v (i : Int) => v = .int i) (B := 501) (k := 0) (pd_map V.int (l := ns) fun _ _ => rfl) fun x i e hi => by
    subst e
    have := b i hi
    exact ⟨_, .int i, okd_int (by omega)⟩
  exact dx_lt (.inr h) h1 h2 (by rw [List.length_map]; exact l)
theorem dx_row {K : PySem.W.Frag} {L : List (Str × Int)} {H : Hp} {F G : Addr → Prop} {x : V} {r : Row} (ok : VarsOk L) (h : isRow H F G x r) (hr : RowOk L r) : ∃ d, Dx K H x d ∧ OkD 72630 3 d := by
  obtain ⟨p, a, b, ys, rfl, _, hp, ⟨_, la⟩, ⟨_, lb⟩, pd⟩ := h
  have x4 := hr.few
  have x12 := hr.bfew
  obtain ⟨ds, h1, h2⟩ := dx_map (K := K) (H := H) (F := fun v (i : Str) => v = .str i) (B := 82) (k := 0) (pd_map V.str (l := r.2.1) fun _ _ => rfl) fun x i e hi => by
    subst e
    exact ⟨_, .str i, okd_name (sub_nm ok (hr.sub i hi))⟩
  obtain ⟨d1, u1, v1⟩ := dx_lt la h1 h2 (m := 4) (by rw [List.length_map]; exact x4)
  obtain ⟨ds2, h3, h4⟩ := dx_map (K := K) (H := H) (B := 2015) (k := 1) pd fun x ns z hz => by
    obtain ⟨l, bd⟩ := row_bd ok hr ns hz
    exact dx_tup z (by omega) bd
  obtain ⟨d2, u2, v2⟩ := dx_lt lb h3 h4 (m := 12) (by rw [pd.length]; exact x12)
  exact ⟨_, .tup (.inl (.inl hp)) (.cons (.str _) (.cons u1 (.cons u2 .nil))), okd_tuple (B := 24207) (k := 2) (m := 3) (allC ((okd_name hr.nm).mono (by decide) (by decide)) (allC (v1.mono (by decide) (by decide)) (all1 (v2.mono (by decide) (by decide))))) (Nat.le_refl _)⟩
theorem dx_vars {K : PySem.W.Frag} {L : List (Str × Int)} {H : Hp} {G : Addr → Prop} {a : Addr} {xs : List V} (ok : VarsOk L) (h : H a = some (.lst xs) ∨ H a = some (.tup xs)) (pd : Paired (isPair H G) xs L) : ∃ d, Dx K H (.ref a) d ∧ OkD 8091 2 d := by
  obtain ⟨ds, h1, h2⟩ := dx_map (K := K) pd fun x q z hz => dx_pair z (ok.nm q hz) (ok.sz q hz)
  exact dx_lt h h1 h2 (m := 8) (by rw [pd.length]; exact ok.few)
theorem dx_evs {K : PySem.W.Frag} {L : List (Str × Int)} {H : Hp} {F G : Addr → Prop} {a : Addr} {xs : List V} {R : List Row} (ok : VarsOk L) (h : H a = some (.lst xs) ∨ H a = some (.tup xs)) (pd : Paired (isRow H F G) xs R) (n : R.length ≤ 8) (okR : ∀ r ∈ R, RowOk L r) : ∃ d, Dx K H (.ref a) d ∧ OkD 581059 4 d := by
  obtain ⟨ds, h1, h2⟩ := dx_map (K := K) pd fun x q z hz => dx_row ok z (okR q hz)
  exact dx_lt h h1 h2 (m := 8) (by rw [pd.length]; exact n)

end K62
namespace K62
open PySem PySem.Spec PyProof.Rows L2 TL
/-! ### as shapes -/
abbrev sVar : Sh (Str × Int) := sP sStr sInt
abbrev sBad : Sh (List (List Int)) := sL (sT sInt)
abbrev sRow : Sh Row := s3 sStr (sL sStr) sBad
theorem mem1 {a b : Addr} : a ∉ [b] ↔ a ≠ b := by simp
theorem Fr.stp {b : Addr} {H H' : Hp} (f : Fr b H H') (h : ∃ o, H' b = some o) : Stp [b] H H' := fun a o e => by
  by_cases eb : a = b
  · subst eb; exact ⟨h, fun n => absurd List.mem_cons_self n⟩
  · exact ⟨⟨o, f a o eb e⟩, fun _ => f a o eb e⟩
theorem frS {b : Addr} {H H' : Hp} (f : Stp [b] H H') : Fr b H H' := fun a o n e => f.at e (mem1.mpr n)
theorem Bag.off {b : Addr} {n : Nat} {H H' : Hp} (h : Bag H b n) (k : ∀ o, H b = Option.some o → H' b = Option.some o) : Bag H' b n := by
  obtain ⟨x, y, z, e, r⟩ := h
  exact ⟨x, y, z, k _ e, r⟩
theorem Bag.stp {b : Addr} {m : List Addr} {n : Nat} {H H' : Hp} (h : Bag H b n) (s : Stp m H H') (nb : b ∉ m) : Bag H' b n := Bag.off h fun o e => s.at e nb
theorem map_snoc {α β : Type} (f : α → β) {l : List α} {i : Nat} (h : i < l.length) : (l.take (i + 1)).map f = (l.take i).map f ++ [f l[i]] := by
  rw [take_snoc h, List.map_append]; rfl
theorem wipe_at {σ : L2.St} {i : Nat} {x : Option L2.V} : ∀ L : List Nat, (L2.wipe (σ.set i x) L).set i none = (L2.wipe σ L).set i none
  | [] => by rw [L2.wipe, L2.wipe, List.set_set]
  | a :: L => by
    rw [L2.wipe, L2.wipe]
    by_cases e : a = i
    · rw [e, List.set_set, List.set_set]; exact wipe_at L
    · rw [List.set_comm _ _ e, List.set_comm _ _ e, wipe_at L]
theorem wipe_in {σ : L2.St} {i : Nat} {x : Option L2.V} : ∀ {L : List Nat}, i ∈ L → L2.wipe (σ.set i x) L = L2.wipe σ L
  | [], h => by cases h
  | a :: L, h => by
    rw [L2.wipe, L2.wipe]
    by_cases e : i = a
    · rw [← e]; exact wipe_at L
    · rw [wipe_in (List.mem_of_ne_of_mem e h)]
theorem ixn {m i : Nat} (h : i < m) : ixN m (i : Int) = some i := by
  unfold ixN
  rw [if_pos (by omega), if_pos (by omega)]
  show some (i : Int).toNat = some i
  rw [Int.toNat_natCast]
theorem isD_row : ShD sRow rowD := ⟨fun h => (isD_3 isD_str (isD_L isD_str) (isD_L (isD_T isD_int))).dp h, fun h => (isD_3 isD_str (isD_L isD_str) (isD_L (isD_T isD_int))).dx h⟩
theorem take_map_snoc {α β : Type} (f : α → β) {l : List α} {i : Nat} {x : α} (h : l[i]? = some x) : (l.take (i + 1)).map f = (l.take i).map f ++ [f x] := by
  obtain ⟨li, e⟩ := List.getElem?_eq_some_iff.mp h
  rw [map_snoc f li, e]
/-! ### a problem as a shape -/
theorem isPair.gen {H H' : Hp} {G G' : Addr → Prop} {x : V} {q : Str × Int} (h : isPair H G x q) (k : ∀ a o, G a → H a = some o → H' a = some o ∧ G' a) : isPair H' G' x q := by
  obtain ⟨t, e, g, h⟩ := h
  exact ⟨t, e, (k _ _ g h).2, (k _ _ g h).1⟩
theorem isTupI.gen {H H' : Hp} {G G' : Addr → Prop} {x : V} {q : List Int} (h : isTupI H G x q) (k : ∀ a o, G a → H a = some o → H' a = some o ∧ G' a) : isTupI H' G' x q := by
  obtain ⟨t, e, g, h⟩ := h
  exact ⟨t, e, (k _ _ g h).2, (k _ _ g h).1⟩
theorem IsP.gen {C : Addr} {H H' : Hp} {F F' G G' : Addr → Prop} {p : Addr} {L : List (Str × Int)} {R : List Row} (h : IsP C H F G p L R) (k : ∀ a o, F a → H a = some o → H' a = some o ∧ F' a) (k' : ∀ a xs, G a → H a = some (.tup xs) → H' a = some (.tup xs) ∧ G' a) : IsP C H' F' G' p L R := by
  obtain ⟨dx, av, ds, dp, ae, dsc, dbt, dn, E, xs, es, hp, ⟨f1, f2, f3, f4, f5, f6, ⟨N2, h9⟩, h10, h11⟩, ⟨h1, h2⟩, h3, ⟨h4, h5, h6⟩, h7, h8⟩ := h
  refine ⟨dx, av, ds, dp, ae, dsc, dbt, dn, E, xs, es, (k _ _ f1 hp).1, ⟨(k _ _ f1 hp).2, (k _ _ f2 h1).2, (k _ _ f3 h3).2, (k _ _ f4 h4).2, (k _ _ f5 h7).2, (k _ _ f6 h8).2, ⟨N2, (k _ _ h9.1 h9.2.1).2, (k _ _ h9.1 h9.2.1).1, Paired.mono (fun _ _ z => ⟨z.1, (k _ _ z.2.1 z.2.2).2, (k _ _ z.2.1 z.2.2).1⟩) h9.2.2⟩, (k _ _ h10 h11).2, (k _ _ h10 h11).1⟩,
    ⟨(k _ _ f2 h1).1, Paired.mono (fun x q z => ?_) h2⟩, (k _ _ f3 h3).1, ⟨(k _ _ f4 h4).1, Paired.mono (fun x q z => ?_) h5, Paired.mono (fun x q z => ?_) h6⟩, (k _ _ f5 h7).1, (k _ _ f6 h8).1⟩
  · obtain ⟨t, e, g, h⟩ := z
    exact ⟨t, e, (k' _ _ g h).2, (k' _ _ g h).1⟩
  · obtain ⟨t, e, g, h⟩ := z
    exact ⟨t, e, (k _ _ g h).2, (k _ _ g h).1⟩
  · obtain ⟨e, g1, g2, e1, ys, out, e2, s, pd⟩ := z
    refine ⟨e, (k _ _ g1 e1).2, (k _ _ g2 e2).2, (k _ _ g1 e1).1, ys, out, (k _ _ g2 e2).1, s, Paired.mono (fun x q z => ?_) pd⟩
    obtain ⟨t, e, g, h⟩ := z
    exact ⟨t, e, (k' _ _ g h).2, (k' _ _ g h).1⟩
abbrev Parts := List (Str × Int) × List Row
def sProb (C : Addr) : Sh Parts := ⟨fun W H v x => ∃ p, v = .ref p ∧ IsP C H W W p x.1 x.2, fun ⟨p, e, h⟩ k => ⟨p, e, h.gen (fun a o w e => k a o w e) fun a xs w e => k a _ w e⟩⟩
abbrev sRowQ : Sh Row := s3 sStr (sQ sStr) (sQ (sT sInt))
abbrev sParts : Sh Parts := sLP (sL sVar) (sL sRow)
theorem Sh.rowQ {M : List Addr} {H : Hp} {v : V} {r : Row} (h : sRow.at M H v r) : sRowQ.at M H v r := by
  obtain ⟨t, i, j, l, e, n, h, h1, h2, h3⟩ := h
  exact ⟨t, i, j, l, e, n, h, h1, Sh.sq h2, Sh.sq h3⟩
theorem pd_isRow {M : List Addr} {H : Hp} : ∀ {v : V} {r : Row}, sRowQ.at M H v r → isRow H (fun a => a ∉ M) (fun a => a ∉ M) v r := by
  rintro v r ⟨t, i, j, l, e, n, h, h1, ⟨a, vs, ea, na, ha, pa⟩, ⟨c, ws, ec, nc, hc, pc⟩⟩
  cases h1; subst ea ec
  rw [pd_isStrs pa] at ha
  exact ⟨t, a, c, ws, e, n, h, ⟨na, ha⟩, ⟨nc, hc⟩, Paired.mono (fun x q z => by
    obtain ⟨t, e, n, h⟩ := Sh.tints z
    exact ⟨t, e, n, h⟩) pc⟩
theorem pd_isVar {M : List Addr} {H : Hp} {v : V} {q : Str × Int} (h : sVar.at M H v q) : isPair H (fun a => a ∉ M) v q := by
  obtain ⟨t, i, j, e, n, h, h1, h2⟩ := h
  cases h1; cases h2
  exact ⟨t, e, n, h⟩
/-- what M holds are lists -/
def AlvL (M : List Addr) (H : Hp) : Prop := ∀ a ∈ M, ∃ zs, H a = some (.lst zs)
theorem AlvL.alv {M : List Addr} {H : Hp} (h : AlvL M H) : Alv M H := fun a ha => (h a ha).elim fun zs e => ⟨_, e⟩
theorem AlvL.cons {M : List Addr} {H : Hp} {a : Addr} {zs : List V} (e : H a = some (.lst zs)) (h : AlvL M H) : AlvL (a :: M) H := fun x hx => (List.mem_cons.mp hx).elim (fun h => ⟨zs, by rw [h]; exact e⟩) (h x)
theorem AlvL.nil {H : Hp} : AlvL [] H := fun _ h => by cases h
theorem mkPs {K : PySem.W.Frag} {C : Addr} {H : Hp} {M : List Addr} {Post : Addr → Hp → Prop} {E : XK} {va ve : V} {L : List (Str × Int)} {R : List Row} {vs dvs : List V} (alM : AlvL M H) (hA : (sQ sVar).at M H va L) (okL : VarsOk L) (hE : (sQ sRowQ).at M H ve R) (okR : EvsOk L R)
    (q : ∀ p H', Same H H' → H p = none → (sProb C).at M H' (.ref p) (L, R) → Post p H') (hv : vs ++ dvs = [va, ve] := by rfl) :
    ∀ x dx, H x = none → H dx = none → dx ≠ x → sp_pinit K C (.ref x :: (vs ++ dvs)) (upd (upd H dx (.own x)) x (.ins C dx [])) (fun v H2 => v = .non ∧ Post x H2) E := by
  intro x dx nx ndx ne
  rw [hv]
  obtain ⟨a, xs, ea, na, ha, pa⟩ := hA
  obtain ⟨e, ys, ee, nE, he, pe⟩ := hE
  subst ea ee
  have SqA : Sq K H a xs := ha.imp id .inl
  have SqE : Sq K H e ys := he.imp id .inl
  refine ⟨H, x, dx, a, e, xs, ys, L, R, rfl, upd_same, nx, Same.upd_p (Same.new ndx) nx, SqA, Paired.mono (fun _ _ z => (pd_isVar z).old) pa, okL, SqE, Paired.mono (fun _ _ z => (pd_isRow z).old) pe, okR, fun H' s hP => ⟨rfl, q x H' s nx ⟨x, rfl, hP.gen (fun a o n e => ⟨e, fun hm => ?_⟩) fun a zs n e => ⟨e, fun hm => ?_⟩⟩⟩⟩
  · obtain ⟨zs, hz⟩ := alM a hm
    rw [show H a = none from n] at hz; cases hz
  · obtain ⟨zs', hz⟩ := alM a hm
    rw [s _ _ hz] at e; cases e
/-- an own list F, new since H, one item more -/
theorem app_L {α : Type} {s : Sh α} {m M : List Addr} {H H2 : Hp} {F : Addr} {v : V} {x : α} {vs : List V} {xs : List α} (nF : H F = none) (st : Stp m H H2) (pd : Paired (s.at (F :: M) H2) vs xs) (hz : s.at (F :: M) H2 v x) :
    Stp m H (upd H2 F (.lst (vs ++ [v]))) ∧ Paired (s.at (F :: M) (upd H2 F (.lst (vs ++ [v])))) (vs ++ [v]) (xs ++ [x]) := by
  have sp : Stp [F] H2 (upd H2 F (.lst (vs ++ [v]))) := Stp.put (by simp)
  have sb : Sb [F] (F :: M) H2 := Sb.mem List.mem_cons_self Sb.nil
  exact ⟨st.putN nF, psnoc (Sh.gos pd sp sb Sb.refl) (Sh.go hz sp sb Sb.refl)⟩
theorem pd_isRowS {M : List Addr} {H : Hp} {v : V} {r : Row} (h : sRow.at M H v r) : isRowS H (fun a => a ∉ M) (fun a => a ∉ M) v r := by
  obtain ⟨t, i, j, l, e, n, h, h1, h2, ⟨c, ws, ec, nc, hc, pc⟩⟩ := h
  cases h1
  obtain ⟨a, ea, na, ha⟩ := Sh.strs h2
  subst ea ec
  exact ⟨t, a, c, ws, e, n, h, ⟨na, ha⟩, ⟨nc, hc⟩, Paired.mono (fun x q z => by
    obtain ⟨t, e, n, h⟩ := Sh.tints z
    exact ⟨t, e, n, h⟩) pc⟩
theorem Sh.all {α : Type} {s : Sh α} {M : List Addr} {H : Hp} {v : V} {x : α} (h : s.at M H v x) : s.at [] H v x := s.mv h fun a o _ e => ⟨e, by simp⟩
theorem Sh.rowsQ {M : List Addr} {H : Hp} {v : V} {R : List Row} (h : (sL sRow).at M H v R) : (sQ sRowQ).at M H v R := by
  obtain ⟨a, vs, e, n, h, p⟩ := h
  exact ⟨a, vs, e, n, .inl h, Paired.mapP p fun _ _ z => Sh.rowQ z⟩
theorem isRowL.same {H H' : Hp} {F G : Addr → Prop} {x : V} {r : Row} (h : isRowL H F G x r) (s : Same H H') : isRowL H' F G x r := by
  obtain ⟨p, a, b, ys, e, h1, h2, h3, h4⟩ := h
  exact ⟨p, a, b, ys, e, s _ _ h1, s _ _ h2, s _ _ h3, Paired.mono (fun _ _ z => isTupI.same z s) h4⟩
theorem eqv_two (a b c d : PyData) : PyData.eqv (.list [a, b]) (.list [c, d]) = (PyData.eqv a c && PyData.eqv b d) := by
  rw [show PyData.eqv (.list [a, b]) (.list [c, d]) = (PyData.eqv a c && (PyData.eqv b d && true)) from rfl, Bool.and_true]
theorem IsP.ins {C : Addr} {H : Hp} {F G : Addr → Prop} {p : Addr} {L : List (Str × Int)} {R : List Row} (h : IsP C H F G p L R) : ∃ dx fs, H p = some (.ins C dx fs) := by
  obtain ⟨dx, av, ds, dp, ae, dsc, dbt, dn, E, xs, es, hp, _⟩ := h
  exact ⟨dx, _, hp⟩
theorem IsP.srt {C : Addr} {H : Hp} {F G : Addr → Prop} {p : Addr} {L : List (Str × Int)} {R : List Row} (h : IsP C H F G p L R) : ∃ S : List Row, Paired SrtR R S := by
  obtain ⟨dx, av, ds, dp, ae, dsc, dbt, dn, E, xs, es, hp, f, ⟨h1, h2⟩, h3, ⟨h4, h5, h6⟩, h7, h8⟩ := h
  obtain ⟨S, k1, _⟩ := ev_rowsL h5 h6
  exact ⟨S, k1⟩
theorem IsP.at' {C : Addr} {H : Hp} {F G : Addr → Prop} {p : Addr} {L : List (Str × Int)} {R : List Row} (h : IsP C H F G p L R) : ∃ dx fs, H p = some (.ins C dx fs) ∧ ∀ m : Str, ([("_neighbors" : Str), "_bad_tuples", "_scopes", "_events", "_places", "_sizes", "_variables"].all fun k => decide (¬ m = k)) = true → fs.lookup m = none := by
  obtain ⟨dx, av, ds, dp, ae, dsc, dbt, dn, E, xs, es, hp, _⟩ := h
  exact ⟨dx, _, hp, fun m hm => pfl_no _ _ _ _ _ _ _ hm⟩

end K62
namespace K62
open PySem PySem.Spec PyProof.Rows L2 TL
/-! ### a list in a drawn order -/
theorem seq_at {n : Nat} {i : Int} (h0 : 0 ≤ i) (h1 : i < (n : Int)) : seqIndex? i n = some i.toNat := by
  refine (ixN_seq (j := i.toNat) ?_).1
  unfold ixN
  rw [if_pos h0, if_pos h1]
def sp_mixed (K : PySem.W.Frag) : Sp := fun vs H Q _ => ∃ (b a : Addr) (n : Nat) (ws : List V), vs = [.ref b, .ref a] ∧ Bag H b n ∧ n + 100 ≤ 1000000 ∧ SqL K H a ws ∧ ws.length ≤ 100 ∧
  ∀ (D : Addr) (zs : List V) H', Stp [b] H H' → H D = none → H' D = some (.lst zs) → zs.Perm ws → Bag H' b (n + ws.length) → Q (.ref D) H'
theorem ok_l_mixed {P : Program} {w : World} {K : PySem.W.Frag} {mg : Str → Option Value} {base : Heap} (T : Txt P K mg) : FnOk P w K mg base CX0 2 T.f_l_mixed T.fd_l_mixed ["_law_box_here", "_law_some"] (sp_mixed K) := by
  refine T.F_l_mixed.ok sc_l_mixed (fun vs H Q E h => ?_) (fun cdv A outer s H vs Q E hr h => ?_)
  · obtain ⟨_, _, _, _, rfl, _⟩ := h; rfl
  · obtain ⟨b, a, n, ws, rfl, hB, hn, hS, lw, q⟩ := h
    refine ⟨_, PSs.nox (pss_cons (ps_set (i := 2) sc_l_mixed.nd rfl (Or.inr rfl) (pe_callTy (show CallR _ _ (rListOf K) from call_list_of) (by rfl) T.n_list (by decide +kernel) (pa_cons (pv 1) pa_nil)))
      (pss_one (ps_ret (pe_lc (own := [("_law_k", 3)]) (g := gName 3) rfl sc_l_mixed.nd (pi_range1 (by rfl) T.n_range (pa_cons (pe_callB (show CallR _ _ (rLenSeq K) from call_len_seq) (by rfl) T.n_len (by decide +kernel) (pa_cons (pv 1) pa_nil)) pa_nil)) (blkOk_by (own := [("_law_k", 3)]) (N := N_l_mixed) (sc := defScope s_l_mixed) (by decide +kernel)) (fun _ _ _ _ _ => (pg_name (i := 3) sc_l_mixed.nd rfl (Or.inl rfl))) (fun _ _ _ _ _ => pts_nil) (fun _ _ _ _ _ => (show PE _ _ (tBM K "list" rPopAt _ _) from pe_bm PySem.F.plainAttrs_list PySem.F.slot_list_pop PySem.F.type_list_pop mt_popAt (pv 2) (pa_cons (pe_call (ok_l_take T) (hr.mono (by decide)) (by rfl) T.g_l_take T.F_l_take.kp (b_l_take T) .nil pass0 (pa_cons (pv 0) (pa_cons (pe_callB (show CallR _ _ (rLenSeq K) from call_len_seq) (by rfl) T.n_len (by decide +kernel) (pa_cons (pv 2) pa_nil)) pa_nil))) pa_nil))))))), ?_⟩
    refine ⟨_, rfl, a, _, rfl, .inl hS, fun l nl => ?_⟩
    have nbl := hB.ne nl
    have hl : upd H l (.lst ws) l = some (.lst ws) := upd_same
    have hS1 := (Kp.at fun o e => Same.new (o := .lst ws) nl a o e).1 _ hS
    have b1 := hB.upd (o := .lst ws) nbl
    have s1 : Stp [b] H (upd H l (.lst ws)) := Stp.new nl
    generalize upd H l (.lst ws) = H1 at hl hS1 b1 s1
    repeat (first | refine ⟨_, rfl, ?_⟩ | refine ⟨_, _, rfl, rfl, ?_⟩ | refine ⟨_, _, rfl, ?_⟩ | refine ⟨rfl, ?_⟩)
    refine ⟨a, _, rfl, .inl hS1, ?_⟩
    repeat (first | refine ⟨_, rfl, ?_⟩ | refine ⟨_, _, rfl, rfl, ?_⟩ | refine ⟨_, _, rfl, ?_⟩ | refine ⟨rfl, ?_⟩)
    refine ⟨by omega, by omega, fun D nD => lc_range (fun i H' => ∃ sc rest : List V, H' D = some (.lst sc) ∧ H' l = some (.lst rest) ∧ (sc ++ rest).Perm ws ∧ sc.length = i ∧ Stp [b] H H' ∧ Bag H' b (n + i)) ?_ (fun i H' hi p => ⟨rfl, ?_⟩) (fun H3 p => ?_)⟩
    · exact ⟨[], ws, upd_same, by rw [upd_ne (ne_of_none hl nD)]; exact hl, .refl _, rfl, s1.putN (s1.none nD), (b1.upd (b1.ne nD)).mono (by omega)⟩
    · obtain ⟨sc, rest, hD, hl3, pm, ls, f3, b3⟩ := p
      have hlen : sc.length + rest.length = ws.length := by rw [← pm.length_eq, List.length_append]
      have hr1 : 1 ≤ rest.length := by omega
      refine ⟨_, rfl, .inl ⟨rfl, _, SqL.of hl3⟩, _, rfl, _, rfl, l, _, rfl, .inl (SqL.of hl3), b, _, _, rfl, b3, by omega, by omega, by omega, fun k H4 f4 b4 k0 k1 => ?_⟩
      have hl4 := f4 l _ (Ne.symm nbl) hl3
      have nbD : b ≠ D := b1.ne nD
      have hD4 := f4 D _ (Ne.symm nbD) hD
      have nDl : D ≠ l := (ne_of_none hl nD).symm
      have hkl : k.toNat < rest.length := by omega
      have hk : rest[k.toNat]? = some (rest[k.toNat]'hkl) := List.getElem?_eq_getElem hkl
      refine ⟨l, _, k, k.toNat, _, rfl, rfl, hl4, by omega, by omega, seq_at k0 (by omega), hk, ?_⟩
      refine ⟨sc, by rw [upd_ne nDl]; exact hD4, by rw [sizeLine_eq]; omega, sc ++ [rest[k.toNat]'hkl], rest.eraseIdx k.toNat, upd_same, ?_, ?_, ?_, ?_, ?_⟩
      · rw [upd_ne (Ne.symm nDl), upd_same]
      · rw [List.append_assoc]
        exact ((popP hk).append_left sc).trans pm
      · rw [List.length_append, ls]; rfl
      · exact ((f3.trans (f4.stp b4.some)).putN nl).putN (s1.none nD)
      · exact ((b4.upd nbl).upd nbD).mono (by omega)
    · obtain ⟨sc, rest, hD, hl3, pm, ls, f3, b3⟩ := p
      have e : rest = [] := by
        have h := pm.length_eq
        rw [List.length_append] at h
        exact List.eq_nil_of_length_eq_zero (by omega)
      subst e
      rw [List.append_nil] at pm
      exact q D sc H3 f3 (s1.none nD) hD pm (b3.mono (by omega))
/-- in another order, the data too -/
theorem pperm {α β : Type} {F : α → β → Prop} {l l' : List α} (p : l'.Perm l) : ∀ {m : List β}, Paired F l m → ∃ m', m'.Perm m ∧ Paired F l' m' := by
  induction p with
  | nil => exact fun h => ⟨_, .refl _, h⟩
  | cons x _ ih =>
    intro m h
    cases h with
    | cons r t =>
      obtain ⟨m', p', h'⟩ := ih t
      exact ⟨_ :: m', p'.cons _, .cons r h'⟩
  | swap x y l =>
    intro m h
    cases h with
    | cons r t =>
      cases t with
      | cons r2 t2 => exact ⟨_, .swap _ _ _, .cons r2 (.cons r t2)⟩
  | trans _ _ ih1 ih2 =>
    intro m h
    obtain ⟨m1, p1, h1⟩ := ih2 h
    obtain ⟨m2, p2, h2⟩ := ih1 h1
    exact ⟨m2, p2.trans p1, h2⟩
theorem strs_perm {zz : List V} {ws : List Str} (p : zz.Perm (ws.map V.str)) : ∃ ms : List Str, zz = ms.map V.str ∧ ms.Perm ws := by
  obtain ⟨ms, pm, pd⟩ := pperm (F := fun (v : V) (s : Str) => v = .str s) p (pd_map V.str (l := ws) fun _ _ => rfl)
  refine ⟨ms, ?_, pm⟩
  clear pm p
  induction pd with
  | nil => rfl
  | cons e t ih => rw [e, ih]; rfl

end K62
namespace K62
open PySem PySem.Spec PyProof.Rows L2 TL
/-! ### names that share a stem -/
theorem joinL_nil : ∀ ps : List (List Nat), joinL [] ps = ps.flatten
  | [] => rfl
  | [p] => by simp [joinL]
  | p :: q :: r => by
    show p ++ ([] ++ joinL [] (q :: r)) = _
    rw [joinL_nil (q :: r)]
    simp
theorem tl_join0 (ys : List Str) : tl (Txt.join (Str.ofString "") ys) = (ys.map tl).flatten := by
  rw [join_eq, tl_join, show tl (Str.ofString "") = [] by decide +kernel, joinL_nil]
theorem tl_cut0 (z : Str) (a : Nat) : tl (cutS z none (some (a : Int))) = (tl z).take a := by
  show ((z.cps.toList.drop 0).take (HT.sIx z.length z.length (some (a : Int)) - 0)) = _
  rw [HT.sIx_nat, List.drop_zero, Nat.sub_zero, show z.length = (tl z).length from len_tl z]
  show (tl z).take _ = _
  rw [← List.take_take, List.take_length]
theorem tl_cut2 (z : Str) (a b : Nat) (h : a ≤ (tl z).length) : tl (cutS z (some (a : Int)) (some (b : Int))) = ((tl z).drop a).take (b - a) := by
  show ((z.cps.toList.drop (HT.sIx z.length 0 (some (a : Int)))).take (HT.sIx z.length z.length (some (b : Int)) - HT.sIx z.length 0 (some (a : Int)))) = _
  rw [HT.sIx_nat, HT.sIx_nat, show z.length = (tl z).length from len_tl z, Nat.min_eq_left h]
  show ((tl z).drop a).take _ = _
  by_cases hb : b ≤ (tl z).length
  · rw [Nat.min_eq_left hb]
  · rw [Nat.min_eq_right (by omega), List.take_of_length_le (by rw [List.length_drop]; omega), List.take_of_length_le (by rw [List.length_drop]; omega)]
def AZ : Str := Str.ofString "abcdefghijklmnopqrstuvwxyz"
theorem az_list : AZ.cps.toList = List.range' 97 26 := by decide +kernel
theorem az_at {d : Int} (h0 : 0 ≤ d) (h1 : d < 26) : atI AZ.cps.toList d = some (97 + d.toNat) := by
  have e : ((d.toNat : Nat) : Int) = d := Int.toNat_of_nonneg h0
  have h := atI_nat (xs := AZ.cps.toList) (j := d.toNat) (v := 97 + d.toNat) (by rw [az_list, List.getElem?_range' (by omega)]; simp)
  rw [e] at h
  exact h
theorem az_len : AZ.length ≤ sizeLine := slen (by decide +kernel)
/-- a list of draws that are texts of a kind, made at D -/
def PvP (b D : Addr) (H1 : Hp) (n0 c : Nat) (P : Str → Prop) (i : Nat) (H' : Hp) : Prop := H1 D = none ∧ D ≠ b ∧ ∃ ys : List Str, ys.length = i ∧ (∀ s ∈ ys, P s) ∧ H' D = some (.lst (ys.map V.str)) ∧ Fr b H1 H' ∧ Bag H' b (n0 + c * i)
theorem pvP_0 {b D : Addr} {H1 : Hp} {n0 c : Nat} {P : Str → Prop} (hB : Bag H1 b n0) (hD : H1 D = none) : PvP b D H1 n0 c P 0 (upd H1 D (.lst [])) :=
  ⟨hD, (hB.ne hD).symm, [], rfl, fun _ h => (nomatch h), upd_same, Fr.new hD, (hB.upd (hB.ne hD)).mono (by omega)⟩
theorem pvP_put {b D : Addr} {H1 H' H4 : Hp} {n0 c i : Nat} {P : Str → Prop} {s : Str} (p : PvP b D H1 n0 c P i H') (f4 : Fr b H' H4) (b4 : Bag H4 b (n0 + c * (i + 1))) (hs4 : P s) (hi : i < 100000) :
    ∃ acc, H4 D = some (.lst acc) ∧ acc.length < sizeLine ∧ PvP b D H1 n0 c P (i + 1) (upd H4 D (.lst (acc ++ [V.str s]))) := by
  obtain ⟨hD, n1, ys, hl, hs, hD', hF, hB'⟩ := p
  refine ⟨ys.map V.str, f4 D _ n1 hD', ?_, hD, n1, ys ++ [s], by rw [List.length_append, hl]; rfl, ?_, ?_, (hF.trans f4).upd_p hD, b4.upd n1.symm⟩
  · rw [List.length_map, hl]
    have : sizeLine = 16777216 := sizeLine_eq
    omega
  · intro x hx
    rcases List.mem_append.mp hx with h | h
    · exact hs x h
    · rw [List.mem_singleton.mp h]; exact hs4
  · rw [upd_same, List.map_append]; rfl
def One (s : Str) : Prop := ∃ c : Nat, s = ⟨#[c]⟩ ∧ 97 ≤ c ∧ c ≤ 122
theorem one_flat : ∀ {ys : List Str}, (∀ s ∈ ys, One s) → (ys.map tl).flatten.length = ys.length ∧ ∀ c ∈ (ys.map tl).flatten, 97 ≤ c ∧ c ≤ 122
  | [], _ => ⟨rfl, by simp⟩
  | y :: r, h => by
    obtain ⟨h1, h2⟩ := one_flat (ys := r) fun s hs => h s (List.mem_cons_of_mem _ hs)
    obtain ⟨c, rfl, c1, c2⟩ := h y List.mem_cons_self
    have e : tl (⟨#[c]⟩ : Str) = [c] := rfl
    rw [List.map_cons, List.flatten_cons, e]
    refine ⟨by rw [List.length_append, h1]; simp; omega, fun x hx => ?_⟩
    rcases List.mem_append.mp hx with q | q
    · rw [List.mem_singleton.mp q]; exact ⟨c1, c2⟩
    · exact h2 x q
def stepsL : List Int := [1, 3, 5, 7, 9, 11, 15, 17]
theorem step_ne {s : Int} (hs : s ∈ stepsL) {d : Nat} (h1 : 1 ≤ d) (h2 : d < 8) : s * (d : Int) % 26 ≠ 0 := by
  have h : (stepsL.all fun s => (List.range' 1 7).all fun d => decide (s * (d : Int) % 26 ≠ 0)) = true := by decide +kernel
  have h3 := List.all_eq_true.mp (List.all_eq_true.mp h s hs) d (by simp [List.mem_range']; exact ⟨d - 1, by omega, by omega⟩)
  exact of_decide_eq_true h3
theorem step_inj {f s : Int} (hs : s ∈ stepsL) {j k : Nat} (hjk : j < k) (hk : k < 8) : ((f + s * (j : Int)) % 26).toNat ≠ ((f + s * (k : Int)) % 26).toNat := by
  intro e
  have a1 := emod_in (f + s * (j : Int)) (m := 26) (by decide)
  have a2 := emod_in (f + s * (k : Int)) (m := 26) (by decide)
  have e2 : (f + s * (j : Int)) % 26 = (f + s * (k : Int)) % 26 := by omega
  have e3 : s * ((k - j : Nat) : Int) = s * (k : Int) - s * (j : Int) := by
    rw [← Int.mul_sub]
    congr 1
    omega
  refine step_ne hs (d := k - j) (by omega) (by omega) ?_
  rw [e3]
  omega
theorem nodup_of_key {α β : Type} {l : List α} (key : α → β) (h : ∀ (i j : Nat) (x y : α), i < j → l[i]? = some x → l[j]? = some y → key x ≠ key y) : l.Nodup := by
  rw [List.nodup_iff_pairwise_ne, List.pairwise_iff_getElem]
  intro i j hi hj hij e
  exact h i j _ _ hij (List.getElem?_eq_getElem hi) (List.getElem?_eq_getElem hj) (by rw [e])
/-- one after the other -/
def Each {α : Type} (T : Nat → α → Prop) (i : Nat) (zs : List α) : Prop := zs.length = i ∧ ∀ j y, zs[j]? = some y → T j y
theorem Each.nil {α : Type} {T : Nat → α → Prop} : Each T 0 [] := ⟨rfl, fun j y h => by simp at h⟩
theorem Each.snoc {α : Type} {T : Nat → α → Prop} {i : Nat} {zs : List α} {x : α} (h : Each T i zs) (hx : T i x) : Each T (i + 1) (zs ++ [x]) := by
  refine ⟨by rw [List.length_append, h.1]; rfl, fun j y hj => ?_⟩
  by_cases hl : j < zs.length
  · rw [List.getElem?_append_left hl] at hj
    exact h.2 j y hj
  · have ej : j = i := by
      have := (List.getElem?_eq_some_iff.mp hj).1
      rw [List.length_append, h.1] at this
      have h1 := h.1
      simp at this
      omega
    rw [List.getElem?_append_right (by have := h.1; omega), ej, h.1, Nat.sub_self] at hj
    cases hj
    rw [ej]; exact hx
theorem Each.mem {α : Type} {T : Nat → α → Prop} {P : α → Prop} {i : Nat} {zs : List α} (h : Each T i zs) (k : ∀ j y, j < i → T j y → P y) : ∀ y ∈ zs, P y := fun y hy => by
  obtain ⟨j, hj⟩ := List.getElem?_of_mem hy
  have := (List.getElem?_eq_some_iff.mp hj).1
  exact k j y (by rw [← h.1]; exact this) (h.2 j y hj)
theorem Each.nodup {α β : Type} {T : Nat → α → Prop} {i : Nat} {zs : List α} (h : Each T i zs) (key : α → β) (k : ∀ j j' y y', j < j' → j' < i → T j y → T j' y' → key y ≠ key y') : zs.Nodup :=
  nodup_of_key key fun j j' x y hlt hx hy => k j j' x y hlt (by have := (List.getElem?_eq_some_iff.mp hy).1; rw [← h.1]; exact this) (h.2 j x hx) (h.2 j' y hy)

end K62
namespace K62
open PySem PySem.Spec PyProof.Rows L2 TL
/-! ### names of four kinds -/
def ltr (f : Int) (k : Nat) : Nat := 97 + ((f + 5 * (k : Int)) % 26).toNat
theorem ltr_inj {f : Int} {j k : Nat} (h : j < k) (hk : k < 8) : ltr f j ≠ ltr f k := fun e => step_inj (f := f) (s := 5) (by decide) h hk (by unfold ltr at e; omega)
theorem ltr_ok (f : Int) (k : Nat) : 97 ≤ ltr f k ∧ ltr f k ≤ 122 := by
  have := emod_in (f + 5 * (k : Int)) (m := 26) (by decide)
  unfold ltr; omega
theorem name_of {y : Str} {g : List Nat} (e : tl y = g) (l1 : 1 ≤ g.length) (l8 : g.length ≤ 8) (h : ∀ c ∈ g, 97 ≤ c ∧ c ≤ 122) : NameOk y := ⟨by rw [e]; exact l1, by rw [e]; exact l8, by rw [e]; exact h⟩
def sp_names : Sp := fun vs H Q _ => ∃ (b : Addr) (n : Nat) (c : Nat), vs = [.ref b, .int (c : Int)] ∧ Bag H b n ∧ n + 120 ≤ 1000000 ∧ c ≤ 8 ∧
  ∀ (p : Addr) (ys : List Str) H', Stp [b] H H' → H p = none → H' p = some (.lst (ys.map V.str)) → ys.length = c → (∀ y ∈ ys, NameOk y) → ys.Nodup → Bag H' b (n + 20) → Q (.ref p) H'
theorem ok_l_names {P : Program} {w : World} {K : PySem.W.Frag} {mg : Str → Option Value} {base : Heap} (T : Txt P K mg) : FnOk P w K mg base CX0 3 T.f_l_names T.fd_l_names ["_law_box_here", "_law_many"] (sp_names) := by
  refine T.F_l_names.ok sc_l_names (fun vs H Q E h => ?_) (fun cdv A outer s H vs Q E hr h => ?_)
  · obtain ⟨_, _, _, rfl, _⟩ := h; rfl
  · obtain ⟨b, n, c, rfl, hB, hn, c8, q⟩ := h
    refine ⟨_, PSs.nox (pss_cons (ps_set (i := 2) sc_l_names.nd rfl (Or.inr rfl) pe_str)
      (pss_cons (ps_asg (pe_tup (pa_cons (pe_call (ok_l_take T) (hr.mono (by decide)) (by rfl) T.g_l_take T.F_l_take.kp (b_l_take T) .nil pass0 (pa_cons (pv 0) (pa_cons pe_int pa_nil))) (pa_cons (pe_call (ok_l_take T) (hr.mono (by decide)) (by rfl) T.g_l_take T.F_l_take.kp (b_l_take T) .nil pass0 (pa_cons (pv 0) (pa_cons pe_int pa_nil))) pa_nil))) (pg_tup rfl (pgs_cons (pg_name (i := 3) sc_l_names.nd rfl (Or.inr rfl)) (pgs_cons (pg_name (i := 4) sc_l_names.nd rfl (Or.inl rfl)) pgs_nil))))
      (pss_cons (ps_set (i := 5) sc_l_names.nd rfl (Or.inr rfl) (pe_join pe_str (pe_lc (own := [("_law_k", 7)]) (g := gName 7) rfl sc_l_names.nd (pi_range1 (by rfl) T.n_range (pa_cons pe_int pa_nil)) (blkOk_by (own := [("_law_k", 7)]) (N := N_l_names) (sc := defScope s_l_names) (by decide +kernel)) (fun _ _ _ _ _ => (pg_name (i := 7) sc_l_names.nd rfl (Or.inl rfl))) (fun _ _ _ _ _ => pts_nil) (fun _ _ _ _ _ => (pe_ix ix_str (pv 2) (pe_call (ok_l_take T) (hr.mono (by decide)) (by rfl) T.g_l_take T.F_l_take.kp (b_l_take T) .nil pass0 (pa_cons (pv 0) (pa_cons pe_int pa_nil))) (fun _ _ => rfl))))))
      (pss_cons (ps_setLc (i := 6) (own := [("_law_k", 7)]) (g := gName 7) rfl sc_l_names.nd rfl rfl (sw_true rfl rfl rfl (by decide +kernel)) (pi_range1 (by rfl) T.n_range (pa_cons (pv 1) pa_nil)) (blkOk_by (own := [("_law_k", 7)]) (N := N_l_names) (sc := defScope s_l_names) (by decide +kernel)) (fun _ _ _ _ _ => (pg_name (i := 7) sc_l_names.nd rfl (Or.inl rfl))) (fun _ _ _ _ _ => pts_nil) (fun _ _ _ _ _ => (pe_ix ix_str (pv 2) (pe_op op_mod (pe_op op_add (pv 3) (pe_op op_mul pe_int (pv 7))) pe_int) (fun _ _ => rfl))))
      (pss_cons (ps_if (pt_cmpR op_eq (pv 4) pe_int (nomark _)) (pss_one (ps_ret (pv 6))) pss_nil)
      (pss_cons (ps_if (pt_cmpR op_eq (pv 4) pe_int (nomark _)) (pss_one (ps_ret (pe_lc (own := [("_law_k", 7), ("_law_one", 8)]) (g := gTup K 2 (gCons (gName 7) (gCons (gName 8) gNil))) rfl sc_l_names.nd (pi_enum (by rfl) T.n_enumerate (pa_cons (pv 6) pa_nil)) (blkOk_by (own := [("_law_k", 7), ("_law_one", 8)]) (N := N_l_names) (sc := defScope s_l_names) (by decide +kernel)) (fun _ _ _ _ _ => (pg_tup rfl (pgs_cons (pg_name (i := 7) sc_l_names.nd rfl (Or.inl rfl)) (pgs_cons (pg_name (i := 8) sc_l_names.nd rfl (Or.inl rfl)) pgs_nil)))) (fun _ _ _ _ _ => pts_nil) (fun _ _ _ _ _ => (pe_op op_add_str (pv 8) (pe_slice sl_str (pv 5) po_none (po_some (pe_op op_mod (pv 7) pe_int)))))))) pss_nil)
      (pss_cons (ps_if (pt_cmpR op_eq (pv 4) pe_int (nomark _)) (pss_one (ps_ret (pe_lc (own := [("_law_k", 7), ("_law_one", 8)]) (g := gTup K 2 (gCons (gName 7) (gCons (gName 8) gNil))) rfl sc_l_names.nd (pi_enum (by rfl) T.n_enumerate (pa_cons (pv 6) pa_nil)) (blkOk_by (own := [("_law_k", 7), ("_law_one", 8)]) (N := N_l_names) (sc := defScope s_l_names) (by decide +kernel)) (fun _ _ _ _ _ => (pg_tup rfl (pgs_cons (pg_name (i := 7) sc_l_names.nd rfl (Or.inl rfl)) (pgs_cons (pg_name (i := 8) sc_l_names.nd rfl (Or.inl rfl)) pgs_nil)))) (fun _ _ _ _ _ => pts_nil) (fun _ _ _ _ _ => (pe_op op_add_str (pe_op op_add_str (pe_slice sl_str (pv 5) po_none (po_some pe_int)) (pv 8)) (pe_slice sl_str (pv 5) (po_some pe_int) (po_some (pe_op op_add pe_int (pe_op op_mod (pv 7) pe_int))))))))) pss_nil)
      (pss_one (ps_ret (pe_call (ok_l_mixed T) (hr.mono (by decide)) (by rfl) T.g_l_mixed T.F_l_mixed.kp (b_l_mixed T) .nil pass0 (pa_cons (pv 0) (pa_cons (pe_lc (own := [("_law_k", 7)]) (g := gName 7) rfl sc_l_names.nd (pi_range1 (by rfl) T.n_range (pa_cons (pv 1) pa_nil)) (blkOk_by (own := [("_law_k", 7)]) (N := N_l_names) (sc := defScope s_l_names) (by decide +kernel)) (fun _ _ _ _ _ => (pg_name (i := 7) sc_l_names.nd rfl (Or.inl rfl))) (fun _ _ _ _ _ => pts_nil) (fun _ _ _ _ _ => (pe_slice sl_str (pv 5) po_none (po_some (pe_op op_add (pv 7) pe_int))))) pa_nil)))))))))))), ?_⟩
    repeat (first | refine ⟨_, rfl, ?_⟩ | refine ⟨_, _, rfl, rfl, ?_⟩ | refine ⟨_, _, rfl, ?_⟩ | refine ⟨rfl, ?_⟩)
    refine ⟨b, _, _, rfl, hB, by omega, by decide, by decide, fun f H1 f1 b1 f0 f26 => ?_⟩
    repeat (first | refine ⟨_, rfl, ?_⟩ | refine ⟨_, _, rfl, rfl, ?_⟩ | refine ⟨_, _, rfl, ?_⟩ | refine ⟨rfl, ?_⟩)
    refine ⟨b, _, _, rfl, b1, by omega, by decide, by decide, fun way H2 f2 b2 w0 w4 => ?_⟩
    have s2 : Stp [b] H H2 := (f1.stp b1.some).trans (f2.stp b2.some)
    clear f1 f2 b1
    repeat (first | refine ⟨_, rfl, ?_⟩ | refine ⟨_, _, rfl, rfl, ?_⟩ | refine ⟨_, _, rfl, ?_⟩ | refine ⟨rfl, ?_⟩)
    refine ⟨lenk 2 rfl (by decide), fun t nt => ?_⟩
    have nb_t := Ne.symm (b2.ne nt)
    replace s2 := Stp.trans s2 (Stp.new (o := .tup [.int f, .int way]) nt)
    replace b2 := Bag.upd (o := .tup [.int f, .int way]) b2 (b2.ne nt)
    have h_t : upd H2 t (.tup [.int f, .int way]) t = some (.tup [.int f, .int way]) := upd_same
    generalize upd H2 t (.tup [.int f, .int way]) = H3 at s2 b2 h_t
    refine ⟨t, _, rfl, .inl (.inl h_t), rfl, _, _, rfl, _, _, rfl, rfl, ?_⟩
    repeat (first | refine ⟨_, rfl, ?_⟩ | refine ⟨_, _, rfl, rfl, ?_⟩ | refine ⟨_, _, rfl, ?_⟩ | refine ⟨rfl, ?_⟩)
    refine ⟨⟨_, rfl⟩, 8, rfl, by decide, by decide, fun D nD => lc_range (PvP b D H3 (n + 1 + 1) 1 One) (pvP_0 b2 nD) (fun i H' hi p => ⟨rfl, ?_⟩) (fun H4 p => ?_)⟩
    · obtain ⟨-, -, ys, -, -, -, -, hb'⟩ := _root_.id p
      refine ⟨_, rfl, _, rfl, b, _, 26, rfl, hb', by omega, by decide, by decide, fun d2 H5 f3 b3 d20 d21 => ?_⟩
      exact ⟨_, _, _, rfl, rfl, az_len, az_at d20 d21, pvP_put p f3 (b3.mono (by omega)) ⟨_, rfl, by omega, by omega⟩ (by omega)⟩
    obtain ⟨hD0, nDb, ys, hl, hs, hD, f3, b3⟩ := p
    obtain ⟨o1, o2⟩ := one_flat hs
    have hjs := join_size (a := Str.ofString "") (L := 1) (fun s hs' => by obtain ⟨c, rfl, _⟩ := hs s hs'; exact Nat.le_refl _) (n := 8) (A := 0) (by rw [hl]; decide) (by decide +kernel)
    refine ⟨_, D, ys, rfl, rfl, .inl (SqL.of hD), by omega, ?_⟩
    have hst := tl_join0 ys
    generalize Txt.join (Str.ofString "") ys = stem at hst
    generalize hSS : (ys.map tl).flatten = S at hst o1 o2
    have hS8 : S.length = 8 := by rw [o1, hl]; rfl
    have hsl : stem.length = 8 := by rw [len_tl, hst, hS8]
    have s4 : Stp [b] H H4 := s2.trans (f3.stp b3.some)
    have b4 : Bag H4 b (n + 10) := b3.mono (by rw [show (8 : Int).toNat = 8 from rfl]; omega)
    clear hjs hs hSS hD b3 b2 f3 s2 hD0 h_t
    have al : Alv [b] H4 := Alv.cons b4.some.choose_spec Alv.nil
    repeat (first | refine ⟨_, rfl, ?_⟩ | refine ⟨_, _, rfl, rfl, ?_⟩ | refine ⟨_, _, rfl, ?_⟩ | refine ⟨rfl, ?_⟩)
    refine ⟨by omega, by omega, fun U nU => ?_⟩
    refine lc_it walk_range (fun i H' => ∃ zs, Acc sStr U [b] [] H4 H' zs ∧ Each (fun k y => tl y = [ltr f k]) i zs) ⟨[], Acc.start al nU (by simp), Each.nil⟩ (fun _ _ _ _ => trivial) ?_ ?_
    · rintro i x Hx H6 hi ⟨zs, ac, ez⟩ ⟨rfl, rfl⟩
      refine ⟨wipe_in (by decide), ?_⟩
      repeat (first | refine ⟨_, rfl, ?_⟩ | refine ⟨_, _, rfl, rfl, ?_⟩ | refine ⟨_, _, rfl, ?_⟩ | refine ⟨rfl, ?_⟩)
      refine ⟨.inl ⟨by decide, by decide⟩, ?_⟩
      repeat (first | refine ⟨_, rfl, ?_⟩ | refine ⟨_, _, rfl, rfl, ?_⟩ | refine ⟨_, _, rfl, ?_⟩ | refine ⟨rfl, ?_⟩)
      refine ⟨by show (0 : Int) < 26; decide, ?_⟩
      have m1 := emod_in (f + 5 * (i : Int)) (m := 26) (by decide)
      refine ⟨_, _, _, rfl, rfl, az_len, az_at (by rw [Int.zero_add]; exact m1.1) (by rw [Int.zero_add]; exact m1.2), ?_⟩
      refine ac.put (y := (⟨#[97 + ((f + 5 * (0 + (i : Int))) % 26).toNat]⟩ : Str)) Stp.refl rfl (by rw [ez.1]; omega) (ez.snoc (by rw [Int.zero_add]; rfl))
    rintro H5 ⟨zs, ac, ez⟩
    rw [show ((c : Int)).toNat = c from Int.toNat_natCast c] at ez
    obtain ⟨U', eU, nUb, hU⟩ := Sh.strs ac.done
    cases eU
    have s5 := s4.trans (ac.st.wk Sb.nil)
    have b5 := b4.stp ac.st (by simp)
    have lz := ez.1
    have st45 := ac.st
    clear ac b4
    repeat (first | refine ⟨_, rfl, ?_⟩ | refine ⟨_, _, rfl, rfl, ?_⟩ | refine ⟨_, _, rfl, ?_⟩ | refine ⟨rfl, ?_⟩)
    have fin : ∀ {p : Addr} {G : Hp} {ws : List Str} {g : Nat → List Nat}, Stp [b] H5 G → H5 p = none → G p = some (.lst (ws.map V.str)) → Each (fun k y => tl y = g k) c ws → (∀ k, k < c → 1 ≤ (g k).length ∧ (g k).length ≤ 8 ∧ ∀ x ∈ g k, 97 ≤ x ∧ x ≤ 122) → (∀ j k, j < k → k < c → g j ≠ g k) → Bag G b (n + 20) → Q (.ref p) G := fun st np hp ea ok ne bg =>
      q _ _ _ (s5.trans st) (s5.none np) hp ea.1 (ea.mem fun j y hj e => name_of e (ok j hj).1 (ok j hj).2.1 (ok j hj).2.2) (ea.nodup (fun y => tl y) fun j k y y' hlt hk e e' => by rw [e, e']; exact ne j k hlt hk) bg
    have al5 := al.go st45
    refine ite2 (fun _ => ?_) (fun _ => ?_)
    · repeat (first | refine ⟨_, rfl, ?_⟩ | refine ⟨_, _, rfl, rfl, ?_⟩ | refine ⟨_, _, rfl, ?_⟩ | refine ⟨rfl, ?_⟩)
      refine q U zs H5 s5 (s4.none nU) hU lz (ez.mem fun j y hj e => name_of e (by simp) (by simp) (by intro x hx; rw [List.mem_singleton.mp hx]; exact ltr_ok f j)) (ez.nodup (fun y => tl y) fun j k y y' hlt hk e e' => by rw [e, e']; exact fun h => ltr_inj hlt (by omega) (List.cons.inj h).1) (b5.mono (by omega))
    have hzk : ∀ {k : Nat}, k < c → ∃ y, zs[k]? = some y ∧ tl y = [ltr f k] := fun {k} hk => by
      have hl : k < zs.length := by omega
      exact ⟨_, List.getElem?_eq_getElem hl, ez.2 k _ (List.getElem?_eq_getElem hl)⟩
    repeat (first | refine ⟨_, rfl, ?_⟩ | refine ⟨_, _, rfl, rfl, ?_⟩ | refine ⟨_, _, rfl, ?_⟩ | refine ⟨rfl, ?_⟩)
    refine ite2 (fun _ => ?_) (fun _ => ?_)
    · repeat (first | refine ⟨_, rfl, ?_⟩ | refine ⟨_, _, rfl, rfl, ?_⟩ | refine ⟨_, _, rfl, ?_⟩ | refine ⟨rfl, ?_⟩)
      refine ⟨U, _, rfl, SqL.of hU, fun D2 nD2 => ?_⟩
      refine lc_it (walk_enum (K := K) (a := U) (xs := zs.map V.str)) (fun i H' => ∃ ws, Acc sStr D2 [b] [] H5 H' ws ∧ Each (fun k y => tl y = ltr f k :: S.take (k % 8)) i ws) ⟨[], Acc.start al5 nD2 (by simp), Each.nil⟩ (fun i H' _ ⟨_, a, _⟩ => SqL.of (a.st.at hU (by simp))) ?_ ?_
      · rintro i x Hx H6 hi ⟨ws, ac, ew⟩ ⟨t, x1, x2, rfl, nt, rfl, e1, e2⟩
        rw [List.length_map] at hi
        cases e1
        obtain ⟨y, hy, ey⟩ := hzk (k := i) (by omega)
        have e2' : x2 = .str y := by
          replace e2 : (zs.map V.str)[i]? = some x2 := e2
          rw [List.getElem?_map, hy] at e2; cases e2; rfl
        subst e2'
        have st : Stp [] Hx (upd Hx t (.tup [.int (i : Nat), .str y])) := Stp.new nt
        refine ⟨t, _, rfl, .inl (.inl upd_same), rfl, _, _, rfl, _, _, rfl, rfl, (wipe_in (by decide)).trans (wipe_in (by decide)), ?_⟩
        repeat (first | refine ⟨_, rfl, ?_⟩ | refine ⟨_, _, rfl, rfl, ?_⟩ | refine ⟨_, _, rfl, ?_⟩ | refine ⟨rfl, ?_⟩)
        refine ⟨by show (0 : Int) < 8; decide, ?_⟩
        repeat (first | refine ⟨_, rfl, ?_⟩ | refine ⟨_, _, rfl, rfl, ?_⟩ | refine ⟨_, _, rfl, ?_⟩ | refine ⟨rfl, ?_⟩)
        have em : (i : Int) % 8 = ((i % 8 : Nat) : Int) := by omega
        show _ ≤ _ ∧ _
        rw [em]
        have e1 := tl_cut0 stem (i % 8)
        have l1 := cutS_length stem none (some ((i % 8 : Nat) : Int))
        have ly : y.length = 1 := by rw [len_tl, ey]; rfl
        refine ⟨slen (by omega), ?_⟩
        repeat (first | refine ⟨_, rfl, ?_⟩ | refine ⟨_, _, rfl, rfl, ?_⟩ | refine ⟨_, _, rfl, ?_⟩ | refine ⟨rfl, ?_⟩)
        refine ⟨slen (by omega), ?_⟩
        exact ac.put (y := y ++ cutS stem none (some ((i % 8 : Nat) : Int))) st rfl (by rw [ew.1]; omega) (ew.snoc (by rw [tl_append, ey, e1, hst]; rfl))
      rintro G ⟨ws, ac, ew⟩
      rw [List.length_map, lz] at ew
      obtain ⟨U', eU, _, hD2⟩ := Sh.strs ac.done
      cases eU
      refine fin (g := fun k => ltr f k :: S.take (k % 8)) (ac.st.wk Sb.nil) nD2 hD2 ew (fun k hk => ⟨by simp, by simp; omega, fun x hx => ?_⟩) (fun j k hlt hk h => ltr_inj hlt (by omega) (List.cons.inj h).1) ((b5.stp ac.st (by simp)).mono (by omega))
      rcases List.mem_cons.mp hx with h | h
      · rw [h]; exact ltr_ok f k
      · exact o2 x (List.mem_of_mem_take h)
    repeat (first | refine ⟨_, rfl, ?_⟩ | refine ⟨_, _, rfl, rfl, ?_⟩ | refine ⟨_, _, rfl, ?_⟩ | refine ⟨rfl, ?_⟩)
    refine ite2 (fun _ => ?_) (fun _ => ?_)
    · repeat (first | refine ⟨_, rfl, ?_⟩ | refine ⟨_, _, rfl, rfl, ?_⟩ | refine ⟨_, _, rfl, ?_⟩ | refine ⟨rfl, ?_⟩)
      refine ⟨U, _, rfl, SqL.of hU, fun D2 nD2 => ?_⟩
      refine lc_it (walk_enum (K := K) (a := U) (xs := zs.map V.str)) (fun i H' => ∃ ws, Acc sStr D2 [b] [] H5 H' ws ∧ Each (fun k y => tl y = S.take 5 ++ ltr f k :: (S.drop 5).take (k % 3)) i ws) ⟨[], Acc.start al5 nD2 (by simp), Each.nil⟩ (fun i H' _ ⟨_, a, _⟩ => SqL.of (a.st.at hU (by simp))) ?_ ?_
      · rintro i x Hx H6 hi ⟨ws, ac, ew⟩ ⟨t, x1, x2, rfl, nt, rfl, e1, e2⟩
        rw [List.length_map] at hi
        cases e1
        obtain ⟨y, hy, ey⟩ := hzk (k := i) (by omega)
        have e2' : x2 = .str y := by
          replace e2 : (zs.map V.str)[i]? = some x2 := e2
          rw [List.getElem?_map, hy] at e2; cases e2; rfl
        subst e2'
        have st : Stp [] Hx (upd Hx t (.tup [.int (i : Nat), .str y])) := Stp.new nt
        refine ⟨t, _, rfl, .inl (.inl upd_same), rfl, _, _, rfl, _, _, rfl, rfl, (wipe_in (by decide)).trans (wipe_in (by decide)), ?_⟩
        repeat (first | refine ⟨_, rfl, ?_⟩ | refine ⟨_, _, rfl, rfl, ?_⟩ | refine ⟨_, _, rfl, ?_⟩ | refine ⟨rfl, ?_⟩)
        have ly : y.length = 1 := by rw [len_tl, ey]; rfl
        have l1 := cutS_length stem none (some 5)
        have e1 : tl (cutS stem none (some 5)) = (tl stem).take 5 := tl_cut0 stem 5
        have em : (5 : Int) + (i : Int) % 3 = ((5 + i % 3 : Nat) : Int) := by omega
        have e2 : tl (cutS stem (some 5) (some ((5 + i % 3 : Nat) : Int))) = ((tl stem).drop 5).take (i % 3) := by
          have := tl_cut2 stem 5 (5 + i % 3) (by rw [hst, hS8]; decide)
          rw [Nat.add_sub_cancel_left] at this
          exact this
        have l2 := cutS_length stem (some 5) (some ((5 + i % 3 : Nat) : Int))
        refine ⟨slen (by omega), ?_⟩
        repeat (first | refine ⟨_, rfl, ?_⟩ | refine ⟨_, _, rfl, rfl, ?_⟩ | refine ⟨_, _, rfl, ?_⟩ | refine ⟨rfl, ?_⟩)
        refine ⟨slen (by omega), ?_⟩
        repeat (first | refine ⟨_, rfl, ?_⟩ | refine ⟨_, _, rfl, rfl, ?_⟩ | refine ⟨_, _, rfl, ?_⟩ | refine ⟨rfl, ?_⟩)
        refine ⟨by show (0 : Int) < 3; decide, ?_⟩
        repeat (first | refine ⟨_, rfl, ?_⟩ | refine ⟨_, _, rfl, rfl, ?_⟩ | refine ⟨_, _, rfl, ?_⟩ | refine ⟨rfl, ?_⟩)
        show _ ≤ _ ∧ _
        rw [em]
        refine ⟨slen (by omega), ?_⟩
        repeat (first | refine ⟨_, rfl, ?_⟩ | refine ⟨_, _, rfl, rfl, ?_⟩ | refine ⟨_, _, rfl, ?_⟩ | refine ⟨rfl, ?_⟩)
        refine ⟨slen (by rw [app_len]; omega), ?_⟩
        exact ac.put (y := (cutS stem none (some 5) ++ y) ++ cutS stem (some 5) (some ((5 + i % 3 : Nat) : Int))) st rfl (by rw [ew.1]; omega) (ew.snoc (by rw [tl_append, tl_append, ey, e1, e2, hst]; simp))
      rintro G ⟨ws, ac, ew⟩
      rw [List.length_map, lz] at ew
      obtain ⟨U', eU, _, hD2⟩ := Sh.strs ac.done
      cases eU
      refine fin (g := fun k => S.take 5 ++ ltr f k :: (S.drop 5).take (k % 3)) (ac.st.wk Sb.nil) nD2 hD2 ew (fun k hk => ⟨by simp; omega, by simp [hS8]; omega, fun x hx => ?_⟩) (fun j k hlt hk h => ?_) ((b5.stp ac.st (by simp)).mono (by omega))
      · rcases List.mem_append.mp hx with h | h
        · exact o2 x (List.mem_of_mem_take h)
        · rcases List.mem_cons.mp h with h | h
          · rw [h]; exact ltr_ok f k
          · exact o2 x (List.mem_of_mem_drop (List.mem_of_mem_take h))
      · have h5 := (List.append_inj h rfl).2
        exact ltr_inj hlt (by omega) (List.cons.inj h5).1
    repeat (first | refine ⟨_, rfl, ?_⟩ | refine ⟨_, _, rfl, rfl, ?_⟩ | refine ⟨_, _, rfl, ?_⟩ | refine ⟨rfl, ?_⟩)
    refine ⟨by omega, by omega, fun D2 nD2 => ?_⟩
    refine lc_it walk_range (fun i H' => ∃ ws, Acc sStr D2 [b] [] H5 H' ws ∧ Each (fun k y => tl y = S.take (k + 1)) i ws) ⟨[], Acc.start al5 nD2 (by simp), Each.nil⟩ (fun _ _ _ _ => trivial) ?_ ?_
    · rintro i x Hx H6 hi ⟨ws, ac, ew⟩ ⟨rfl, rfl⟩
      refine ⟨wipe_in (by decide), ?_⟩
      repeat (first | refine ⟨_, rfl, ?_⟩ | refine ⟨_, _, rfl, rfl, ?_⟩ | refine ⟨_, _, rfl, ?_⟩ | refine ⟨rfl, ?_⟩)
      have em : (0 : Int) + (i : Int) + 1 = ((i + 1 : Nat) : Int) := by omega
      show _ ≤ _ ∧ _
      rw [em]
      have e1 := tl_cut0 stem (i + 1)
      refine ⟨slen (by omega), ?_⟩
      exact ac.put (y := cutS stem none (some ((i + 1 : Nat) : Int))) Stp.refl rfl (by rw [ew.1]; omega) (ew.snoc (by rw [e1, hst]))
    rintro G ⟨ws, ac, ew⟩
    rw [show ((c : Int)).toNat = c from Int.toNat_natCast c] at ew
    obtain ⟨U', eU, _, hD2⟩ := Sh.strs ac.done
    cases eU
    have bG := b5.stp ac.st (by simp)
    repeat (first | refine ⟨_, rfl, ?_⟩ | refine ⟨_, _, rfl, rfl, ?_⟩ | refine ⟨_, _, rfl, ?_⟩ | refine ⟨rfl, ?_⟩)
    refine ⟨b, D2, _, _, rfl, bG, by omega, SqL.of hD2, by rw [List.length_map, ew.1]; omega, fun D3 zz H9 s9 nD3 hD3 pz b9 => ?_⟩
    obtain ⟨ms, pm, pd⟩ := pperm (F := fun (v : V) (s : Str) => v = .str s) pz (pd_map V.str (l := ws) fun _ _ => rfl)
    have ezz : zz = ms.map V.str := by
      clear pm pz hD3
      induction pd with
      | nil => rfl
      | cons e t ih => rw [e, ih]; rfl
    subst ezz
    have sG : Stp [b] H5 G := ac.st.wk Sb.nil
    have nmw : ∀ y ∈ ws, NameOk y := ew.mem fun j y hj e => name_of e (by rw [List.length_take, hS8]; omega) (by rw [List.length_take, hS8]; omega) fun x hx => o2 x (List.mem_of_mem_take hx)
    have ndw : ws.Nodup := ew.nodup (fun y => (tl y).length) fun j k y y' hlt hk e e' => by rw [e, e', List.length_take, List.length_take, hS8]; omega
    exact q D3 ms H9 ((s5.trans sG).trans s9) (s5.none (sG.none nD3)) hD3 (by rw [pm.length_eq, ew.1]) (fun y hy => nmw y (pm.mem_iff.mp hy)) (pm.nodup_iff.mpr ndw) (b9.mono (by rw [List.length_map, ew.1]; omega))

end K62
namespace K62
open PySem PySem.Spec PyProof.Rows L2 TL
/-! ### whether an event occurs together with a bad tuple (either answer) -/
theorem zip_kv (sc : List Str) : (sc.map (Sum.inr : Str → Key)).map kV = sc.map V.str := by rw [List.map_map]; rfl
theorem zip_sub {α β : Type} : ∀ (l : List α) (m : List β), ((l.zip m).map (·.1)).Sublist l
  | [], _ => by simp
  | _ :: _, [] => by simp
  | a :: l, b :: m => by rw [List.zip_cons_cons, List.map_cons]; exact (zip_sub l m).cons₂ a
theorem merge_zip {sc : List Str} {ys : List V} (nd : sc.Nodup) : mergeK [] ((sc.map (Sum.inr : Str → Key)).zip ys) = (sc.map Sum.inr).zip ys := by
  rw [merge_new _ [] ?_ (fun _ _ h => by cases h), List.nil_append]
  exact List.Nodup.sublist (zip_sub _ _) (inr_nodup nd)
theorem zip_int {sc : List Str} {ns : List Int} {k : Key} {v : V} (h : valV ((sc.map (Sum.inr : Str → Key)).zip (ns.map V.int)) k = some v) : ∃ i, v = .int i := by
  unfold valV at h
  obtain ⟨q, hq, rfl⟩ := Option.map_eq_some_iff.mp h
  have hm := List.mem_of_find?_eq_some hq
  obtain ⟨i, _, e⟩ := List.mem_map.mp (List.of_mem_zip hm).2
  exact ⟨i, e.symm⟩
def sp_agree : Sp := fun vs H Q _ => ∃ (v1 v2 v3 : V) (sc : List Str) (ns : List Int) (r : Row), vs = [v1, v2, v3] ∧ (sL sStr).at [] H v1 sc ∧ (sT sInt).at [] H v2 ns ∧ sRow.at [] H v3 r ∧ sc.Nodup ∧ sc.length ≤ 8 ∧ r.2.1.length ≤ 8 ∧ r.2.2.length ≤ 20 ∧ (∀ x ∈ r.2.1, NameOk x) ∧ ∀ c H', Same H H' → Q (.bl c) H'
theorem nm_shaped {zs : List Str} (h : ∀ x ∈ zs, NameOk x) : SeqAt.shaped (.list (zs.map PyData.str)) = true := (Shd.list (k := 0) fun d hd => by
  obtain ⟨s, hs, rfl⟩ := List.mem_map.mp hd
  exact Shd.str (h s hs)).shaped (by decide)
theorem nil_shaped : SeqAt.shaped (.list []) = true := (Shd.list (k := 0) all0).shaped (by decide)
theorem eqv_nil (us : List Str) : PyData.eqv (.list (us.map PyData.str)) (.list []) = decide (us = []) := by
  have h := eqv_mapI PyData.str eqv_s2 us []
  rw [List.map_nil] at h
  exact h
theorem ok_l_agree {P : Program} {w : World} {K : PySem.W.Frag} {mg : Str → Option Value} {base : Heap} (T : Txt P K mg) : FnOk P w K mg base CX0 1 T.f_l_agree T.fd_l_agree ["_law_scope", "_law_bad", "_law_other"] (sp_agree) := by
  refine T.F_l_agree.ok sc_l_agree (fun vs H Q E h => ?_) (fun cdv A outer s H vs Q E hr h => ?_)
  · obtain ⟨_, _, _, _, _, _, rfl, _⟩ := h; rfl
  · obtain ⟨v1, v2, v3, sc, ns, r, rfl, h1, h2, h3, nd, l8, r8, b20, nm, q⟩ := h
    obtain ⟨a1, e1, -, hA⟩ := Sh.strs h1
    obtain ⟨a2, e2, -, hN⟩ := Sh.tints h2
    obtain ⟨t, i1, i2, i3, e3, -, ht, -, hS, ⟨c, cs, ec, -, hC, pdC⟩⟩ := h3
    obtain ⟨a, ea, -, hS2⟩ := Sh.strs hS
    clear hS
    have hS := hS2
    subst e1 e2 e3 ec ea
    have lc := plen pdC
    refine ⟨_, PSs.nox (pss_cons (ps_set (i := 3) sc_l_agree.nd rfl (Or.inr rfl) (show PE _ _ (tDictZip K _) from pe_dictZip (by rfl) (by rfl) T.n_dict (by decide +kernel) (by rfl) T.n_zip (pa_cons (pv 0) (pa_cons (pv 1) pa_nil))))
      (pss_cons (ps_if (pt_cmpR (show OpR _ (compareOp .Eq) (rEqD K) from op_eqD hr.units) (pe_lc (own := [("_law_name", 5)]) (g := gName 5) rfl sc_l_agree.nd (pi_list (pe_ix (show IxR _ (rIxT K) from ix_tup) (pv 2) pe_int (fun _ _ => rfl))) (blkOk_by (own := [("_law_name", 5)]) (N := N_l_agree) (sc := defScope s_l_agree) (by decide +kernel)) (fun _ _ _ _ _ => (pg_name (i := 5) sc_l_agree.nd rfl (Or.inl rfl))) (fun _ _ _ _ _ => pts_one (pt_cmp (pc_din (hu_of hr) (pv 5) (pv 3)))) (fun _ _ _ _ _ => (pv 5))) (pe_lst pa_nil) (nomark _)) (pss_one (ps_ret pe_bl)) pss_nil)
      (pss_cons (ps_for PassesOwn.never rfl (pi_list (pe_ix (show IxR _ (rIxT K) from ix_tup) (pv 2) pe_int (fun _ _ => rfl))) (pg_name (i := 4) sc_l_agree.nd rfl (Or.inl rfl)) (pss_one (ps_if (pt_cmpR (show OpR _ (compareOp .Eq) (rEqD K) from op_eqD hr.units) (pe_lc (own := [("_law_name", 5), ("_law_value", 6)]) (g := gTup K 2 (gCons (gName 5) (gCons (gName 6) gNil))) rfl sc_l_agree.nd (pi_zipN (by rfl) T.n_zip (pa_cons (pe_ix (show IxR _ (rIxT K) from ix_tup) (pv 2) pe_int (fun _ _ => rfl)) (pa_cons (pv 4) pa_nil))) (blkOk_by (own := [("_law_name", 5), ("_law_value", 6)]) (N := N_l_agree) (sc := defScope s_l_agree) (by decide +kernel)) (fun _ _ _ _ _ => (pg_tup rfl (pgs_cons (pg_name (i := 5) sc_l_agree.nd rfl (Or.inl rfl)) (pgs_cons (pg_name (i := 6) sc_l_agree.nd rfl (Or.inl rfl)) pgs_nil)))) (fun _ _ _ _ _ => pts_one (pt_cmpR op_ne (pe_dget2 (hu_of hr) (pv 3) (pv 5) (pv 6) ⟨rfl, rfl, rfl, rfl⟩) (pv 6) (nomark _))) (fun _ _ _ _ _ => (pv 5))) (pe_lst pa_nil) (nomark _)) (pss_one (ps_ret pe_bl)) pss_nil)))
      (pss_one (ps_ret pe_bl))))), ?_⟩
    repeat (first | refine ⟨_, rfl, ?_⟩ | refine ⟨_, _, rfl, rfl, ?_⟩ | refine ⟨_, _, rfl, ?_⟩ | refine ⟨rfl, ?_⟩)
    refine ⟨a1, a2, sc.map Sum.inr, _, rfl, by rw [zip_kv]; exact SqL.of hA, .inl (.inl hN), fun dq nq => ?_⟩
    rw [merge_zip nd]
    generalize hkv : (sc.map (Sum.inr : Str → Key)).zip (ns.map V.int) = kvs at *
    have s1 : Same H (upd H dq (.dK kvs)) := Same.new nq
    have hq : upd H dq (.dK kvs) dq = some (.dK kvs) := upd_same
    generalize upd H dq (.dK kvs) = H1 at s1 hq
    repeat (first | refine ⟨_, rfl, ?_⟩ | refine ⟨_, _, rfl, rfl, ?_⟩ | refine ⟨_, _, rfl, ?_⟩ | refine ⟨rfl, ?_⟩)
    refine ⟨t, _, (1 : Int), _, rfl, rfl, .inl (.inl (s1 _ _ ht)), atI_nat (j := 1) rfl, ?_⟩
    refine ⟨a, rfl, ⟨_, SqL.of (s1 _ _ hS)⟩, fun U nU => ?_⟩
    refine lc_it (walk_list (K := K) (a := a) (xs := r.2.1.map V.str)) (fun i H' => ∃ zs, Acc sStr U [] [] H1 H' zs ∧ (zs.length ≤ i ∧ ∀ z ∈ zs, NameOk z)) ⟨[], Acc.start Alv.nil nU (by simp), Nat.le_refl _, fun _ h => by cases h⟩ (fun i H' _ ⟨_, a, _⟩ => SqL.of (a.st.same _ _ (s1 _ _ hS))) ?_ ?_
    · rintro i x Hx H6 hi ⟨zs, ac, lz, ok⟩ ⟨rfl, hx⟩
      obtain ⟨le, rfl⟩ := str_at' hx
      rw [List.length_map] at hi
      refine ⟨wipe_in (by decide), ?_⟩
      repeat (first | refine ⟨_, rfl, ?_⟩ | refine ⟨_, _, rfl, rfl, ?_⟩ | refine ⟨_, _, rfl, ?_⟩ | refine ⟨rfl, ?_⟩)
      refine ⟨dq, _, rfl, DGet.k (k := Sum.inr r.2.1[i]) (ac.st.same _ _ hq), ?_⟩
      repeat (first | refine ⟨_, rfl, ?_⟩ | refine ⟨_, _, rfl, rfl, ?_⟩ | refine ⟨_, _, rfl, ?_⟩ | refine ⟨rfl, ?_⟩)
      refine ite2 (fun _ => ?_) (fun _ => ⟨zs, ac, by omega, ok⟩)
      repeat (first | refine ⟨_, rfl, ?_⟩ | refine ⟨_, _, rfl, rfl, ?_⟩ | refine ⟨_, _, rfl, ?_⟩ | refine ⟨rfl, ?_⟩)
      refine ac.put (y := r.2.1[i]) (R := fun zs => zs.length ≤ i + 1 ∧ ∀ z ∈ zs, NameOk z) Stp.refl rfl (by omega) ⟨by simp; omega, fun z hz => ?_⟩
      rcases List.mem_append.mp hz with h | h
      · exact ok z h
      · rw [List.mem_singleton.mp h]; exact nm _ (List.getElem_mem le)
    rintro H2 ⟨zs, ac, lz, ok⟩
    obtain ⟨U', eU, -, hU⟩ := Sh.strs ac.done
    cases eU
    have s2 := s1.trans ac.st.same
    have hq2 := ac.st.same _ _ hq
    refine ⟨Nat.zero_le _, fun e1 ne1 => ?_⟩
    have k1 : Same H2 (upd H2 e1 (.lst [])) := Same.new ne1
    have he1 : upd H2 e1 (.lst []) e1 = some (.lst []) := upd_same
    generalize upd H2 e1 (.lst []) = H3 at k1 he1
    refine ⟨.list (zs.map PyData.str), .list [], .lst (SqL.of (k1 _ _ hU)) (dp_strs _), .lst (SqL.of he1) .nil, nm_shaped ok, nil_shaped, ?_⟩
    rw [eqv_nil]
    repeat (first | refine ⟨_, rfl, ?_⟩ | refine ⟨_, _, rfl, rfl, ?_⟩ | refine ⟨_, _, rfl, ?_⟩ | refine ⟨rfl, ?_⟩)
    have s3 := s2.trans k1
    have hq3 := k1 _ _ hq2
    refine ite2 (fun _ => ?_) (fun _ => ?_)
    · repeat (first | refine ⟨_, rfl, ?_⟩ | refine ⟨_, _, rfl, rfl, ?_⟩ | refine ⟨_, _, rfl, ?_⟩ | refine ⟨rfl, ?_⟩)
      exact q _ _ s3
    repeat (first | refine ⟨_, rfl, ?_⟩ | refine ⟨_, _, rfl, rfl, ?_⟩ | refine ⟨_, _, rfl, ?_⟩ | refine ⟨rfl, ?_⟩)
    refine ⟨t, _, (2 : Int), _, rfl, rfl, .inl (.inl (s3 _ _ ht)), atI_nat (j := 2) rfl, ?_⟩
    refine ⟨c, rfl, ⟨_, SqL.of (s3 _ _ hC)⟩, for_it (walk_list (K := K) (a := c) (xs := cs)) (fun i σ H' => ∃ y4, σ = [some (.ref a1), some (.ref a2), some (.ref t), some (.ref dq), y4, none, none] ∧ Same H3 H') ⟨_, rfl, Same.refl _⟩ (fun i σ H' _ ⟨_, _, k⟩ => SqL.of (k _ _ (s3 _ _ hC))) ?_ ?_⟩
    · rintro i x σ Hx H4 hi ⟨y4, rfl, s4⟩ ⟨rfl, hx⟩
      obtain ⟨ms, hms, hm⟩ := pget' pdC hx
      obtain ⟨tm, etm, -, htm⟩ := Sh.tints hm
      subst etm
      have s4' := s3.trans s4
      repeat (first | refine ⟨_, rfl, ?_⟩ | refine ⟨_, _, rfl, rfl, ?_⟩ | refine ⟨_, _, rfl, ?_⟩ | refine ⟨rfl, ?_⟩)
      refine ⟨t, _, (1 : Int), _, rfl, rfl, .inl (.inl (s4' _ _ ht)), atI_nat (j := 1) rfl, ?_⟩
      repeat (first | refine ⟨_, rfl, ?_⟩ | refine ⟨_, _, rfl, rfl, ?_⟩ | refine ⟨_, _, rfl, ?_⟩ | refine ⟨rfl, ?_⟩)
      refine ⟨a, tm, _, _, rfl, SqL.of (s4' _ _ hS), .inl (.inl (s4' _ _ htm)), fun W nW => ?_⟩
      refine lc_it walk_zipN (fun i H' => ∃ zs, Acc sStr W [] [] H4 H' zs ∧ (zs.length ≤ i ∧ ∀ z ∈ zs, NameOk z)) ⟨[], Acc.start Alv.nil nW (by simp), Nat.le_refl _, fun _ h => by cases h⟩ (fun i H' _ ⟨_, a, _⟩ => ⟨SqL.of (a.st.same _ _ (s4' _ _ hS)), .inl (.inl (a.st.same _ _ (s4' _ _ htm)))⟩) ?_ ?_
      · rintro k x Hx H6 hk ⟨zs, ac, lz, ok⟩ ⟨T1, x1, x2, rfl, nT, rfl, ex1, ex2⟩
        obtain ⟨le, rfl⟩ := str_at' ex1
        have hx2 : ∃ v, x2 = .int v := by
          replace ex2 : (ms.map V.int)[k]? = some x2 := ex2
          rw [List.getElem?_map] at ex2
          obtain ⟨v, _, e⟩ := Option.map_eq_some_iff.mp ex2
          exact ⟨v, e.symm⟩
        obtain ⟨v, rfl⟩ := hx2
        have st : Stp [] Hx (upd Hx T1 (.tup [.str r.2.1[k], .int v])) := Stp.new nT
        refine ⟨T1, _, rfl, .inl (.inl upd_same), rfl, _, _, rfl, _, _, rfl, rfl, (wipe_in (by decide)).trans (wipe_in (by decide)), ?_⟩
        repeat (first | refine ⟨_, rfl, ?_⟩ | refine ⟨_, _, rfl, rfl, ?_⟩ | refine ⟨_, _, rfl, ?_⟩ | refine ⟨rfl, ?_⟩)
        have hqx := st.same _ _ (ac.st.same _ _ (s4 _ _ hq3))
        refine ⟨.inl ⟨_, .inl hqx⟩, ?_⟩
        repeat (first | refine ⟨_, rfl, ?_⟩ | refine ⟨_, _, rfl, rfl, ?_⟩ | refine ⟨_, _, rfl, ?_⟩ | refine ⟨rfl, ?_⟩)
        refine ⟨_, DGet.k (k := Sum.inr r.2.1[k]) hqx, ?_⟩
        have hint : ∃ i, (valV kvs (Sum.inr r.2.1[k])).getD (.int v) = .int i := by
          cases e : valV kvs (Sum.inr r.2.1[k]) with
          | none => exact ⟨v, rfl⟩
          | some u =>
            rw [← hkv] at e
            exact zip_int e
        obtain ⟨u, hu⟩ := hint
        rw [hu]
        repeat (first | refine ⟨_, rfl, ?_⟩ | refine ⟨_, _, rfl, rfl, ?_⟩ | refine ⟨_, _, rfl, ?_⟩ | refine ⟨rfl, ?_⟩)
        refine ite2 (fun _ => ?_) (fun _ => ⟨zs, ac.go st, by omega, ok⟩)
        repeat (first | refine ⟨_, rfl, ?_⟩ | refine ⟨_, _, rfl, rfl, ?_⟩ | refine ⟨_, _, rfl, ?_⟩ | refine ⟨rfl, ?_⟩)
        refine ac.put (y := r.2.1[k]) (R := fun zs => zs.length ≤ k + 1 ∧ ∀ z ∈ zs, NameOk z) st rfl (by rw [List.length_map, List.length_map] at hk; omega) ⟨by simp; omega, fun z hz => ?_⟩
        rcases List.mem_append.mp hz with h | h
        · exact ok z h
        · rw [List.mem_singleton.mp h]; exact nm _ (List.getElem_mem le)
      rintro H5 ⟨zs, ac, lz, ok⟩
      obtain ⟨U', eU, -, hU⟩ := Sh.strs ac.done
      cases eU
      refine ⟨Nat.zero_le _, fun e2 ne2 => ?_⟩
      have k2 : Same H5 (upd H5 e2 (.lst [])) := Same.new ne2
      have he2 : upd H5 e2 (.lst []) e2 = some (.lst []) := upd_same
      generalize upd H5 e2 (.lst []) = H6 at k2 he2
      refine ⟨.list (zs.map PyData.str), .list [], .lst (SqL.of (k2 _ _ hU)) (dp_strs _), .lst (SqL.of he2) .nil, nm_shaped ok, nil_shaped, ?_⟩
      rw [eqv_nil]
      repeat (first | refine ⟨_, rfl, ?_⟩ | refine ⟨_, _, rfl, rfl, ?_⟩ | refine ⟨_, _, rfl, ?_⟩ | refine ⟨rfl, ?_⟩)
      refine ite2 (fun _ => ?_) (fun _ => ?_)
      · repeat (first | refine ⟨_, rfl, ?_⟩ | refine ⟨_, _, rfl, rfl, ?_⟩ | refine ⟨_, _, rfl, ?_⟩ | refine ⟨rfl, ?_⟩)
        exact q _ _ ((s4'.trans ac.st.same).trans k2)
      · exact ⟨_, rfl, (s4.trans ac.st.same).trans k2⟩
    · rintro σ H4 ⟨y4, rfl, s4⟩
      repeat (first | refine ⟨_, rfl, ?_⟩ | refine ⟨_, _, rfl, rfl, ?_⟩ | refine ⟨_, _, rfl, ?_⟩ | refine ⟨rfl, ?_⟩)
      exact q _ _ (s3.trans s4)

end K62
namespace K62
open PySem PySem.Spec PyProof.Rows L2 TL
/-! ### bad tuples: distinct tuples of values of a scope -/
def okVals (L : List (Str × Int)) (sc : List Str) (ns : List Int) : Prop := ns.length = sc.length ∧ ∀ (i : Nat) (x : Str) (v : Int), sc[i]? = some x → ns[i]? = some v → 0 ≤ v ∧ v < sizeOf L x
def sp_bads : Sp := fun vs H Q _ => ∃ (M : List Addr) (b : Addr) (n : Nat) (v1 v2 v3 : V) (L : List (Str × Int)) (sc : List Str) (R : List Row), vs = [.ref b, v1, v2, v3] ∧ b ∈ M ∧ Alv M H ∧ Bag H b n ∧ n + 70 ≤ 1000000 ∧
  (∃ d, v1 = .ref d ∧ d ∉ M ∧ H d = some (.dK (kvL L))) ∧ VarsOk L ∧ (sL sStr).at M H v2 sc ∧ sc.Nodup ∧ sc.length ≤ 4 ∧ (∀ x ∈ sc, x ∈ L.map (·.1)) ∧ (sL sRow).at [b] H v3 R ∧ EvsOk L R ∧
  ∀ (v : V) (bad : List (List Int)) H', Stp [b] H H' → sBad.at M H' v bad → bad.length ≤ 12 → bad.Nodup → (∀ ns ∈ bad, okVals L sc ns) → Bag H' b (n + 70) → Q v H'
theorem ok_l_bads {P : Program} {w : World} {K : PySem.W.Frag} {mg : Str → Option Value} {base : Heap} (T : Txt P K mg) : FnOk P w K mg base CX0 2 T.f_l_bads T.fd_l_bads ["_law_box_here", "_law_sizes", "_law_scope", "_law_rest"] (sp_bads) := by
  refine T.F_l_bads.ok sc_l_bads (fun vs H Q E h => ?_) (fun cdv A outer s H vs Q E hr h => ?_)
  · obtain ⟨_, _, _, _, _, _, _, _, _, rfl, _⟩ := h; rfl
  · obtain ⟨M, b, n, v1, v2, v3, L, sc, R, rfl, hb, al, hB, hn, ⟨d, rfl, nd, hd⟩, okL, h2, ndS, l4, sub, h3, okR, q⟩ := h
    have hSc := h2
    obtain ⟨a, rfl, na, ha⟩ := Sh.strs h2
    have hR0 := h3
    obtain ⟨r, ys, rfl, nr, hr0, pdR⟩ := h3
    have r8 := okR.few
    have lys := plen pdR
    refine ⟨_, PSs.nox (pss_cons (ps_set (i := 4) sc_l_bads.nd rfl (Or.inl rfl) (pe_lst pa_nil))
      (pss_cons (ps_for PassesOwn.never rfl (pi_range1 (by rfl) T.n_range (pa_cons (pe_call (ok_l_take T) (hr.mono (by decide)) (by rfl) T.g_l_take T.F_l_take.kp (b_l_take T) .nil pass0 (pa_cons (pv 0) (pa_cons pe_int pa_nil))) pa_nil)) (pg_name (i := 5) sc_l_bads.nd rfl (Or.inl rfl)) (pss_cons (ps_set (i := 6) sc_l_bads.nd rfl (Or.inr rfl) (pe_callTy (show CallR _ _ (rTupOf K) from call_tuple_of) (by rfl) T.n_tuple (by decide +kernel) (pa_cons (pe_lc (own := [("_law_name", 7)]) (g := gName 7) rfl sc_l_bads.nd (pi_list (pv 2)) (blkOk_by (own := [("_law_name", 7)]) (N := N_l_bads) (sc := defScope s_l_bads) (by decide +kernel)) (fun _ _ _ _ _ => (pg_name (i := 7) sc_l_bads.nd rfl (Or.inl rfl))) (fun _ _ _ _ _ => pts_nil) (fun _ _ _ _ _ => (pe_call (ok_l_take T) (hr.mono (by decide)) (by rfl) T.g_l_take T.F_l_take.kp (b_l_take T) .nil pass0 (pa_cons (pv 0) (pa_cons (pe_dget (hu_of hr) (pv 1) (pv 7) (fun _ _ => rfl)) pa_nil))))) pa_nil)))
      (pss_one (ps_if (PW.pt (pw_and (pt_cmpR (show OpR _ (compareOp .NotIn) (rNotInD K) from op_notInD (hu65 hr)) (pv 6) (pv 4) (by first | rfl | with_unfolding_all rfl)) (pw_and1 (pt_cmpR (show OpR _ (compareOp .Eq) (rEqD K) from op_eqD hr.units) (pe_lc (own := [("_law_row", 8)]) (g := gName 8) rfl sc_l_bads.nd (pi_list (pv 3)) (blkOk_by (own := [("_law_row", 8)]) (N := N_l_bads) (sc := defScope s_l_bads) (by decide +kernel)) (fun _ _ _ _ _ => (pg_name (i := 8) sc_l_bads.nd rfl (Or.inl rfl))) (fun _ _ _ _ _ => pts_one (pt_val (pe_call (ok_l_agree T) (hr.mono (by decide)) (by rfl) T.g_l_agree T.F_l_agree.kp (b_l_agree T) .nil pass0 (pa_cons (pv 2) (pa_cons (pv 6) (pa_cons (pv 8) pa_nil)))))) (fun _ _ _ _ _ => (pv 8))) (pe_lst pa_nil) (nomark _))))) (pss_one (ps_expr (pe_bm PySem.F.plainAttrs_list PySem.F.slot_list_append PySem.F.type_list_append mt_append (pv 4) (pa_cons (pv 6) pa_nil)))) pss_nil))))
      (pss_one (ps_ret (pv 4))))), ?_⟩
    repeat (first | refine ⟨_, rfl, ?_⟩ | refine ⟨_, _, rfl, rfl, ?_⟩ | refine ⟨_, _, rfl, ?_⟩ | refine ⟨rfl, ?_⟩)
    refine ⟨Nat.zero_le _, fun F nF => ?_⟩
    have nFM := al.off nF
    have nFb : F ≠ b := fun e => nFM (e ▸ hb)
    have s1 : Stp [b] H (upd H F (.lst [])) := Stp.new nF
    have hF : upd H F (.lst []) F = some (.lst []) := upd_same
    have b1 := hB.upd (o := .lst []) nFb.symm
    generalize upd H F (.lst []) = H1 at s1 hF b1
    repeat (first | refine ⟨_, rfl, ?_⟩ | refine ⟨_, _, rfl, rfl, ?_⟩ | refine ⟨_, _, rfl, ?_⟩ | refine ⟨rfl, ?_⟩)
    refine ⟨b, _, _, rfl, b1, by omega, by decide, by decide, fun c H2 f2 b2 c0 c1 => ?_⟩
    have s2 : Stp [b] H H2 := s1.trans (f2.stp b2.some)
    have hF2 := f2 F _ nFb hF
    clear hF s1 f2 b1
    repeat (first | refine ⟨_, rfl, ?_⟩ | refine ⟨_, _, rfl, rfl, ?_⟩ | refine ⟨_, _, rfl, ?_⟩ | refine ⟨rfl, ?_⟩)
    refine ⟨by omega, by omega, for_it walk_range (fun i σ H' => ∃ (y5 y6 : Option V) (fs : List V) (bad : List (List Int)), σ = [some (.ref b), some (.ref d), some (.ref a), some (.ref r), some (.ref F), y5, y6, none, none] ∧ Stp [b] H H' ∧ Bag H' b (n + 1 + 4 * i) ∧ H' F = some (.lst fs) ∧ Paired ((sT sInt).at (F :: M) H') fs bad ∧
      bad.length ≤ i ∧ bad.Nodup ∧ ∀ ns ∈ bad, okVals L sc ns) ⟨_, _, _, [], rfl, s2, b2, hF2, .nil, Nat.le_refl _, .nil, fun _ h => by cases h⟩ (fun _ _ _ _ _ => trivial) ?_ ?_⟩
    · rintro i y σ Hy H3 hi ⟨y5, y6, fs, bad, rfl, s3, b3, hF3, pdF, lb, ndB, okB⟩ ⟨rfl, rfl⟩
      have hi13 : i < 13 := by omega
      have al3 : Alv (F :: M) H3 := Alv.cons hF3 (al.go s3)
      repeat (first | refine ⟨_, rfl, ?_⟩ | refine ⟨_, _, rfl, rfl, ?_⟩ | refine ⟨_, _, rfl, ?_⟩ | refine ⟨rfl, ?_⟩)
      refine ⟨⟨_, SqL.of (s3.at ha (fun e => na (by rw [List.mem_singleton.mp e]; exact hb)))⟩, fun U nU => ?_⟩
      have nbM : ∀ {x : Addr}, x ∉ M → x ∉ [b] := fun h e => h (by rw [List.mem_singleton.mp e]; exact hb)
      have hbF : b ∈ F :: M := List.mem_cons_of_mem _ hb
      refine lc_it (walk_list (K := K) (a := a) (xs := sc.map V.str)) (fun j H' => ∃ zs, Acc sInt U (F :: M) [b] H3 H' zs ∧ Each (fun j z => ∀ x, sc[j]? = some x → 0 ≤ z ∧ z < sizeOf L x) j zs ∧ Bag H' b (n + 1 + 4 * i + j)) ⟨[], Acc.start al3 nU (fun x hx => by rw [List.mem_singleton.mp hx]; exact hbF), Each.nil, b3.upd (b3.ne nU)⟩ (fun j H' _ ⟨_, ac, _⟩ => SqL.of (ac.st.at (s3.at ha (nbM na)) (nbM na))) ?_ ?_
      · rintro j x Hx H6 hj ⟨zs, ac, ez, bg⟩ ⟨rfl, hx⟩
        obtain ⟨le, rfl⟩ := str_at' hx
        refine ⟨wipe_in (by decide), ?_⟩
        repeat (first | refine ⟨_, rfl, ?_⟩ | refine ⟨_, _, rfl, rfl, ?_⟩ | refine ⟨_, _, rfl, ?_⟩ | refine ⟨rfl, ?_⟩)
        have mx := sub _ (List.getElem_mem le)
        obtain ⟨sv, sz1, sz2⟩ := sizes_val okL mx
        have dg : DGet H6 d (.str sc[j]) (some (.int (sizeOf L sc[j]))) := by rw [← sv]; exact DGet.k (k := Sum.inr _) (ac.st.at (s3.at hd (nbM nd)) (nbM nd))
        refine ⟨d, _, rfl, dg, ?_⟩
        repeat (first | refine ⟨_, rfl, ?_⟩ | refine ⟨_, _, rfl, rfl, ?_⟩ | refine ⟨_, _, rfl, ?_⟩ | refine ⟨rfl, ?_⟩)
        refine ⟨b, _, _, rfl, bg, by omega, by omega, by omega, fun z H8 f8 b8 z0 z1 => ?_⟩
        refine ac.putB (y := z) (fun H => Bag H b (n + 1 + 4 * i + (j + 1))) (f8.stp b8.some) rfl (by rw [ez.1]; omega) (ez.snoc fun x hx => by rw [List.getElem?_eq_getElem le] at hx; cases hx; exact ⟨z0, z1⟩) fun H' k => Bag.off b8 fun o e => k b o (al3.ne nU hbF) e
      rintro H7 ⟨zs, ac, ez, b7⟩
      rw [List.length_map] at ez b7
      obtain ⟨U', eU, nUb, hU⟩ := Sh.ints ac.done
      cases eU
      have s7 := s3.trans ac.st
      have hF7 := ac.st.at hF3 (by simp [nFb])
      have pd7 := Sh.gos pdF ac.st (Sb.one hbF) Sb.refl
      have al7 : Alv (F :: M) H7 := al3.go ac.st
      clear ac pdF hF3 al3
      refine ⟨U, _, rfl, .inl ⟨SqL.of hU, fun t nt => ?_⟩⟩
      have nb_t := Ne.symm (b7.ne nt)
      have mt := mk_tup (s := sInt) al7 nt (pd_ints (ns := zs))
      replace hF7 := Stp.at (Stp.new (m := []) (o := .tup (zs.map V.int)) nt) hF7 (by first | exact List.not_mem_nil | assumption | simp [*])
      replace pd7 := Sh.gos pd7 (Stp.new (m := []) (o := .tup (zs.map V.int)) nt) (by first | exact Sb.nil | exact Sb.refl | exact Sb.one (by simp [*])) Sb.refl
      replace s7 := Stp.trans s7 (Stp.new (o := .tup (zs.map V.int)) nt)
      replace b7 := Bag.upd (o := .tup (zs.map V.int)) b7 (b7.ne nt)
      replace al7 := Alv.go al7 (Stp.new (m := []) (o := .tup (zs.map V.int)) nt)
      have h_t : upd H7 t (.tup (zs.map V.int)) t = some (.tup (zs.map V.int)) := upd_same
      generalize upd H7 t (.tup (zs.map V.int)) = H8 at mt hF7 pd7 s7 b7 al7 h_t
      have okz : okVals L sc zs := ⟨ez.1, fun i x v h1 h2 => ez.2 i v h2 x h1⟩
      repeat (first | refine ⟨_, rfl, ?_⟩ | refine ⟨_, _, rfl, rfl, ?_⟩ | refine ⟨_, _, rfl, ?_⟩ | refine ⟨rfl, ?_⟩)
      refine ⟨tupD zs, bad.map tupD, (isD_T isD_int).dp mt, .lst (SqL.of hF7) (dpA (fun _ _ z => (isD_T isD_int).dp z) pd7), (shd_tup zs).shaped (by decide), (shd_tups _).shaped (by decide), ?_⟩
      rw [any_tups]
      repeat (first | refine ⟨_, rfl, ?_⟩ | refine ⟨_, _, rfl, rfl, ?_⟩ | refine ⟨_, _, rfl, ?_⟩ | refine ⟨rfl, ?_⟩)
      refine ite2 (fun e6 => ?_) (fun _ => ⟨_, _, fs, bad, rfl, s7, b7.mono (by omega), hF7, pd7, by omega, ndB, okB⟩)
      have nz : zs ∉ bad := fun h => by rw [decide_eq_true h] at e6; cases e6
      repeat (first | refine ⟨_, rfl, ?_⟩ | refine ⟨_, _, rfl, rfl, ?_⟩ | refine ⟨_, _, rfl, ?_⟩ | refine ⟨rfl, ?_⟩)
      refine ⟨⟨_, SqL.of (s7.at hr0 nr)⟩, fun U2 nU2 => ?_⟩
      refine lc_it (walk_list (K := K) (a := r) (xs := ys)) (fun j H' => ∃ rs, Acc sRow U2 [b] [] H8 H' rs ∧ (rs.length ≤ j ∧ ∀ r ∈ rs, r ∈ R)) ⟨[], Acc.start (Alv.cons b7.some.choose_spec Alv.nil) nU2 (by simp), Nat.le_refl _, fun _ h => by cases h⟩ (fun j H' _ ⟨_, ac, _⟩ => SqL.of (ac.st.same _ _ (s7.at hr0 nr))) ?_ ?_
      · rintro j x Hx H9 hj ⟨rs, ac, lr, okr⟩ ⟨rfl, hx⟩
        obtain ⟨w, hw, kw⟩ := pget' pdR hx
        have mw := List.mem_of_getElem? hw
        have rok := okR.ok w mw
        have s9 := s7.trans (ac.st.wk Sb.nil)
        have e1 := rok.few
        have e2 := rok.bfew
        refine ⟨wipe_in (by decide), ?_⟩
        repeat (first | refine ⟨_, rfl, ?_⟩ | refine ⟨_, _, rfl, rfl, ?_⟩ | refine ⟨_, _, rfl, ?_⟩ | refine ⟨rfl, ?_⟩)
        refine ⟨_, _, _, sc, zs, w, rfl, Sh.all (Sh.go hSc s9 (Sb.one hb) Sb.refl), Sh.all (Sh.go mt ac.st Sb.nil Sb.refl), Sh.all (Sh.go kw s9 Sb.refl Sb.refl), ndS, by omega, by omega, by omega, fun x hx => sub_nm okL (rok.sub x hx), fun c H10 s10 => ?_⟩
        repeat (first | refine ⟨_, rfl, ?_⟩ | refine ⟨_, _, rfl, rfl, ?_⟩ | refine ⟨_, _, rfl, ?_⟩ | refine ⟨rfl, ?_⟩)
        refine ite2 (fun _ => ?_) (fun _ => ⟨rs, ac.go (Stp.of_same s10), by omega, okr⟩)
        repeat (first | refine ⟨_, rfl, ?_⟩ | refine ⟨_, _, rfl, rfl, ?_⟩ | refine ⟨_, _, rfl, ?_⟩ | refine ⟨rfl, ?_⟩)
        refine ac.put (y := w) (R := fun rs => rs.length ≤ j + 1 ∧ ∀ r ∈ rs, r ∈ R) (Stp.of_same s10) (Sh.go kw (s9.trans (Stp.of_same s10)) Sb.refl (Sb.new (s7.none nU2) Sb.refl)) (by omega) ⟨by simp; omega, fun z hz => ?_⟩
        rcases List.mem_append.mp hz with h | h
        · exact okr z h
        · rw [List.mem_singleton.mp h]; exact mw
      rintro H9 ⟨rs, ac, lr, okr⟩
      have s9 := s7.trans (ac.st.wk Sb.nil)
      have hF9 := ac.st.at hF7 (by simp)
      have pd9 := Sh.gos pd7 ac.st Sb.nil Sb.refl
      have b9 := b7.stp ac.st (by simp)
      have mt9 := Sh.go mt ac.st Sb.nil Sb.refl
      have hrs := ac.done
      refine ⟨Nat.zero_le _, fun e1 ne1 => ?_⟩
      have nb_e1 := Ne.symm (b9.ne ne1)
      replace hF9 := Stp.at (Stp.new (m := []) (o := .lst []) ne1) hF9 (by first | exact List.not_mem_nil | assumption | simp [*])
      replace pd9 := Sh.gos pd9 (Stp.new (m := []) (o := .lst []) ne1) (by first | exact Sb.nil | exact Sb.refl | exact Sb.one (by simp [*])) Sb.refl
      replace mt9 := Sh.go mt9 (Stp.new (m := []) (o := .lst []) ne1) (by first | exact Sb.nil | exact Sb.refl | exact Sb.one (by simp [*])) Sb.refl
      replace hrs := Sh.go hrs (Stp.new (m := []) (o := .lst []) ne1) (by first | exact Sb.nil | exact Sb.refl | exact Sb.one (by simp [*])) Sb.refl
      replace s9 := Stp.trans s9 (Stp.new (o := .lst []) ne1)
      replace b9 := Bag.upd (o := .lst []) b9 (b9.ne ne1)
      have h_e1 : upd H9 e1 (.lst []) e1 = some (.lst []) := upd_same
      generalize upd H9 e1 (.lst []) = H10 at hF9 pd9 mt9 hrs s9 b9 h_e1
      refine ⟨.list (rs.map rowD), .list [], (isD_L isD_row).dp hrs, .lst (SqL.of h_e1) .nil, (shd_rows okL fun r hr => okR.ok r (okr r hr)).shaped (by decide), nil_shaped, ?_⟩
      rw [show PyData.eqv (.list (rs.map rowD)) (.list []) = decide (rs = []) from eqv_mapI rowD eqv_row2 rs []]
      repeat (first | refine ⟨_, rfl, ?_⟩ | refine ⟨_, _, rfl, rfl, ?_⟩ | refine ⟨_, _, rfl, ?_⟩ | refine ⟨rfl, ?_⟩)
      refine ite2 (fun _ => ?_) (fun _ => ⟨_, _, fs, bad, rfl, s9, b9.mono (by omega), hF9, pd9, by omega, ndB, okB⟩)
      repeat (first | refine ⟨_, rfl, ?_⟩ | refine ⟨_, _, rfl, rfl, ?_⟩ | refine ⟨_, _, rfl, ?_⟩ | refine ⟨rfl, ?_⟩)
      refine ⟨.inl ⟨rfl, _, SqL.of hF9⟩, ?_⟩
      repeat (first | refine ⟨_, rfl, ?_⟩ | refine ⟨_, _, rfl, rfl, ?_⟩ | refine ⟨_, _, rfl, ?_⟩ | refine ⟨rfl, ?_⟩)
      have lf := plen pd9
      refine ⟨F, _, _, rfl, rfl, hF9, by rw [sizeLine_eq]; omega, ?_⟩
      obtain ⟨s11, pd11⟩ := app_L nF s9 pd9 mt9
      refine ⟨_, _, _, bad ++ [zs], rfl, s11, (b9.upd nFb.symm).mono (by omega), upd_same, pd11, by simp; omega, ?_, fun ns hns => ?_⟩
      · rw [List.nodup_append]
        exact ⟨ndB, by simp, fun x hx y hy e => nz (by rw [List.mem_singleton.mp hy] at e; rw [← e]; exact hx)⟩
      · rcases List.mem_append.mp hns with h | h
        · exact okB ns h
        · rw [List.mem_singleton.mp h]; exact okz
    · rintro σ H3 ⟨y5, y6, fs, bad, rfl, s3, b3, hF3, pdF, lb, ndB, okB⟩
      repeat (first | refine ⟨_, rfl, ?_⟩ | refine ⟨_, _, rfl, rfl, ?_⟩ | refine ⟨_, _, rfl, ?_⟩ | refine ⟨rfl, ?_⟩)
      exact q _ bad H3 s3 ⟨F, fs, rfl, nFM, hF3, Paired.mapP pdF fun _ _ z => (sT sInt).mv z fun a o n e => ⟨e, fun h => n (List.mem_cons_of_mem _ h)⟩⟩ (by omega) ndB okB (b3.mono (by omega))

end K62
namespace K62
open PySem PySem.Spec PyProof.Rows L2 TL
/-! ### variables and events, drawn -/
theorem pick_ints {b : Addr} {ns : List Int} {i : Int} (h0 : 0 ≤ i) (h1 : i < (ns.length : Int)) : ∃ v : Int, atI (ns.map V.int) i = some (.int v) ∧ v ∈ ns := ints_at h0 h1
theorem all_mem {ns : List Int} {lo hi : Int} (h : (ns.all fun v => decide (lo ≤ v) && decide (v ≤ hi)) = true) {v : Int} (hv : v ∈ ns) : lo ≤ v ∧ v ≤ hi := by
  have := List.all_eq_true.mp h v hv
  simp only [Bool.and_eq_true, decide_eq_true_eq] at this
  exact this
def sp_lproblem : Sp := fun vs H Q _ => ∃ (M : List Addr) (b : Addr) (n : Nat) (c : Bool), vs = [.ref b, .bl c] ∧ b ∈ M ∧ Alv M H ∧ Bag H b n ∧ n + 1600 ≤ 1000000 ∧
  ∀ (v : V) (L : List (Str × Int)) (R : List Row) H', Stp [b] H H' → (sP (sL sVar) (sL sRow)).at M H' v (L, R) → VarsOk L → EvsOk L R → Bag H' b (n + 1500) → Q v H'
theorem ok_l_problem {P : Program} {w : World} {K : PySem.W.Frag} {mg : Str → Option Value} {base : Heap} (T : Txt P K mg) : FnOk P w K mg base CX0 4 T.f_l_problem T.fd_l_problem ["_law_box_here", "_law_exclusive"] (sp_lproblem) := by
  refine T.F_l_problem.ok sc_l_problem (fun vs H Q E h => ?_) (fun cdv A outer s H vs Q E hr h => ?_)
  · obtain ⟨_, _, _, _, rfl, _⟩ := h; rfl
  · obtain ⟨M, b, n, c, rfl, hb, al, hB, hn, q⟩ := h
    have nbM : ∀ {x : Addr}, x ∉ M → x ∉ [b] := fun h e => h (by rw [List.mem_singleton.mp e]; exact hb)
    have neb : ∀ {x : Addr}, x ∉ M → x ≠ b := fun h e => h (by rw [e]; exact hb)
    refine ⟨_, PSs.nox (pss_cons (ps_set (i := 2) sc_l_problem.nd rfl (Or.inl rfl) (pe_op op_add pe_int (pe_call (ok_l_take T) (hr.mono (by decide)) (by rfl) T.g_l_take T.F_l_take.kp (b_l_take T) .nil pass0 (pa_cons (pv 0) (pa_cons (pe_ix (show IxR _ (rIxL K) from ix_list) (pe_lst (pa_cons pe_int (pa_cons pe_int (pa_cons pe_int (pa_cons pe_int pa_nil))))) (pe_call (ok_l_take T) (hr.mono (by decide)) (by rfl) T.g_l_take T.F_l_take.kp (b_l_take T) .nil pass0 (pa_cons (pv 0) (pa_cons pe_int pa_nil))) (fun _ _ => rfl)) pa_nil)))))
      (pss_cons (ps_set (i := 3) sc_l_problem.nd rfl (Or.inl rfl) (pe_call (ok_l_names T) (hr.mono (by decide)) (by rfl) T.g_l_names T.F_l_names.kp (b_l_names T) .nil pass0 (pa_cons (pv 0) (pa_cons (pv 2) pa_nil))))
      (pss_cons (ps_setLc (i := 5) (own := [("_law_name", 4)]) (g := gName 4) rfl sc_l_problem.nd rfl rfl (sw_true rfl rfl rfl (by decide +kernel)) (pi_list (pv 3)) (blkOk_by (own := [("_law_name", 4)]) (N := N_l_problem) (sc := defScope s_l_problem) (by decide +kernel)) (fun _ _ _ _ _ => (pg_name (i := 4) sc_l_problem.nd rfl (Or.inl rfl))) (fun _ _ _ _ _ => pts_nil) (fun _ _ _ _ _ => (pe_tup (pa_cons (pv 4) (pa_cons (pe_ix (show IxR _ (rIxL K) from ix_list) (pe_lst (pa_cons pe_int (pa_cons pe_int (pa_cons pe_int (pa_cons pe_int (pa_cons pe_int pa_nil)))))) (pe_call (ok_l_take T) (hr.mono (by decide)) (by rfl) T.g_l_take T.F_l_take.kp (b_l_take T) .nil pass0 (pa_cons (pv 0) (pa_cons pe_int pa_nil))) (fun _ _ => rfl)) pa_nil)))))
      (pss_cons (ps_set (i := 6) sc_l_problem.nd rfl (Or.inl rfl) (pe_call (ok_l_take T) (hr.mono (by decide)) (by rfl) T.g_l_take T.F_l_take.kp (b_l_take T) .nil pass0 (pa_cons (pv 0) (pa_cons (pe_ix (show IxR _ (rIxL K) from ix_list) (pe_lst (pa_cons pe_int (pa_cons pe_int (pa_cons pe_int (pa_cons pe_int pa_nil))))) (pe_call (ok_l_take T) (hr.mono (by decide)) (by rfl) T.g_l_take T.F_l_take.kp (b_l_take T) .nil pass0 (pa_cons (pv 0) (pa_cons pe_int pa_nil))) (fun _ _ => rfl)) pa_nil))))
      (pss_cons (ps_set (i := 7) sc_l_problem.nd rfl (Or.inl rfl) (pe_lst pa_nil))
      (pss_cons (ps_set (i := 8) sc_l_problem.nd rfl (Or.inl rfl) (pe_call (ok_l_names T) (hr.mono (by decide)) (by rfl) T.g_l_names T.F_l_names.kp (b_l_names T) .nil pass0 (pa_cons (pv 0) (pa_cons (pv 6) pa_nil))))
      (Evl.pss_cut (ps_if (PW.pt (pw_and (pt_cmpR op_le (pv 6) (pv 2) (nomark _)) (pw_and1 (pt_cmpR op_eq (pe_call (ok_l_take T) (hr.mono (by decide)) (by rfl) T.g_l_take T.F_l_take.kp (b_l_take T) .nil pass0 (pa_cons (pv 0) (pa_cons pe_int pa_nil))) pe_int (nomark _))))) (pss_one (ps_set (i := 8) sc_l_problem.nd rfl (Or.inl rfl) (pe_slice (show SlR _ (rSlL K) from sl_list) (pe_call (ok_l_mixed T) (hr.mono (by decide)) (by rfl) T.g_l_mixed T.F_l_mixed.kp (b_l_mixed T) .nil pass0 (pa_cons (pv 0) (pa_cons (pv 3) pa_nil))) po_none (po_some (pv 6))))) pss_nil)
      (pss_cons (ps_for PassesOwn.never rfl (pi_list (pv 8)) (pg_name (i := 4) sc_l_problem.nd rfl (Or.inl rfl)) (pss_cons (ps_set (i := 9) sc_l_problem.nd rfl (Or.inl rfl) (pe_slice (show SlR _ (rSlL K) from sl_list) (pe_call (ok_l_mixed T) (hr.mono (by decide)) (by rfl) T.g_l_mixed T.F_l_mixed.kp (b_l_mixed T) .nil pass0 (pa_cons (pv 0) (pa_cons (pv 3) pa_nil))) po_none (po_some (pe_op op_add pe_int (pe_call (ok_l_take T) (hr.mono (by decide)) (by rfl) T.g_l_take T.F_l_take.kp (b_l_take T) .nil pass0 (pa_cons (pv 0) (pa_cons (pe_callB (call_min2 rfl) (by rfl) T.n_min (by decide +kernel) (pa_cons pe_int (pa_cons (pv 2) pa_nil))) pa_nil)))))))
      (pss_one (ps_expr (pe_bm PySem.F.plainAttrs_list PySem.F.slot_list_append PySem.F.type_list_append mt_append (pv 7) (pa_cons (pe_tup (pa_cons (pv 4) (pa_cons (pv 9) (pa_cons (pe_call (ok_l_bads T) (hr.mono (by decide)) (by rfl) T.g_l_bads T.F_l_bads.kp (b_l_bads T) .nil pass0 (pa_cons (pv 0) (pa_cons (pe_callTy (call_dictP rfl) (by rfl) T.n_dict (by decide +kernel) (pa_cons (pv 5) pa_nil)) (pa_cons (pv 9) (pa_cons (pe_ifExp (pt_val (pv 1)) (pv 7) (pe_lst pa_nil)) pa_nil))))) pa_nil)))) pa_nil))))))
      (pss_one (ps_ret (pe_tup (pa_cons (pv 5) (pa_cons (pv 7) pa_nil))))))))))))), ?_⟩
    have s0 : Stp [b] H H := Stp.refl
    repeat (first | refine ⟨_, rfl, ?_⟩ | refine ⟨_, _, rfl, rfl, ?_⟩ | refine ⟨_, _, rfl, ?_⟩ | refine ⟨rfl, ?_⟩)
    refine ⟨lenk 4 rfl (by decide), fun p1 n1 => ?_⟩
    have nb_p1 := Ne.symm (hB.ne n1)
    replace s0 := Stp.trans s0 (Stp.new (o := .lst [.int 5, .int 5, .int 5, .int 8]) n1)
    replace hB := Bag.upd (o := .lst [.int 5, .int 5, .int 5, .int 8]) hB (hB.ne n1)
    replace al := Alv.go al (Stp.new (m := []) (o := .lst [.int 5, .int 5, .int 5, .int 8]) n1)
    have h_p1 : upd H p1 (.lst [.int 5, .int 5, .int 5, .int 8]) p1 = some (.lst [.int 5, .int 5, .int 5, .int 8]) := upd_same
    generalize upd H p1 (.lst [.int 5, .int 5, .int 5, .int 8]) = H1 at s0 hB al h_p1
    repeat (first | refine ⟨_, rfl, ?_⟩ | refine ⟨_, _, rfl, rfl, ?_⟩ | refine ⟨_, _, rfl, ?_⟩ | refine ⟨rfl, ?_⟩)
    refine ⟨b, _, _, rfl, hB, by omega, by decide, by decide, fun i2 H2 f2 b2 x0 x1 => ?_⟩
    replace h_p1 := Stp.at (f2.stp b2.some) h_p1 (by first | exact List.not_mem_nil | assumption | simp [*])
    replace s0 := Stp.trans s0 (f2.stp b2.some)
    replace al := Alv.go al (f2.stp b2.some)
    obtain ⟨u1, hu1, mu1⟩ := ints_at (ns := [5, 5, 5, 8]) x0 x1
    have r1 := all_mem (lo := 5) (hi := 8) (by decide) mu1
    refine ⟨p1, _, _, _, rfl, rfl, SqL.of h_p1, hu1, ?_⟩
    refine ⟨b, _, _, rfl, b2, by omega, by omega, by omega, fun i3 H3 f3 b3 y0 y1 => ?_⟩
    replace s0 := Stp.trans s0 (f3.stp b3.some)
    replace al := Alv.go al (f3.stp b3.some)
    clear h_p1
    obtain ⟨m, hm⟩ : ∃ m : Nat, 1 + i3 = (m : Int) := ⟨(1 + i3).toNat, by omega⟩
    repeat (first | refine ⟨_, rfl, ?_⟩ | refine ⟨_, _, rfl, rfl, ?_⟩ | refine ⟨_, _, rfl, ?_⟩ | refine ⟨rfl, ?_⟩)
    dsimp only
    rw [hm]
    repeat (first | refine ⟨_, rfl, ?_⟩ | refine ⟨_, _, rfl, rfl, ?_⟩ | refine ⟨_, _, rfl, ?_⟩ | refine ⟨rfl, ?_⟩)
    refine ⟨b, _, m, rfl, b3, by omega, by omega, fun NL nms H4 s4 nNL hNL lN okN ndN b4 => ?_⟩
    have nNLM := (al.off nNL)
    replace s0 := Stp.trans s0 (s4)
    replace al := Alv.go al (s4)
    repeat (first | refine ⟨_, rfl, ?_⟩ | refine ⟨_, _, rfl, rfl, ?_⟩ | refine ⟨_, _, rfl, ?_⟩ | refine ⟨rfl, ?_⟩)
    refine ⟨⟨_, SqL.of hNL⟩, fun D nD => ?_⟩
    refine lc_it (walk_list (K := K) (a := NL) (xs := nms.map V.str)) (fun i H' => ∃ zs, Acc sVar D M [b] H4 H' zs ∧ Each (fun j (z : Str × Int) => nms[j]? = some z.1 ∧ 1 ≤ z.2 ∧ z.2 ≤ 6) i zs ∧ Bag H' b (n + 40 + i)) ⟨[], Acc.start al nD (fun x hx => by rw [List.mem_singleton.mp hx]; exact hb), Each.nil, (b4.upd (b4.ne nD)).mono (by omega)⟩ (fun i H' _ ⟨_, a, _⟩ => SqL.of (a.st.at hNL (nbM nNLM))) ?_ ?_
    · rintro i x Hx H6 hi ⟨zs, ac, ez, bg⟩ ⟨rfl, hx⟩
      obtain ⟨le, rfl⟩ := str_at' hx
      have al6 := ac.alv
      have nDb := al.ne nD hb
      refine ⟨wipe_in (by decide), ?_⟩
      repeat (first | refine ⟨_, rfl, ?_⟩ | refine ⟨_, _, rfl, rfl, ?_⟩ | refine ⟨_, _, rfl, ?_⟩ | refine ⟨rfl, ?_⟩)
      refine ⟨lenk 5 rfl (by decide), fun p2 n2 => ?_⟩
      have nb_p2 := Ne.symm (bg.ne n2)
      replace ac := Acc.go ac (Stp.new (o := .lst [.int 1, .int 2, .int 2, .int 3, .int 6]) n2)
      replace bg := Bag.upd (o := .lst [.int 1, .int 2, .int 2, .int 3, .int 6]) bg (bg.ne n2)
      replace al6 := Alv.go al6 (Stp.new (m := []) (o := .lst [.int 1, .int 2, .int 2, .int 3, .int 6]) n2)
      have h_p2 : upd H6 p2 (.lst [.int 1, .int 2, .int 2, .int 3, .int 6]) p2 = some (.lst [.int 1, .int 2, .int 2, .int 3, .int 6]) := upd_same
      generalize upd H6 p2 (.lst [.int 1, .int 2, .int 2, .int 3, .int 6]) = H7 at ac bg al6 h_p2
      repeat (first | refine ⟨_, rfl, ?_⟩ | refine ⟨_, _, rfl, rfl, ?_⟩ | refine ⟨_, _, rfl, ?_⟩ | refine ⟨rfl, ?_⟩)
      refine ⟨b, _, _, rfl, bg, by omega, by decide, by decide, fun i5 H8 f8 b8 x0 x1 => ?_⟩
      obtain ⟨u2, hu2, mu2⟩ := ints_at (ns := [1, 2, 2, 3, 6]) x0 x1
      have r2 := all_mem (lo := 1) (hi := 6) (by decide) mu2
      replace h_p2 := Stp.at (f8.stp b8.some) h_p2 (by first | exact List.not_mem_nil | assumption | simp [*])
      replace ac := Acc.go ac (f8.stp b8.some)
      replace al6 := Alv.go al6 (f8.stp b8.some)
      refine ⟨p2, _, _, _, rfl, rfl, SqL.of h_p2, hu2, ?_⟩
      refine ⟨lenk 2 rfl (by decide), fun t nt => ?_⟩
      refine ac.putB (y := (nms[i], u2)) (fun H => Bag H b (n + 40 + (i + 1))) (Stp.new nt) (mk_P (s := sStr) (t := sInt) al6 nt rfl rfl) (by rw [ez.1]; rw [List.length_map] at hi; omega) (ez.snoc ⟨List.getElem?_eq_getElem le, r2⟩) fun H' k => (Bag.off (b8.upd (b8.ne nt)) fun o e => k b o nDb e).mono (by omega)
    rintro H5 ⟨L, ac, eL, b5⟩
    rw [List.length_map] at eL b5
    have hV := ac.done
    have st45 := ac.st
    have eNm : L.map (·.1) = nms := by
      refine List.ext_getElem? fun i => ?_
      rw [List.getElem?_map]
      by_cases hi : i < L.length
      · rw [List.getElem?_eq_getElem hi, (eL.2 i _ (List.getElem?_eq_getElem hi)).1]; rfl
      · rw [List.getElem?_eq_none (by omega), List.getElem?_eq_none (by have := eL.1; omega)]; rfl
    have okL : VarsOk L := ⟨by rw [eL.1]; omega, by rw [eL.1]; omega, fun q hq => okN _ (by rw [← eNm]; exact List.mem_map.mpr ⟨q, hq, rfl⟩), eL.mem fun j y _ h => h.2, by rw [eNm]; exact ndN⟩
    replace hNL := st45.at hNL (nbM nNLM)
    replace s0 := Stp.trans s0 (st45)
    replace al := Alv.go al (st45)
    clear ac st45 eL
    repeat (first | refine ⟨_, rfl, ?_⟩ | refine ⟨_, _, rfl, rfl, ?_⟩ | refine ⟨_, _, rfl, ?_⟩ | refine ⟨rfl, ?_⟩)
    refine ⟨lenk 4 rfl (by decide), fun p3 n3 => ?_⟩
    have nb_p3 := Ne.symm (b5.ne n3)
    replace hNL := Stp.at (Stp.new (m := []) (o := .lst [.int 6, .int 6, .int 6, .int 9]) n3) hNL (by first | exact List.not_mem_nil | assumption | simp [*])
    replace hV := Sh.go hV (Stp.new (m := []) (o := .lst [.int 6, .int 6, .int 6, .int 9]) n3) (by first | exact Sb.nil | exact Sb.refl | exact Sb.one (by simp [*])) Sb.refl
    replace s0 := Stp.trans s0 (Stp.new (o := .lst [.int 6, .int 6, .int 6, .int 9]) n3)
    replace b5 := Bag.upd (o := .lst [.int 6, .int 6, .int 6, .int 9]) b5 (b5.ne n3)
    replace al := Alv.go al (Stp.new (m := []) (o := .lst [.int 6, .int 6, .int 6, .int 9]) n3)
    have h_p3 : upd H5 p3 (.lst [.int 6, .int 6, .int 6, .int 9]) p3 = some (.lst [.int 6, .int 6, .int 6, .int 9]) := upd_same
    generalize upd H5 p3 (.lst [.int 6, .int 6, .int 6, .int 9]) = H6 at hNL hV s0 b5 al h_p3
    repeat (first | refine ⟨_, rfl, ?_⟩ | refine ⟨_, _, rfl, rfl, ?_⟩ | refine ⟨_, _, rfl, ?_⟩ | refine ⟨rfl, ?_⟩)
    refine ⟨b, _, _, rfl, b5, by omega, by decide, by decide, fun i6 H7 f7 b7 x0 x1 => ?_⟩
    have ndNL : NL ∉ [b] := nbM nNLM
    replace h_p3 := Stp.at (f7.stp b7.some) h_p3 (by first | exact List.not_mem_nil | assumption | simp [*])
    replace hNL := Stp.at (f7.stp b7.some) hNL (by first | exact List.not_mem_nil | assumption | simp [*])
    replace hV := Sh.go hV (f7.stp b7.some) (by first | exact Sb.nil | exact Sb.refl | exact Sb.one (by simp [*])) Sb.refl
    replace s0 := Stp.trans s0 (f7.stp b7.some)
    replace al := Alv.go al (f7.stp b7.some)
    obtain ⟨u3, hu3, mu3⟩ := ints_at (ns := [6, 6, 6, 9]) x0 x1
    have r3 := all_mem (lo := 6) (hi := 9) (by decide) mu3
    refine ⟨p3, _, _, _, rfl, rfl, SqL.of h_p3, hu3, ?_⟩
    refine ⟨b, _, _, rfl, b7, by omega, by omega, by omega, fun i7 H8 f8 b8 z0 z1 => ?_⟩
    replace hNL := Stp.at (f8.stp b8.some) hNL (by first | exact List.not_mem_nil | assumption | simp [*])
    replace hV := Sh.go hV (f8.stp b8.some) (by first | exact Sb.nil | exact Sb.refl | exact Sb.one (by simp [*])) Sb.refl
    replace s0 := Stp.trans s0 (f8.stp b8.some)
    replace al := Alv.go al (f8.stp b8.some)
    clear h_p3
    obtain ⟨k, rfl⟩ : ∃ k : Nat, i7 = (k : Int) := ⟨i7.toNat, (Int.toNat_of_nonneg z0).symm⟩
    repeat (first | refine ⟨_, rfl, ?_⟩ | refine ⟨_, _, rfl, rfl, ?_⟩ | refine ⟨_, _, rfl, ?_⟩ | refine ⟨rfl, ?_⟩)
    refine ⟨Nat.zero_le _, fun F nF => ?_⟩
    have nFM := al.off nF
    have nb_F := Ne.symm (b8.ne nF)
    have acF : Acc sRow F M [b] H8 (upd H8 F (.lst [])) [] := Acc.start al nF (fun x hx => by rw [List.mem_singleton.mp hx]; exact hb)
    replace b8 := Bag.upd (o := .lst []) b8 (b8.ne nF)
    have h_F : upd H8 F (.lst []) F = some (.lst []) := upd_same
    generalize upd H8 F (.lst []) = H9 at acF b8 h_F
    repeat (first | refine ⟨_, rfl, ?_⟩ | refine ⟨_, _, rfl, rfl, ?_⟩ | refine ⟨_, _, rfl, ?_⟩ | refine ⟨rfl, ?_⟩)
    refine ⟨b, _, k, rfl, b8, by omega, by omega, fun TL ts H10 s10 nTL hTL lT okT ndT b10 => ?_⟩
    have nTLF := acF.alv.off nTL
    replace acF := Acc.go acF (s10)
    let Mid : L2.St → Hp → Prop := fun σ H' => ∃ (TL : Addr) (ts : List Str), σ = [some (.ref b), some (.bl c), some (.int (m : Int)), some (.ref NL), none, some (.ref D), some (.int (k : Int)), some (.ref F), some (.ref TL), none] ∧ Acc sRow F M [b] H8 H' [] ∧
      H' TL = some (.lst (ts.map V.str)) ∧ TL ∉ F :: M ∧ ts.length ≤ 8 ∧ (∀ y ∈ ts, NameOk y) ∧ ts.Nodup ∧ Bag H' b (n + 220)
    have k8 : k ≤ 8 := by omega
    repeat (first | refine ⟨_, rfl, ?_⟩ | refine ⟨_, _, rfl, rfl, ?_⟩ | refine ⟨_, _, rfl, ?_⟩ | refine ⟨rfl, ?_⟩)
    refine ⟨Mid, ?_, fun σ H' mid => ?_⟩
    · repeat (first | refine ⟨_, rfl, ?_⟩ | refine ⟨_, _, rfl, rfl, ?_⟩ | refine ⟨_, _, rfl, ?_⟩ | refine ⟨rfl, ?_⟩)
      have stay : ∀ {G : Hp}, Stp [b] H10 G → Bag G b (n + 220) → Mid [some (.ref b), some (.bl c), some (.int (m : Int)), some (.ref NL), none, some (.ref D), some (.int (k : Int)), some (.ref F), some (.ref TL), none] G := fun st bg =>
        ⟨TL, ts, rfl, acF.go st, st.at hTL (nbM fun h => nTLF (List.mem_cons_of_mem _ h)), nTLF, by omega, okT, ndT, bg⟩
      refine ite2 (fun _ => ?_) (fun _ => stay Stp.refl (b10.mono (by omega)))
      repeat (first | refine ⟨_, rfl, ?_⟩ | refine ⟨_, _, rfl, rfl, ?_⟩ | refine ⟨_, _, rfl, ?_⟩ | refine ⟨rfl, ?_⟩)
      refine ⟨b, _, _, rfl, b10, by omega, by decide, by decide, fun i9 H11 f11 b11 _ _ => ?_⟩
      repeat (first | refine ⟨_, rfl, ?_⟩ | refine ⟨_, _, rfl, rfl, ?_⟩ | refine ⟨_, _, rfl, ?_⟩ | refine ⟨rfl, ?_⟩)
      refine ite2 (fun _ => ?_) (fun _ => stay (f11.stp b11.some) (b11.mono (by omega)))
      repeat (first | refine ⟨_, rfl, ?_⟩ | refine ⟨_, _, rfl, rfl, ?_⟩ | refine ⟨_, _, rfl, ?_⟩ | refine ⟨rfl, ?_⟩)
      have ac11 := acF.go (f11.stp b11.some)
      refine ⟨b, NL, _, _, rfl, b11, by omega, SqL.of (ac11.st.at hNL ndNL), by rw [List.length_map]; omega, fun D3 zz H12 s12 nD3 hD3 pz b12 => ?_⟩
      rw [List.length_map, lN] at b12
      obtain ⟨ms, rfl, pm⟩ := strs_perm pz
      have ac12 := ac11.go s12
      repeat (first | refine ⟨_, rfl, ?_⟩ | refine ⟨_, _, rfl, rfl, ?_⟩ | refine ⟨_, _, rfl, ?_⟩ | refine ⟨rfl, ?_⟩)
      refine ⟨D3, _, rfl, SqL.of hD3, fun D4 nD4 => ?_⟩
      have nD4F := ac12.alv.off nD4
      exact ⟨D4, ms.take k, rfl, ac12.go (Stp.new nD4), by rw [upd_same, cut_to, List.map_take], nD4F, by rw [List.length_take]; omega, fun y hy => okN y (pm.mem_iff.mp (List.mem_of_mem_take hy)), (pm.nodup_iff.mpr ndN).sublist (List.take_sublist _ _), (b12.upd (b12.ne nD4)).mono (by omega)⟩
    obtain ⟨TL', ts', rfl, acM, hTL', nTL', lT', okT', ndT', bM⟩ := mid
    clear acF b10 hTL nTLF
    repeat (first | refine ⟨_, rfl, ?_⟩ | refine ⟨_, _, rfl, rfl, ?_⟩ | refine ⟨_, _, rfl, ?_⟩ | refine ⟨rfl, ?_⟩)
    have nTb : TL' ∉ [F, b] := fun h => nTL' ((List.mem_cons.mp h).elim (fun e => e ▸ List.mem_cons_self) fun h => List.mem_cons_of_mem _ (by rw [List.mem_singleton.mp h]; exact hb))
    have sbF : ∀ {G : Hp}, Sb [b] [F, b] G := Sb.one (by simp)
    refine ⟨⟨_, SqL.of hTL'⟩, for_it (walk_list (K := K) (a := TL') (xs := ts'.map V.str)) (fun i σ G => ∃ (y4 y9 : Option V) (rs : List Row), σ = [some (.ref b), some (.bl c), some (.int (m : Int)), some (.ref NL), y4, some (.ref D), some (.int (k : Int)), some (.ref F), some (.ref TL'), y9] ∧
      Acc sRow F M [b] H8 G rs ∧ (∀ r ∈ rs, RowOk L r) ∧ rs.map (·.1) = ts'.take i ∧ Stp [F, b] H' G ∧ Bag G b (n + 220 + 100 * i)) ⟨_, _, [], rfl, acM, (fun _ h => by cases h), rfl, Stp.refl, bM⟩ (fun i σ G _ ⟨_, _, _, _, _, _, _, st, _⟩ => SqL.of (st.at hTL' nTb)) ?_ ?_⟩
    · rintro i x σ Hx G hi ⟨y4, y9, rs, rfl, ac, okr, ers, st, bg⟩ ⟨rfl, hx⟩
      obtain ⟨le, rfl⟩ := str_at' hx
      rw [List.length_map] at hi
      repeat (first | refine ⟨_, rfl, ?_⟩ | refine ⟨_, _, rfl, rfl, ?_⟩ | refine ⟨_, _, rfl, ?_⟩ | refine ⟨rfl, ?_⟩)
      refine ⟨b, NL, _, _, rfl, bg, by omega, SqL.of (ac.st.at hNL ndNL), by rw [List.length_map]; omega, fun D3 zz G2 s2 nD3 hD3 pz b2 => ?_⟩
      rw [List.length_map, lN] at b2
      obtain ⟨ms, rfl, pm⟩ := strs_perm pz
      have nD3F := ac.alv.off nD3
      have nD3b : D3 ∉ [b] := nbM fun h => nD3F (List.mem_cons_of_mem _ h)
      replace st := st.trans (s2.wk sbF)
      replace ac := Acc.go ac (s2)
      repeat (first | refine ⟨_, rfl, ?_⟩ | refine ⟨_, _, rfl, rfl, ?_⟩ | refine ⟨_, _, rfl, ?_⟩ | refine ⟨rfl, ?_⟩)
      refine ⟨b, _, _, rfl, b2, by omega, by split <;> omega, by split <;> omega, fun j2 G3 f3 b3 j0 j1 => ?_⟩
      have j4 : j2 < 4 ∧ j2 < m := by split at j1 <;> omega
      replace st := st.trans ((f3.stp b3.some).wk sbF)
      replace hD3 := Stp.at (f3.stp b3.some) hD3 (by first | exact List.not_mem_nil | assumption | simp [*])
      replace ac := Acc.go ac (f3.stp b3.some)
      obtain ⟨g, hg⟩ : ∃ g : Nat, 1 + j2 = (g : Int) := ⟨(1 + j2).toNat, by omega⟩
      repeat (first | refine ⟨_, rfl, ?_⟩ | refine ⟨_, _, rfl, rfl, ?_⟩ | refine ⟨_, _, rfl, ?_⟩ | refine ⟨rfl, ?_⟩)
      refine ⟨D3, _, rfl, SqL.of hD3, fun D4 nD4 => ?_⟩
      dsimp only at nD4 ⊢
      rw [hg, cut_to, ← List.map_take]
      have al3 := ac.alv
      have nb_D4 := Ne.symm (b3.ne nD4)
      have hsc := mk_lst (s := sStr) al3 nD4 (pd_strs (ns := ms.take g))
      replace ac := Acc.go ac (Stp.new (o := .lst ((ms.take g).map V.str)) nD4)
      replace st := Stp.trans st (Stp.new (o := .lst ((ms.take g).map V.str)) nD4)
      replace b3 := Bag.upd (o := .lst ((ms.take g).map V.str)) b3 (b3.ne nD4)
      replace al3 := Alv.go al3 (Stp.new (m := []) (o := .lst ((ms.take g).map V.str)) nD4)
      have h_D4 : upd G3 D4 (.lst ((ms.take g).map V.str)) D4 = some (.lst ((ms.take g).map V.str)) := upd_same
      generalize upd G3 D4 (.lst ((ms.take g).map V.str)) = G4 at hsc ac st b3 al3 h_D4
      have lms := pm.length_eq
      repeat (first | refine ⟨_, rfl, ?_⟩ | refine ⟨_, _, rfl, rfl, ?_⟩ | refine ⟨_, _, rfl, ?_⟩ | refine ⟨rfl, ?_⟩)
      obtain ⟨fs, hF, pdF⟩ := ac.ac
      have lfs := plen pdF
      have lrs : rs.length = i := by
        have := congrArg List.length ers
        rw [List.length_map, List.length_take] at this
        omega
      refine ⟨.inl ⟨rfl, _, SqL.of hF⟩, ?_⟩
      repeat (first | refine ⟨_, rfl, ?_⟩ | refine ⟨_, _, rfl, rfl, ?_⟩ | refine ⟨_, _, rfl, ?_⟩ | refine ⟨rfl, ?_⟩)
      have hVg := Sh.go hV ac.st (Sb.one hb) Sb.refl
      obtain ⟨D', xs, eD, nDM, hDx, pdx⟩ := hVg
      cases eD
      obtain ⟨ps, exs, pps⟩ := pair_addrs (Paired.mono (fun _ _ z => pd_isVar z) pdx)
      refine ⟨D, ps, kvL L, rfl, by rw [← exs]; exact SqL.of hDx, pps K, fun dd ndd => ?_⟩
      rw [merge_kvL okL]
      have nddF := al3.off ndd
      have nb_dd := Ne.symm (b3.ne ndd)
      replace hsc := Sh.go hsc (Stp.new (m := []) (o := .dK (kvL L)) ndd) (by first | exact Sb.nil | exact Sb.refl | exact Sb.one (by simp [*])) Sb.refl
      replace ac := Acc.go ac (Stp.new (o := .dK (kvL L)) ndd)
      replace st := Stp.trans st (Stp.new (o := .dK (kvL L)) ndd)
      replace b3 := Bag.upd (o := .dK (kvL L)) b3 (b3.ne ndd)
      replace al3 := Alv.go al3 (Stp.new (m := []) (o := .dK (kvL L)) ndd)
      have h_dd : upd G4 dd (.dK (kvL L)) dd = some (.dK (kvL L)) := upd_same
      generalize upd G4 dd (.dK (kvL L)) = G5 at hsc ac st b3 al3 h_dd
      have scd : (ms.take g).Nodup := (pm.nodup_iff.mpr ndN).sublist (List.take_sublist _ _)
      have scs : ∀ x ∈ ms.take g, x ∈ L.map (·.1) := fun x hx => by rw [eNm]; exact pm.mem_iff.mp (List.mem_of_mem_take hx)
      have lsc : (ms.take g).length = g := by rw [List.length_take]; omega
      have ndL : (L.map (·.1)).Nodup := okL.nd
      have evr : EvsOk L rs := ⟨by omega, okr, by rw [ers]; exact ndT'.sublist (List.take_sublist _ _)⟩
      repeat (first | refine ⟨_, rfl, ?_⟩ | refine ⟨_, _, rfl, rfl, ?_⟩ | refine ⟨_, _, rfl, ?_⟩ | refine ⟨rfl, ?_⟩)
      cases c with
      | true =>
        repeat (first | refine ⟨_, rfl, ?_⟩ | refine ⟨_, _, rfl, rfl, ?_⟩ | refine ⟨_, _, rfl, ?_⟩ | refine ⟨rfl, ?_⟩)
        obtain ⟨rs', hrest, evr'⟩ : ∃ rs', (sL sRow).at [b] G5 (V.ref F) rs' ∧ EvsOk L rs' := ⟨rs, Sh.go ac.done Stp.refl Sb.nil (Sb.one hb), evr⟩
        refine ⟨F :: M, b, _, _, _, _, L, ms.take g, rs', rfl, List.mem_cons_of_mem _ hb, al3, b3, by omega, ⟨dd, rfl, nddF, h_dd⟩, okL, hsc, scd, by omega, scs, hrest, evr', fun v bad G9 s6 hbad lbad ndb okb b6 => ?_⟩
        have ac6 := ac.go s6
        have sc6 := Sh.go hsc s6 (Sb.one (List.mem_cons_of_mem _ hb)) Sb.refl
        have al6 := ac6.alv
        repeat (first | refine ⟨_, rfl, ?_⟩ | refine ⟨_, _, rfl, rfl, ?_⟩ | refine ⟨_, _, rfl, ?_⟩ | refine ⟨rfl, ?_⟩)
        refine ⟨lenk 3 rfl (by decide), fun t nt => ?_⟩
        have m3 := mk_3 (s := sStr) (x := ts'[i]) al6 nt rfl sc6 hbad
        repeat (first | refine ⟨_, rfl, ?_⟩ | refine ⟨_, _, rfl, rfl, ?_⟩ | refine ⟨_, _, rfl, ?_⟩ | refine ⟨rfl, ?_⟩)
        obtain ⟨acc, h1, h2, rs2, ac7, R7⟩ := ac6.put (y := (ts'[i], ms.take g, bad)) (R := fun z => z = rs ++ [(ts'[i], ms.take g, bad)]) (Stp.new nt) m3 (by omega) rfl
        subst R7
        have nFb : F ≠ b := fun e => nFM (e ▸ hb)
        refine ⟨F, _, _, rfl, rfl, h1, h2, ?_⟩
        refine ⟨_, _, _, rfl, ac7, fun r hr => ?_, ?_, ((st.trans (s6.wk sbF)).trans (Stp.new nt)).trans (Stp.put (by simp)), ((b6.upd (b6.ne nt)).upd nFb.symm).mono (by omega)⟩
        · rcases List.mem_append.mp hr with h | h
          · exact okr r h
          · rw [List.mem_singleton.mp h]
            exact ⟨okT' _ (List.getElem_mem le), by show 1 ≤ (ms.take g).length; omega, by show (ms.take g).length ≤ 4; omega, scs, scd, lbad, ndb, fun ns hns => (okb ns hns).1, fun ns hns => (okb ns hns).2⟩
        · rw [List.map_append, ers, take_snoc le]; rfl
      | false =>
        repeat (first | refine ⟨_, rfl, ?_⟩ | refine ⟨_, _, rfl, rfl, ?_⟩ | refine ⟨_, _, rfl, ?_⟩ | refine ⟨rfl, ?_⟩)
        refine ⟨Nat.zero_le _, fun e0 ne0 => ?_⟩
        have nb_e0 := Ne.symm (b3.ne ne0)
        have hrest0 := mk_lst (s := sRow) (M := [b]) (Alv.cons b3.some.choose_spec Alv.nil) ne0 .nil
        replace h_dd := Stp.at (Stp.new (m := []) (o := .lst []) ne0) h_dd (by first | exact List.not_mem_nil | assumption | simp [*])
        replace hsc := Sh.go hsc (Stp.new (m := []) (o := .lst []) ne0) (by first | exact Sb.nil | exact Sb.refl | exact Sb.one (by simp [*])) Sb.refl
        replace ac := Acc.go ac (Stp.new (o := .lst []) ne0)
        replace st := Stp.trans st (Stp.new (o := .lst []) ne0)
        replace b3 := Bag.upd (o := .lst []) b3 (b3.ne ne0)
        replace al3 := Alv.go al3 (Stp.new (m := []) (o := .lst []) ne0)
        have h_e0 : upd G5 e0 (.lst []) e0 = some (.lst []) := upd_same
        generalize upd G5 e0 (.lst []) = G6 at hrest0 h_dd hsc ac st b3 al3 h_e0
        obtain ⟨rs', hrest, evr'⟩ : ∃ rs', (sL sRow).at [b] G6 (V.ref e0) rs' ∧ EvsOk L rs' := ⟨[], hrest0, ⟨Nat.zero_le _, (fun _ h => by cases h), .nil⟩⟩
        refine ⟨F :: M, b, _, _, _, _, L, ms.take g, rs', rfl, List.mem_cons_of_mem _ hb, al3, b3, by omega, ⟨dd, rfl, nddF, h_dd⟩, okL, hsc, scd, by omega, scs, hrest, evr', fun v bad G9 s6 hbad lbad ndb okb b6 => ?_⟩
        have ac6 := ac.go s6
        have sc6 := Sh.go hsc s6 (Sb.one (List.mem_cons_of_mem _ hb)) Sb.refl
        have al6 := ac6.alv
        repeat (first | refine ⟨_, rfl, ?_⟩ | refine ⟨_, _, rfl, rfl, ?_⟩ | refine ⟨_, _, rfl, ?_⟩ | refine ⟨rfl, ?_⟩)
        refine ⟨lenk 3 rfl (by decide), fun t nt => ?_⟩
        have m3 := mk_3 (s := sStr) (x := ts'[i]) al6 nt rfl sc6 hbad
        repeat (first | refine ⟨_, rfl, ?_⟩ | refine ⟨_, _, rfl, rfl, ?_⟩ | refine ⟨_, _, rfl, ?_⟩ | refine ⟨rfl, ?_⟩)
        obtain ⟨acc, h1, h2, rs2, ac7, R7⟩ := ac6.put (y := (ts'[i], ms.take g, bad)) (R := fun z => z = rs ++ [(ts'[i], ms.take g, bad)]) (Stp.new nt) m3 (by omega) rfl
        subst R7
        have nFb : F ≠ b := fun e => nFM (e ▸ hb)
        refine ⟨F, _, _, rfl, rfl, h1, h2, ?_⟩
        refine ⟨_, _, _, rfl, ac7, fun r hr => ?_, ?_, ((st.trans (s6.wk sbF)).trans (Stp.new nt)).trans (Stp.put (by simp)), ((b6.upd (b6.ne nt)).upd nFb.symm).mono (by omega)⟩
        · rcases List.mem_append.mp hr with h | h
          · exact okr r h
          · rw [List.mem_singleton.mp h]
            exact ⟨okT' _ (List.getElem_mem le), by show 1 ≤ (ms.take g).length; omega, by show (ms.take g).length ≤ 4; omega, scs, scd, lbad, ndb, fun ns hns => (okb ns hns).1, fun ns hns => (okb ns hns).2⟩
        · rw [List.map_append, ers, take_snoc le]; rfl
    · rintro σ G ⟨y4, y9, rs, rfl, ac, okr, ers, st, bg⟩
      rw [List.length_map] at ers bg
      rw [List.take_length] at ers
      have evr : EvsOk L rs := ⟨by have := congrArg List.length ers; rw [List.length_map] at this; omega, okr, by rw [ers]; exact ndT'⟩
      have hrs := ac.done
      have hVg := Sh.go hV ac.st (Sb.one hb) Sb.refl
      obtain ⟨D', xs, eD, nDM, hDx, pdx⟩ := id hVg
      cases eD
      repeat (first | refine ⟨_, rfl, ?_⟩ | refine ⟨_, _, rfl, rfl, ?_⟩ | refine ⟨_, _, rfl, ?_⟩ | refine ⟨rfl, ?_⟩)
      refine ⟨lenk 2 rfl (by decide), fun p np => ?_⟩
      have alG : Alv M G := fun x hx => ac.alv x (List.mem_cons_of_mem _ hx)
      exact q _ L rs _ ((s0.trans ac.st).trans (Stp.new np)) (mk_P (s := sL sVar) (t := sL sRow) alG np hVg hrs) okL evr ((bg.upd (bg.ne np)).mono (by omega))

end K62
namespace K62
open PySem PySem.Spec PyProof.Rows L2 TL
/-! ### witness trees: the program -/
abbrev Pc := Str × List Int
abbrev sPc : Sh Pc := sP sStr (sT sInt)
theorem sPc_at {M : List Addr} {H : Hp} {v : V} {q : Pc} (h : sPc.at M H v q) : ∃ t u, v = .ref t ∧ t ∉ M ∧ H t = some (.tup [.str q.1, .ref u]) ∧ u ∉ M ∧ H u = some (.tup (q.2.map V.int)) := by
  obtain ⟨t, i, j, e, n, h, h1, h2⟩ := h
  obtain ⟨u, eu, nu, hu⟩ := Sh.tints h2
  cases h1; subst eu
  exact ⟨t, u, e, n, h, nu, hu⟩
def sp_chist (K : PySem.W.Frag) (C : Addr) : Sp := fun vs H Q _ => ∃ (p v : V) (L : List (Str × Int)) (R : List Row) (qs : List Pc), vs = [p, v] ∧ (sProb C).at [] H p (L, R) ∧ VarsOk L ∧ EvsOk L R ∧ (sL sPc).at [] H v qs ∧ qs.length ≤ 240 ∧ (∀ q ∈ qs, isPc R q) ∧ ∀ H', Same H H' → Q .non H'
theorem ok_check_history {P : Program} {w : World} {K : PySem.W.Frag} {mg : Str → Option Value} {base : Heap} (T : Txt P K mg) : FnOk P w K mg base CX0 5 T.f_check_history T.fd_check_history ["problem", "history"] (sp_chist K T.C_Problem) := by
  refine T.F_check_history.ok sc_check_history (fun vs H Q E h => ?_) (fun cdv A outer s H vs Q E hr h => ?_)
  · obtain ⟨_, _, _, _, _, rfl, _⟩ := h; rfl
  · obtain ⟨p, v, L, R, qs, rfl, ⟨p, rfl, hP⟩, okL, okR, ⟨a, xs, rfl, -, ha, pd⟩, l240, hq, q⟩ := h
    have lx := plen pd
    refine ⟨_, PSs.nox (pss_cons (ps_if (pt_not (pt_val (pe_call (ok_is_list T) (hr.mono (by decide)) (by rfl) T.g_is_list T.F_is_list.kp (b_is_list T) .nil pass0 (pa_cons (pv 1) (pa_cons pe_int (pa_cons (pe_glob (v := .int 240) (by rfl) T.c_MOST_PIECES.choose_spec ⟨_, rfl⟩) pa_nil)))))) (pss_one ps_never) pss_nil)
      (pss_one (ps_for PassesOwn.never rfl (pi_enum (by rfl) T.n_enumerate (pa_cons (pv 1) pa_nil)) (pg_tup rfl (pgs_cons (pg_name (i := 2) sc_check_history.nd rfl (Or.inl rfl)) (pgs_cons (pg_name (i := 3) sc_check_history.nd rfl (Or.inl rfl)) pgs_nil))) (pss_one (ps_if (pt_not (pt_val (pe_meth (pl := _) (pv 0) T.cl_Problem T.m_Problem_is_piece (ok_Problem_is_piece T) (hr.mono (by decide)) (b_Problem_is_piece T) .nil pass0 (pa_cons (pv 3) pa_nil)))) (pss_one ps_never) pss_nil))))), ?_⟩
    repeat (first | refine ⟨_, rfl, ?_⟩ | refine ⟨_, _, rfl, rfl, ?_⟩ | refine ⟨_, _, rfl, ?_⟩ | refine ⟨rfl, ?_⟩)
    refine ⟨a, xs, 0, 240, rfl, .inl ha, by omega, by omega, fun H1 s1 => ?_⟩
    repeat (first | refine ⟨_, rfl, ?_⟩ | refine ⟨_, _, rfl, rfl, ?_⟩ | refine ⟨_, _, rfl, ?_⟩ | refine ⟨rfl, ?_⟩)
    refine ⟨a, _, rfl, SqL.of (s1 _ _ ha), ?_⟩
    refine for_it (walk_enum (K := K) (a := a) (xs := xs)) (fun i σ H' => ∃ y2 y3, σ = [some (.ref p), some (.ref a), y2, y3] ∧ Same H H') ⟨_, _, rfl, s1⟩ (fun i σ H' _ ⟨_, _, _, k⟩ => SqL.of (k _ _ ha)) ?_ ?_
    · rintro i x σ Hx H4 hi ⟨y2, y3, rfl, s4⟩ ⟨T1, x1, x2, rfl, nT, rfl, ex1, ex2⟩
      cases ex1
      obtain ⟨q1, hq1, hm⟩ := pget' pd ex2
      obtain ⟨t, u, rfl, -, ht, -, hu⟩ := sPc_at hm
      have s5 := s4.trans (Same.new (o := .tup [.int (i : Nat), .ref t]) nT)
      refine ⟨T1, _, rfl, .inl (.inl upd_same), rfl, _, _, rfl, _, _, rfl, rfl, ?_⟩
      repeat (first | refine ⟨_, rfl, ?_⟩ | refine ⟨_, _, rfl, rfl, ?_⟩ | refine ⟨_, _, rfl, ?_⟩ | refine ⟨rfl, ?_⟩)
      obtain ⟨dx, fs, hp, hm⟩ := hP.at'
      refine ⟨p, dx, _, rfl, s5 _ _ hp, hm _ (by decide +kernel), ?_⟩
      repeat (first | refine ⟨_, rfl, ?_⟩ | refine ⟨_, _, rfl, rfl, ?_⟩ | refine ⟨_, _, rfl, ?_⟩ | refine ⟨rfl, ?_⟩)
      refine ⟨p, t, u, _, _, L, R, q1.1, q1.2, rfl, hP.same s5, okL, okR, s5 _ _ ht, s5 _ _ hu, hq _ (List.mem_of_getElem? hq1), fun H6 s6 => ?_⟩
      repeat (first | refine ⟨_, rfl, ?_⟩ | refine ⟨_, _, rfl, rfl, ?_⟩ | refine ⟨_, _, rfl, ?_⟩ | refine ⟨rfl, ?_⟩)
      exact s5.trans s6
    · rintro σ H4 ⟨y2, y3, rfl, s4⟩
      exact q _ s4
/-- what a tree's row holds: depth, event, values, parent -/
structure TRow where
  d : Int
  x : Str
  ns : List Int
  p : Option Nat
  deriving DecidableEq
def parV : Option Nat → V
  | none => .non
  | some n => .int (n : Nat)
def sTr : Sh TRow := ⟨fun W H v r => ∃ a u, v = .ref a ∧ W a ∧ H a = some (.tup [.int r.d, .str r.x, .ref u, parV r.p]) ∧ W u ∧ H u = some (.tup (r.ns.map V.int)), fun ⟨a, u, e, w, h, w2, h2⟩ k => ⟨a, u, e, (k _ _ w h).2, (k _ _ w h).1, (k _ _ w2 h2).2, (k _ _ w2 h2).1⟩⟩
/-- the last row of each event: less its depth, and its place -/
abbrev DpF := Str → Option (Int × Int)
def sDq : Sh DpF := ⟨fun W H v f => ∃ D kvs, v = .ref D ∧ W D ∧ H D = some (.dK kvs) ∧ (∀ x : Str, f x = none → valV kvs (Sum.inr x) = none) ∧ ∀ (x : Str) (q : Int × Int), f x = some q → ∃ t, valV kvs (Sum.inr x) = some (.ref t) ∧ W t ∧ H t = some (.tup [.int q.1, .int q.2]),
  fun ⟨D, kvs, e, w, h, g1, g2⟩ k => ⟨D, kvs, e, (k _ _ w h).2, (k _ _ w h).1, g1, fun x q hx => by
    obtain ⟨t, h1, h2, h3⟩ := g2 x q hx
    exact ⟨t, h1, (k _ _ h2 h3).2, (k _ _ h2 h3).1⟩⟩⟩
/-- an event and its neighbors -/
def near (R : List Row) (x : Str) : List Str := match R.find? fun r => decide (r.1 = x) with
  | none => []
  | some r => r.1 :: nbs R r
theorem near_of {R : List Row} (nd : (R.map (·.1)).Nodup) {r : Row} (hr : r ∈ R) : near R r.1 = r.1 :: nbs R r := by
  have h : R.find? (fun s => decide (s.1 = r.1)) = some r := by
    induction R with
    | nil => cases hr
    | cons y R ih =>
      rw [List.map_cons, List.nodup_cons] at nd
      rcases List.mem_cons.mp hr with e | h
      · subst e; simp
      · have ne : y.1 ≠ r.1 := fun e => nd.1 (by rw [e]; exact List.mem_map.mpr ⟨r, h, rfl⟩)
        rw [List.find?_cons_of_neg (by simpa using ne)]
        exact ih nd.2 h
  unfold near
  rw [h]
/-- one piece more, going back -/
def tstep (R : List Row) (st : List TRow × DpF) (q : Pc) : List TRow × DpF :=
  match (near R q.1).filterMap st.2 with
  | [] => st
  | f :: fs => (st.1 ++ [⟨1 - (minP f fs).1, q.1, q.2, some (minP f fs).2.toNat⟩], fun y => if y = q.1 then some ((minP f fs).1 - 1, (st.1.length : Int)) else st.2 y)
def tinit (q : Pc) : List TRow × DpF := ([⟨0, q.1, q.2, none⟩], fun y => if y = q.1 then some (0, 0) else none)
def tst (R : List Row) (qs : List Pc) (k : Nat) (q : Pc) (i : Nat) : List TRow × DpF := ((qs.take k).reverse.take i).foldl (tstep R) (tinit q)
/-- the tree of a step -/
def treeOf (R : List Row) (qs : List Pc) (k : Nat) (q : Pc) : List TRow := (tst R qs k q k).1
theorem minP_mem (q : Int × Int) : ∀ qs : List (Int × Int), minP q qs ∈ q :: qs := by
  intro qs
  unfold minP
  induction qs generalizing q with
  | nil => exact List.mem_cons_self
  | cons y r ih =>
    rw [List.foldl_cons]
    by_cases h : ltP y q = true
    · rw [if_pos h]; exact List.mem_cons_of_mem _ (ih y)
    · rw [if_neg h]
      rcases List.mem_cons.mp (ih q) with e | e
      · rw [e]; exact List.mem_cons_self
      · exact List.mem_cons_of_mem _ (List.mem_cons_of_mem _ e)
theorem tst_snoc {R : List Row} {qs : List Pc} {k : Nat} {q y : Pc} {i : Nat} (h : (qs.take k).reverse[i]? = some y) : tst R qs k q (i + 1) = tstep R (tst R qs k q i) y := by
  unfold tst
  obtain ⟨li, e⟩ := List.getElem?_eq_some_iff.mp h
  rw [take_snoc li, List.foldl_append, e]; rfl
theorem tstep_nil {R : List Row} {st : List TRow × DpF} {y : Pc} (h : (near R y.1).filterMap st.2 = []) : tstep R st y = st := by
  unfold tstep; rw [h]
theorem tstep_cons {R : List Row} {st : List TRow × DpF} {y : Pc} {f : Int × Int} {fs : List (Int × Int)} (h : (near R y.1).filterMap st.2 = f :: fs) :
    tstep R st y = (st.1 ++ [⟨1 - (minP f fs).1, y.1, y.2, some (minP f fs).2.toNat⟩], fun z => if z = y.1 then some ((minP f fs).1 - 1, (st.1.length : Int)) else st.2 z) := by
  unfold tstep; rw [h]
/-- the rows and the dict of the deepest, at a heap -/
structure TL (M : List Addr) (H0 : Hp) (F d : Addr) (st : List TRow × DpF) (n : Nat) (H : Hp) : Prop where
  stp : Stp [F, d] H0 H
  len : st.1.length ≤ n
  rows : ∃ vs, H F = some (.lst vs) ∧ Paired (sTr.at (F :: d :: M) H) vs st.1
  dq : ∃ kvs, H d = some (.dK kvs) ∧ kvs.length ≤ n ∧ (∀ x : Str, st.2 x = none → valV kvs (Sum.inr x) = none) ∧ ∀ (x : Str) (q : Int × Int), st.2 x = some q → 0 ≤ q.2 ∧ ∃ t, valV kvs (Sum.inr x) = some (.ref t) ∧ H t = some (.tup [.int q.1, .int q.2])
theorem TL.same {M : List Addr} {H0 H H' : Hp} {F d : Addr} {st : List TRow × DpF} {n : Nat} (h : TL M H0 F d st n H) (s : Same H H') : TL M H0 F d st n H' := by
  obtain ⟨a, l, ⟨vs, h1, h2⟩, ⟨kvs, h3, h4, h5, h6⟩⟩ := h
  exact ⟨a.trans (Stp.of_same s), l, ⟨vs, s _ _ h1, Paired.mapP h2 fun _ _ z => sTr.mv z fun a o n e => ⟨s _ _ e, n⟩⟩, ⟨kvs, s _ _ h3, h4, h5, fun x q hx => by
    obtain ⟨z, t, h7, h8⟩ := h6 x q hx
    exact ⟨z, t, h7, s _ _ h8⟩⟩⟩
theorem TL.mono {M : List Addr} {H0 H : Hp} {F d : Addr} {st : List TRow × DpF} {n n' : Nat} (h : TL M H0 F d st n H) (l : n ≤ n') : TL M H0 F d st n' H := by
  obtain ⟨a, l0, h2, ⟨kvs, h3, h4, h5⟩⟩ := h
  exact ⟨a, Nat.le_trans l0 l, h2, ⟨kvs, h3, Nat.le_trans h4 l, h5⟩⟩
theorem TL.step {M : List Addr} {H0 H : Hp} {F d t3 t4 u : Addr} {S : List TRow × DpF} {n : Nat} {y : Pc} {m : Int × Int} {vs : List V} {kvs : List (Key × V)} (al : Alv M H) (h : TL M H0 F d S n H) (hF : H F = some (.lst vs)) (hd : H d = some (.dK kvs)) (n3 : H t3 = none)
    (hu : H u = some (.tup (y.2.map V.int))) (nu : u ∉ F :: d :: M) (n4 : upd (upd H t3 (.tup [.int (m.1 - 1), .int (vs.length : Nat)])) d (.dK (putK kvs (Sum.inr y.1) (.ref t3))) t4 = none) (m0 : 0 ≤ m.2) :
    TL M H0 F d (S.1 ++ [⟨1 - m.1, y.1, y.2, some m.2.toNat⟩], fun z => if z = y.1 then some (m.1 - 1, (S.1.length : Int)) else S.2 z) (n + 1)
      (upd (upd (upd (upd H t3 (.tup [.int (m.1 - 1), .int (vs.length : Nat)])) d (.dK (putK kvs (Sum.inr y.1) (.ref t3)))) t4 (.tup [.int (1 - m.1), .str y.1, .ref u, .int m.2])) F (.lst (vs ++ [.ref t4]))) := by
  have nFd : F ≠ d := ne_of hF hd (by simp)
  have n3F : t3 ≠ F := fun e => by rw [e, hF] at n3; cases n3
  have n3d : t3 ≠ d := fun e => by rw [e, hd] at n3; cases n3
  have n4d : t4 ≠ d := fun e => by rw [e, upd_same] at n4; cases n4
  have n4' := n4
  rw [upd_ne n4d] at n4
  have n43 : t4 ≠ t3 := fun e => by rw [e, upd_same] at n4; cases n4
  rw [upd_ne n43] at n4
  have n4F : t4 ≠ F := fun e => by rw [e, hF] at n4; cases n4
  have kp : ∀ x o, H x = some o → x ≠ F → x ≠ d → upd (upd (upd (upd H t3 (.tup [.int (m.1 - 1), .int (vs.length : Nat)])) d (.dK (putK kvs (Sum.inr y.1) (.ref t3)))) t4 (.tup [.int (1 - m.1), .str y.1, .ref u, .int m.2])) F (.lst (vs ++ [.ref t4])) x = some o := fun x o e a1 a2 => by
    have a3 : x ≠ t3 := fun z => by rw [z, n3] at e; cases e
    have a4 : x ≠ t4 := fun z => by rw [z, n4] at e; cases e
    rw [upd_ne a1, upd_ne a4, upd_ne a2, upd_ne a3]; exact e
  have k4 : upd (upd (upd (upd H t3 (.tup [.int (m.1 - 1), .int (vs.length : Nat)])) d (.dK (putK kvs (Sum.inr y.1) (.ref t3)))) t4 (.tup [.int (1 - m.1), .str y.1, .ref u, .int m.2])) F (.lst (vs ++ [.ref t4])) t4 = some (.tup [.int (1 - m.1), .str y.1, .ref u, .int m.2]) := by rw [upd_ne n4F]; exact upd_same
  have k3 : upd (upd (upd (upd H t3 (.tup [.int (m.1 - 1), .int (vs.length : Nat)])) d (.dK (putK kvs (Sum.inr y.1) (.ref t3)))) t4 (.tup [.int (1 - m.1), .str y.1, .ref u, .int m.2])) F (.lst (vs ++ [.ref t4])) t3 = some (.tup [.int (m.1 - 1), .int (vs.length : Nat)]) := by
    rw [upd_ne n3F, upd_ne (Ne.symm n43), upd_ne n3d]; exact upd_same
  have kd : upd (upd (upd (upd H t3 (.tup [.int (m.1 - 1), .int (vs.length : Nat)])) d (.dK (putK kvs (Sum.inr y.1) (.ref t3)))) t4 (.tup [.int (1 - m.1), .str y.1, .ref u, .int m.2])) F (.lst (vs ++ [.ref t4])) d = some (.dK (putK kvs (Sum.inr y.1) (.ref t3))) := by
    rw [upd_ne (Ne.symm nFd), upd_ne (Ne.symm n4d)]; exact upd_same
  have kF : upd (upd (upd (upd H t3 (.tup [.int (m.1 - 1), .int (vs.length : Nat)])) d (.dK (putK kvs (Sum.inr y.1) (.ref t3)))) t4 (.tup [.int (1 - m.1), .str y.1, .ref u, .int m.2])) F (.lst (vs ++ [.ref t4])) F = some (.lst (vs ++ [.ref t4])) := upd_same
  generalize upd (upd (upd (upd H t3 (.tup [.int (m.1 - 1), .int (vs.length : Nat)])) d (.dK (putK kvs (Sum.inr y.1) (.ref t3)))) t4 (.tup [.int (1 - m.1), .str y.1, .ref u, .int m.2])) F (.lst (vs ++ [.ref t4])) = G at kp k4 k3 kd kF
  obtain ⟨stp, len, ⟨vs', hF', pF⟩, ⟨kvs', hd', lk, g1, g2⟩⟩ := h
  rw [hF] at hF'; cases hF'
  rw [hd] at hd'; cases hd'
  have lv := plen pF
  have n4M : t4 ∉ F :: d :: M := fun z => by
    rcases List.mem_cons.mp z with e | z
    · exact n4F e
    · rcases List.mem_cons.mp z with e | z
      · exact n4d e
      · obtain ⟨o, e⟩ := al _ z
        rw [n4] at e; cases e
  have nuF : u ≠ F := fun e => nu (by simp [e])
  have nud : u ≠ d := fun e => nu (by simp [e])
  refine ⟨stp.trans fun x o e => ?_, by simp; omega, ⟨_, kF, psnoc (Paired.mapP pF fun _ _ z => sTr.mv z fun x o w e => ⟨kp _ _ e (fun z => w (by simp [z])) fun z => w (by simp [z]), w⟩) ⟨t4, u, rfl, n4M, ?_, nu, kp _ _ hu nuF nud⟩⟩, ⟨_, kd, ?_, fun x hx => ?_, fun x q hx => ?_⟩⟩
  · by_cases a1 : x = F
    · exact ⟨⟨_, by rw [a1]; exact kF⟩, fun z => absurd (by simp [a1]) z⟩
    · by_cases a2 : x = d
      · exact ⟨⟨_, by rw [a2]; exact kd⟩, fun z => absurd (by simp [a2]) z⟩
      · exact ⟨⟨_, kp _ _ e a1 a2⟩, fun _ => kp _ _ e a1 a2⟩
  · rw [k4]
    show _ = some (HO.tup [.int (1 - m.1), .str y.1, .ref u, .int ((m.2.toNat : Nat) : Int)])
    rw [Int.toNat_of_nonneg m0]
  · have := length_putK kvs (Sum.inr y.1) (.ref t3)
    omega
  · replace hx : (if x = y.1 then some (m.1 - 1, (S.1.length : Int)) else S.2 x) = none := hx
    by_cases e : x = y.1
    · rw [if_pos e] at hx; cases hx
    · rw [if_neg e] at hx
      rw [valV_put, if_neg (fun z => e (Sum.inr.inj z))]
      exact g1 x hx
  · replace hx : (if x = y.1 then some (m.1 - 1, (S.1.length : Int)) else S.2 x) = some q := hx
    by_cases e : x = y.1
    · rw [if_pos e] at hx
      cases hx
      exact ⟨Int.natCast_nonneg _, t3, by rw [valV_put, if_pos (by rw [e])], by rw [k3, lv]⟩
    · rw [if_neg e] at hx
      obtain ⟨z, t, h1, h2⟩ := g2 x q hx
      exact ⟨z, t, by rw [valV_put, if_neg (fun z => e (Sum.inr.inj z))]; exact h1, kp _ _ h2 (ne_of h2 hF (by simp)) (ne_of h2 hd (by simp))⟩
theorem keysP {F : Str × Addr → Row → Prop} (hF : ∀ z r, F z r → z.1 = r.1) : ∀ {N : List (Str × Addr)} {R : List Row}, Paired F N R → N.map (·.1) = R.map (·.1)
  | _, _, .nil => rfl
  | _, _, .cons r t => by rw [List.map_cons, List.map_cons, hF _ _ r, keysP hF t]
def sp_tree (K : PySem.W.Frag) (C : Addr) : Sp := fun vs H Q _ => ∃ (M : List Addr) (p v : V) (L : List (Str × Int)) (R : List Row) (qs : List Pc) (k : Nat) (q : Pc), vs = [p, v, .int (k : Nat)] ∧ Alv M H ∧ (sProb C).at [] H p (L, R) ∧ VarsOk L ∧ EvsOk L R ∧ (sL sPc).at M H v qs ∧ qs.length ≤ 240 ∧ (∀ q ∈ qs, isPc R q) ∧ qs[k]? = some q ∧
  ∀ w H', Same H H' → (sL sTr).at M H' w (treeOf R qs k q) → Q w H'
theorem ok__tree_of {P : Program} {w : World} {K : PySem.W.Frag} {mg : Str → Option Value} {base : Heap} (T : Txt P K mg) : FnOk P w K mg base CX0 4 T.f__tree_of T.fd__tree_of ["problem", "history", "step"] (sp_tree K T.C_Problem) := by
  refine T.F__tree_of.ok sc__tree_of (fun vs H Q E h => ?_) (fun cdv A outer s H vs Q E hr h => ?_)
  · obtain ⟨_, _, _, _, _, _, _, _, rfl, _⟩ := h; rfl
  · obtain ⟨M, p, v, L, R, qs, k, q, rfl, al, ⟨p, rfl, hP⟩, okL, okR, ⟨a, xs, rfl, na, ha, pd⟩, l240, hq, hk, q'⟩ := h
    have lx := plen pd
    refine ⟨_, PSs.nox (pss_cons (ps_setDc (i := 4) (own := [("event", 3)]) (g := gName 3) rfl sc__tree_of.nd rfl rfl (swD_true rfl rfl rfl (by decide +kernel)) (pi_list (pe_meth0 (pl := _) (pv 0) T.cl_Problem T.m_Problem_events (ok_Problem_events T) (hr.mono (by decide)) (b_Problem_events T) .nil pass0)) (blkOk_by (own := [("event", 3)]) (N := N__tree_of) (sc := defScope s__tree_of) (by decide +kernel)) (fun _ _ _ _ _ => (pg_name (i := 3) sc__tree_of.nd rfl (Or.inl rfl))) (fun _ _ _ _ _ => pts_nil) (fun _ _ _ _ _ => (pv 3)) (fun _ _ _ _ _ => (pe_op op_cat (pe_lst (pa_cons (pv 3) pa_nil)) (pe_meth (pl := _) (pv 0) T.cl_Problem T.m_Problem_neighbors (ok_Problem_neighbors T) (hr.mono (by decide)) (b_Problem_neighbors T) .nil pass0 (pa_cons (pv 3) pa_nil)))))
      (pss_cons (ps_asg (pe_ix (show IxR _ (rIxL K) from ix_list) (pv 1) (pv 2) (fun _ _ => rfl)) (pg_tup rfl (pgs_cons (pg_name (i := 3) sc__tree_of.nd rfl (Or.inl rfl)) (pgs_cons (pg_name (i := 5) sc__tree_of.nd rfl (Or.inl rfl)) pgs_nil))))
      (pss_cons (ps_set (i := 6) sc__tree_of.nd rfl (Or.inl rfl) (pe_lst (pa_cons (pe_tup (pa_cons pe_int (pa_cons (pv 3) (pa_cons (pv 5) (pa_cons pe_non pa_nil))))) pa_nil)))
      (pss_cons (ps_set (i := 7) sc__tree_of.nd rfl (Or.inr rfl) (pe_disp (pps_cons (pv 3) (pe_tup (pa_cons pe_int (pa_cons pe_int pa_nil))) pps_nil) (by rfl) (by rfl) (fun z => by cases z) (by decide)))
      (pss_cons (ps_for PassesOwn.never rfl (pi_reversed (by rfl) T.n_reversed (pa_cons (pe_slice (show SlR _ (rSlL K) from sl_list) (pv 1) po_none (po_some (pv 2))) pa_nil)) (pg_tup rfl (pgs_cons (pg_name (i := 3) sc__tree_of.nd rfl (Or.inl rfl)) (pgs_cons (pg_name (i := 5) sc__tree_of.nd rfl (Or.inl rfl)) pgs_nil))) (pss_cons (ps_setLc (i := 8) (own := [("other", 11)]) (g := gName 11) rfl sc__tree_of.nd rfl rfl (sw_true rfl rfl rfl (by decide +kernel)) (pi_list (pe_dget (hu_of hr) (pv 4) (pv 3) (fun _ _ => rfl))) (blkOk_by (own := [("other", 11)]) (N := N__tree_of) (sc := defScope s__tree_of) (by decide +kernel)) (fun _ _ _ _ _ => (pg_name (i := 11) sc__tree_of.nd rfl (Or.inl rfl))) (fun _ _ _ _ _ => pts_one (pt_cmp (pc_din (hu_of hr) (pv 11) (pv 7)))) (fun _ _ _ _ _ => (pe_dget (hu_of hr) (pv 7) (pv 11) (fun _ _ => rfl))))
      (pss_one (ps_if (pt_cmpR (show OpR _ (compareOp .NotEq) (rNeD K) from op_neD hr.units) (pv 8) (pe_lst pa_nil) (nomark _)) (pss_cons (ps_asg (pe_callB (show CallR _ _ (rMinP K) from cr_minP rfl (hu65 hr)) (by rfl) T.n_min (by decide +kernel) (pa_cons (pv 8) pa_nil)) (pg_tup rfl (pgs_cons (pg_name (i := 9) sc__tree_of.nd rfl (Or.inl rfl)) (pgs_cons (pg_name (i := 10) sc__tree_of.nd rfl (Or.inl rfl)) pgs_nil))))
      (pss_cons (ps_asg (pe_tup (pa_cons (pe_op op_sub (pv 9) pe_int) (pa_cons (pe_callB (show CallR _ _ (rLenSeq K) from call_len_seq) (by rfl) T.n_len (by decide +kernel) (pa_cons (pv 6) pa_nil)) pa_nil))) (pg_sub (pv 7) (pv 3) (set_dict (hu_of hr))))
      (pss_one (ps_expr (pe_bm PySem.F.plainAttrs_list PySem.F.slot_list_append PySem.F.type_list_append mt_append (pv 6) (pa_cons (pe_tup (pa_cons (pe_op op_sub pe_int (pv 9)) (pa_cons (pv 3) (pa_cons (pv 5) (pa_cons (pv 10) pa_nil))))) pa_nil)))))) pss_nil))))
      (pss_one (ps_ret (pv 6)))))))), ?_⟩
    repeat (first | refine ⟨_, rfl, ?_⟩ | refine ⟨_, _, rfl, rfl, ?_⟩ | refine ⟨_, _, rfl, ?_⟩ | refine ⟨rfl, ?_⟩)
    obtain ⟨dx, fs, hp, hm⟩ := hP.at'
    refine ⟨p, dx, _, rfl, hp, hm _ (by decide +kernel), ?_⟩
    repeat (first | refine ⟨_, rfl, ?_⟩ | refine ⟨_, _, rfl, rfl, ?_⟩ | refine ⟨_, _, rfl, ?_⟩ | refine ⟨rfl, ?_⟩)
    refine ⟨p, _, _, L, R, rfl, hP, fun l nl => ?_⟩
    have s1 : Same H (upd H l (.lst ((R.map (·.1)).map V.str))) := Same.new nl
    have hl : upd H l (.lst ((R.map (·.1)).map V.str)) l = some (.lst ((R.map (·.1)).map V.str)) := upd_same
    generalize upd H l (.lst ((R.map (·.1)).map V.str)) = H1 at s1 hl
    have r8 := okR.few
    refine ⟨l, rfl, ⟨_, SqL.of hl⟩, fun D nD => ?_⟩
    refine dc_it (walk_list (K := K) (a := l) (xs := (R.map (·.1)).map V.str)) (fun i H' => ∃ N : List (Str × Addr), H' D = some (.dK (kvN N)) ∧ Paired (fun z r => z.1 = r.1 ∧ H' z.2 = some (.lst ((r.1 :: nbs R r).map V.str))) N (R.take i) ∧ Same H1 H') ⟨[], upd_same, .nil, Same.new nD⟩ (fun i H' _ ⟨_, _, _, k⟩ => SqL.of (k _ _ hl)) ?_ ?_
    · rintro i x Hx H6 hi ⟨N, hD, pn, s2⟩ ⟨rfl, hx⟩
      obtain ⟨le, rfl⟩ := str_at' hx
      rw [List.length_map] at le
      rw [List.getElem_map]
      refine ⟨wipe_in (by decide), ?_⟩
      repeat (first | refine ⟨_, rfl, ?_⟩ | refine ⟨_, _, rfl, rfl, ?_⟩ | refine ⟨_, _, rfl, ?_⟩ | refine ⟨rfl, ?_⟩)
      refine ⟨lenk 1 rfl (by decide), fun e ne => ?_⟩
      have s3 : Same H1 (upd H6 e (.lst [.str R[i].1])) := s2.trans (Same.new ne)
      have k3 : Same H6 (upd H6 e (.lst [.str R[i].1])) := Same.new ne
      have he : upd H6 e (.lst [.str R[i].1]) e = some (.lst [.str R[i].1]) := upd_same
      generalize upd H6 e (.lst [.str R[i].1]) = H7 at s3 k3 he
      repeat (first | refine ⟨_, rfl, ?_⟩ | refine ⟨_, _, rfl, rfl, ?_⟩ | refine ⟨_, _, rfl, ?_⟩ | refine ⟨rfl, ?_⟩)
      refine ⟨p, dx, _, rfl, s3 _ _ (s1 _ _ hp), hm _ (by decide +kernel), ?_⟩
      repeat (first | refine ⟨_, rfl, ?_⟩ | refine ⟨_, _, rfl, rfl, ?_⟩ | refine ⟨_, _, rfl, ?_⟩ | refine ⟨rfl, ?_⟩)
      refine ⟨p, _, _, L, R, R[i], rfl, (hP.same s1).same s3, okR.nd, List.getElem_mem le, fun l2 nl2 => ?_⟩
      have s4 : Same H1 (upd H7 l2 (.lst ((nbs R R[i]).map V.str))) := s3.trans (Same.new nl2)
      have k4 : Same H6 (upd H7 l2 (.lst ((nbs R R[i]).map V.str))) := k3.trans (Same.new nl2)
      have he4 : upd H7 l2 (.lst ((nbs R R[i]).map V.str)) e = some (.lst [.str R[i].1]) := by rw [upd_ne (ne_of_none he nl2)]; exact he
      have hl2 : upd H7 l2 (.lst ((nbs R R[i]).map V.str)) l2 = some (.lst ((nbs R R[i]).map V.str)) := upd_same
      generalize upd H7 l2 (.lst ((nbs R R[i]).map V.str)) = H8 at s4 k4 he4 hl2
      have nb8 : (nbs R R[i]).length ≤ 8 := by unfold nbs; rw [List.length_map]; exact Nat.le_trans (List.length_filter_le _ _) r8
      refine ⟨e, l2, _, _, rfl, rfl, he4, hl2, by rw [List.length_map, sizeLine_eq]; simp; omega, fun c nc => ?_⟩
      rw [show ([V.str R[i].1] ++ (nbs R R[i]).map V.str) = (R[i].1 :: nbs R R[i]).map V.str from rfl]
      have k5 : Same H6 (upd H8 c (.lst ((R[i].1 :: nbs R R[i]).map V.str))) := k4.trans (Same.new nc)
      have s5 : Same H1 (upd H8 c (.lst ((R[i].1 :: nbs R R[i]).map V.str))) := s4.trans (Same.new nc)
      have hc : upd H8 c (.lst ((R[i].1 :: nbs R R[i]).map V.str)) c = some (.lst ((R[i].1 :: nbs R R[i]).map V.str)) := upd_same
      generalize upd H8 c (.lst ((R[i].1 :: nbs R R[i]).map V.str)) = H9 at k5 s5 hc
      have hD9 := k5 _ _ hD
      have lN : N.length = i := by have := plen pn; rw [List.length_take] at this; omega
      have kN := keysP (fun _ _ z => z.1) pn
      have hn := val_none (l := N) (f := fun q => q.1) (g := fun q => V.ref q.2) (x := R[i].1) (by
        rw [show (N.map fun q => q.1) = (R.take i).map (·.1) from kN]
        have h := not_mem_take okR.nd (i := i) (by rw [List.length_map]; exact le)
        rw [List.getElem_map, ← List.map_take] at h
        exact h)
      refine ⟨_, Sum.inr R[i].1, rfl, hD9, by unfold kvN; rw [List.length_map, sizeLine_eq]; omega, N ++ [(R[i].1, c)], ?_, ?_, Same.upd_p s5 nD⟩
      · rw [upd_same]
        unfold kvN
        rw [putK_new _ hn, List.map_append]; rfl
      · rw [take_snoc le]
        have mv : ∀ {x : Addr} {zs : List V}, H9 x = some (.lst zs) → upd H9 D (.dK (putK (kvN N) (Sum.inr R[i].1) (.ref c))) x = some (.lst zs) := fun {x zs} h => by rw [upd_ne (ne_of h hD9 (by simp))]; exact h
        exact psnoc (Paired.mono (fun _ _ z => ⟨z.1, mv (k5 _ _ z.2)⟩) pn) ⟨rfl, mv hc⟩
    rintro H2 ⟨N, hD, pn, s2⟩
    rw [List.length_map, List.length_map, List.take_length] at pn
    have nf : ∀ r ∈ R, ∃ c, valV (kvN N) (Sum.inr r.1) = some (.ref c) ∧ H2 c = some (.lst ((r.1 :: nbs R r).map V.str)) := fun r hr => by
      have kN := keysP (fun _ _ z => z.1) pn
      obtain ⟨i, hi⟩ := List.getElem?_of_mem hr
      obtain ⟨z, hz, e, hl⟩ := pd_get' pn hi
      refine ⟨z.2, ?_, hl⟩
      rw [← e]
      exact val_map (fun q => q.1) (fun q => V.ref q.2) (by rw [show (N.map fun q => q.1) = R.map (·.1) from kN]; exact okR.nd) (List.mem_of_getElem? hz)
    clear pn
    have s2' := s1.trans s2
    repeat (first | refine ⟨_, rfl, ?_⟩ | refine ⟨_, _, rfl, rfl, ?_⟩ | refine ⟨_, _, rfl, ?_⟩ | refine ⟨rfl, ?_⟩)
    obtain ⟨v0, hv0, hm0⟩ := pd_get' pd hk
    obtain ⟨t0, u0, rfl, nt0, ht0, nu0, hu0⟩ := sPc_at hm0
    refine ⟨a, xs, k, _, rfl, rfl, SqL.of (s2' _ _ ha), atI_nat hv0, ?_⟩
    refine ⟨t0, _, rfl, .inl (.inl (s2' _ _ ht0)), rfl, _, _, rfl, _, _, rfl, rfl, ?_⟩
    repeat (first | refine ⟨_, rfl, ?_⟩ | refine ⟨_, _, rfl, rfl, ?_⟩ | refine ⟨_, _, rfl, ?_⟩ | refine ⟨rfl, ?_⟩)
    rw [show L2.start N__tree_of [V.ref p, V.ref a, V.int (k : Nat)] = [some (.ref p), some (.ref a), some (.int (k : Nat)), none, none, none, none, none, none, none, none, none] from rfl]
    simp only [List.set_cons_succ, List.set_cons_zero]
    repeat (first | refine ⟨_, rfl, ?_⟩ | refine ⟨_, _, rfl, rfl, ?_⟩ | refine ⟨_, _, rfl, ?_⟩ | refine ⟨rfl, ?_⟩)
    refine ⟨lenk 4 rfl (by decide), fun t1 nt1 => ?_⟩
    have k3 : Same H2 (upd H2 t1 (.tup [.int 0, .str q.1, .ref u0, .non])) := Same.new nt1
    have ht1 : upd H2 t1 (.tup [.int 0, .str q.1, .ref u0, .non]) t1 = some (.tup [.int 0, .str q.1, .ref u0, .non]) := upd_same
    generalize upd H2 t1 (.tup [.int 0, .str q.1, .ref u0, .non]) = H3 at k3 ht1
    have ht14' := ht1
    repeat (first | refine ⟨_, rfl, ?_⟩ | refine ⟨_, _, rfl, rfl, ?_⟩ | refine ⟨_, _, rfl, ?_⟩ | refine ⟨rfl, ?_⟩)
    refine ⟨lenk 1 rfl (by decide), fun F nF => ?_⟩
    have nFM : F ∉ M := fun h => by
      obtain ⟨o, e⟩ := al F h
      rw [k3 _ _ (s2' _ _ e)] at nF; cases nF
    have k4 : Same H2 (upd H3 F (.lst [.ref t1])) := k3.trans (Same.new nF)
    have ht14 : upd H3 F (.lst [.ref t1]) t1 = some (.tup [.int 0, .str q.1, .ref u0, .non]) := by rw [upd_ne (ne_of_none ht1 nF)]; exact ht1
    have hF : upd H3 F (.lst [.ref t1]) F = some (.lst [.ref t1]) := upd_same
    generalize upd H3 F (.lst [.ref t1]) = H4 at k4 ht14 hF
    intro d nd
    have ndM : d ∉ M := fun h => by
      obtain ⟨o, e⟩ := al d h
      rw [k4 _ _ (s2' _ _ e)] at nd; cases nd
    repeat (first | refine ⟨_, rfl, ?_⟩ | refine ⟨_, _, rfl, rfl, ?_⟩ | refine ⟨_, _, rfl, ?_⟩ | refine ⟨rfl, ?_⟩)
    refine ⟨lenk 2 rfl (by decide), fun t2 nt2 => ?_⟩
    have hd2 : upd (upd H4 d (.dK [])) t2 (.tup [.int 0, .int 0]) d = some (.dK []) := by rw [upd_ne (ne_of_none upd_same nt2)]; exact upd_same
    refine ⟨hd2, [(Sum.inr q.1, .ref t2)], rfl, by simp, ?_⟩
    have ndt : t2 ≠ d := fun e => by rw [e, upd_same] at nt2; cases nt2
    have ht2 : upd (upd (upd H4 d (.dK [])) t2 (.tup [.int 0, .int 0])) d (.dK [(Sum.inr q.1, .ref t2)]) t2 = some (.tup [.int 0, .int 0]) := by rw [upd_ne ndt]; exact upd_same
    have hd : upd (upd (upd H4 d (.dK [])) t2 (.tup [.int 0, .int 0])) d (.dK [(Sum.inr q.1, .ref t2)]) d = some (.dK [(Sum.inr q.1, .ref t2)]) := upd_same
    have k5 : Same H4 (upd (upd (upd H4 d (.dK [])) t2 (.tup [.int 0, .int 0])) d (.dK [(Sum.inr q.1, .ref t2)])) := Same.upd_p ((Same.new nd).trans (Same.new nt2)) nd
    show _
    rw [show mergeK [] [((Sum.inr q.1 : Key), V.ref t2)] = [((Sum.inr q.1 : Key), V.ref t2)] from rfl]
    generalize upd (upd (upd H4 d (.dK [])) t2 (.tup [.int 0, .int 0])) d (.dK [(Sum.inr q.1, .ref t2)]) = H5 at k5 ht2 hd
    simp only [List.set_cons_succ, List.set_cons_zero]
    repeat (first | refine ⟨_, rfl, ?_⟩ | refine ⟨_, _, rfl, rfl, ?_⟩ | refine ⟨_, _, rfl, ?_⟩ | refine ⟨rfl, ?_⟩)
    have k25 := k4.trans k5
    have sH5 := s2'.trans k25
    have nFd : F ≠ d := ne_of (k5 _ _ hF) hd (by simp)
    have nF0 : H F = none := Same.none s2' (Same.none k3 nF)
    have nd0 : H d = none := Same.none s2' (Same.none k4 nd)
    have alH5 : Alv M H5 := al.go (Stp.of_same (m := []) sH5)
    have nd4 : H2 d = none := Same.none k4 nd
    have nF2 : H2 F = none := Same.none k3 nF
    have nt1M : t1 ∉ F :: d :: M := by
      intro h
      rcases List.mem_cons.mp h with e | h
      · rw [← e, ht14'] at nF; cases nF
      · rcases List.mem_cons.mp h with e | h
        · rw [← e, ht14] at nd; cases nd
        · obtain ⟨o, e⟩ := al t1 h
          rw [s2' _ _ e] at nt1; cases nt1
    have nu0M : u0 ∉ F :: d :: M := by
      intro h
      rcases List.mem_cons.mp h with e | h
      · rw [e, nF0] at hu0; cases hu0
      · rcases List.mem_cons.mp h with e | h
        · rw [e, nd0] at hu0; cases hu0
        · exact nu0 h
    have tl0 : TL M H5 F d (tinit q) 1 H5 := by
      refine ⟨Stp.refl, Nat.le_refl _, ⟨_, k5 _ _ hF, .cons ⟨t1, u0, rfl, ?_, k5 _ _ ht14, ?_, sH5 _ _ hu0⟩ .nil⟩, ⟨_, hd, Nat.le_refl _, fun x hx => ?_, fun x z hx => ?_⟩⟩
      · exact nt1M
      · exact nu0M
      · have ne : ¬ x = q.1 := fun e => by
          replace hx : (if x = q.1 then some ((0 : Int), (0 : Int)) else none) = none := hx
          rw [if_pos e] at hx; cases hx
        unfold valV
        simp [Ne.symm ne]
      · by_cases e : x = q.1
        · replace hx : (if x = q.1 then some ((0 : Int), (0 : Int)) else none) = some z := hx
          rw [if_pos e] at hx; cases hx
          exact ⟨Int.le_refl _, t2, by rw [e]; unfold valV; simp, ht2⟩
        · replace hx : (if x = q.1 then some ((0 : Int), (0 : Int)) else none) = some z := hx
          rw [if_neg e] at hx; cases hx
    replace tl0 : TL M H5 F d (tst R qs k q 0) 1 H5 := tl0
    refine ⟨a, xs, rfl, SqL.of (sH5 _ _ ha), fun w nw => ?_⟩
    rw [cut_to]
    have lk : k < qs.length := (List.getElem?_eq_some_iff.mp hk).1
    have k6 : Same H5 (upd H5 w (.lst (xs.take k))) := Same.new nw
    have hw : upd H5 w (.lst (xs.take k)) w = some (.lst (xs.take k)) := upd_same
    replace tl0 := tl0.same k6
    generalize upd H5 w (.lst (xs.take k)) = H6 at k6 hw tl0
    have nwF : w ∉ [F, d] := fun h => by
      rcases List.mem_cons.mp h with e | h
      · rw [e, k5 _ _ hF] at nw; cases nw
      · rw [List.mem_singleton.mp h, hd] at nw; cases nw
    have lxk : (xs.take k).length = k := by rw [List.length_take]; omega
    refine ⟨w, _, rfl, SqL.of hw, for_it (walk_rev (K := K) (a := w) (xs := xs.take k)) (fun i σ G => ∃ y3 y5 y8 y9 y10, σ = [some (.ref p), some (.ref a), some (.int (k : Nat)), y3, some (.ref D), y5, some (.ref F), some (.ref d), y8, y9, y10, none] ∧ TL M H5 F d (tst R qs k q i) (i + 1) G ∧ Stp [F, d] H6 G) ⟨_, _, _, _, _, rfl, tl0, Stp.refl⟩ (fun i σ G _ ⟨_, _, _, _, _, _, _, st⟩ => SqL.of (st.at hw nwF)) ?_ ?_⟩
    · rintro i x σ Hx G hi ⟨y3, y5, y8, y9, y10, rfl, tl, st⟩ ⟨rfl, hx⟩
      rw [lxk] at hi
      have hG2 : Same H2 G := fun x o e => tl.stp.at (k25 _ _ e) fun h => by
        rcases List.mem_cons.mp h with e' | h
        · rw [e', nF2] at e; cases e
        · rw [List.mem_singleton.mp h, nd4] at e; cases e
      have sG := s2'.trans hG2
      have hx2 : xs[k - 1 - i]? = some x := by
        rw [lxk, List.getElem?_take, if_pos (by omega)] at hx
        exact hx
      obtain ⟨y, hy, hmy⟩ := pget' pd hx2
      obtain ⟨tx, ux, rfl, ntx, htx, nux, hux⟩ := sPc_at hmy
      have ey : (qs.take k).reverse[i]? = some y := by
        rw [List.getElem?_reverse (by rw [List.length_take]; omega), List.length_take, List.getElem?_take, if_pos (by omega), show min k qs.length - 1 - i = k - 1 - i by omega]
        exact hy
      obtain ⟨r, hr', er, _⟩ := hq y (List.mem_of_getElem? hy)
      obtain ⟨c, hv, hc⟩ := nf r hr'
      have enear := near_of okR.nd hr'
      rw [er] at enear hv hc
      rw [← enear] at hc
      rw [tst_snoc ey]
      refine ⟨tx, _, rfl, .inl (.inl (sG _ _ htx)), rfl, _, _, rfl, _, _, rfl, rfl, ?_⟩
      simp only [List.set_cons_succ, List.set_cons_zero]
      repeat (first | refine ⟨_, rfl, ?_⟩ | refine ⟨_, _, rfl, rfl, ?_⟩ | refine ⟨_, _, rfl, ?_⟩ | refine ⟨rfl, ?_⟩)
      refine ⟨D, _, rfl, (by rw [← hv]; exact DGet.k (k := Sum.inr y.1) (hG2 _ _ hD)), ?_⟩
      refine ⟨c, rfl, ⟨_, SqL.of (hG2 _ _ hc)⟩, fun U nU => ?_⟩
      generalize tst R qs k q i = S at tl
      obtain ⟨kvs, hdG, lkv, g1, g2⟩ := tl.dq
      have ln : (near R y.1).length ≤ 9 := by
        rw [enear]
        unfold nbs
        rw [List.length_cons, List.length_map]
        have := List.length_filter_le (fun s => !decide (s.1 = r.1) && share r.2.1 s.2.1) R
        omega
      refine lc_it (walk_list (K := K) (a := c) (xs := (near R y.1).map V.str)) (fun j H' => ∃ zs : List (Int × Int), Acc (sP sInt sInt) U [] [] G H' zs ∧ (zs = ((near R y.1).take j).filterMap S.2 ∧ zs.length ≤ j)) ⟨[], Acc.start Alv.nil nU (by simp), rfl, Nat.le_refl _⟩ (fun j H' _ ⟨_, a, _⟩ => SqL.of (a.st.same _ _ (hG2 _ _ hc))) ?_ ?_
      · rintro j x Hx H7 hj ⟨zs, ac, ez, lz⟩ ⟨rfl, hx⟩
        obtain ⟨le, rfl⟩ := str_at' hx
        refine ⟨wipe_in (by decide), ?_⟩
        repeat (first | refine ⟨_, rfl, ?_⟩ | refine ⟨_, _, rfl, rfl, ?_⟩ | refine ⟨_, _, rfl, ?_⟩ | refine ⟨rfl, ?_⟩)
        have hd7 := ac.st.same _ _ hdG
        refine ⟨d, _, rfl, DGet.k (k := Sum.inr (near R y.1)[j]) hd7, ?_⟩
        have etk : ((near R y.1).take (j + 1)).filterMap S.2 = ((near R y.1).take j).filterMap S.2 ++ (S.2 (near R y.1)[j]).toList := by
          rw [take_snoc le, List.filterMap_append]
          cases e : S.2 (near R y.1)[j] <;> simp [e]
        cases e : S.2 (near R y.1)[j] with
        | none =>
          rw [g1 _ e]
          repeat (first | refine ⟨_, rfl, ?_⟩ | refine ⟨_, _, rfl, rfl, ?_⟩ | refine ⟨_, _, rfl, ?_⟩ | refine ⟨rfl, ?_⟩)
          refine ⟨zs, ac, ?_, by omega⟩
          rw [etk, e, ez]; simp
        | some m =>
          obtain ⟨m0, t, ht, htm⟩ := g2 _ _ e
          rw [ht]
          repeat (first | refine ⟨_, rfl, ?_⟩ | refine ⟨_, _, rfl, rfl, ?_⟩ | refine ⟨_, _, rfl, ?_⟩ | refine ⟨rfl, ?_⟩)
          refine ⟨d, _, rfl, by rw [← ht]; exact DGet.k (k := Sum.inr (near R y.1)[j]) hd7, ?_⟩
          repeat (first | refine ⟨_, rfl, ?_⟩ | refine ⟨_, _, rfl, rfl, ?_⟩ | refine ⟨_, _, rfl, ?_⟩ | refine ⟨rfl, ?_⟩)
          refine ac.put (y := m) (R := fun zs => zs = ((near R y.1).take (j + 1)).filterMap S.2 ∧ zs.length ≤ j + 1) Stp.refl ⟨t, _, _, rfl, fun h => ?_, ac.st.same _ _ htm, rfl, rfl⟩ (by omega) ⟨by rw [etk, e, ez]; rfl, by simp; omega⟩
          rw [List.mem_singleton.mp h, nU] at htm; cases htm
      rintro H7 ⟨zs, ac, ez, lz⟩
      rw [List.length_map] at ez lz
      rw [List.take_length] at ez
      obtain ⟨U', us, eU, -, hU, pU⟩ := ac.done
      cases eU
      have sG7 := ac.st.same
      replace tl := tl.same sG7
      simp only [List.set_cons_succ, List.set_cons_zero]
      repeat (first | refine ⟨_, rfl, ?_⟩ | refine ⟨_, _, rfl, rfl, ?_⟩ | refine ⟨_, _, rfl, ?_⟩ | refine ⟨rfl, ?_⟩)
      refine ⟨Nat.zero_le _, fun e1 ne1 => ?_⟩
      have k8 : Same H7 (upd H7 e1 (.lst [])) := Same.new ne1
      have he1 : upd H7 e1 (.lst []) e1 = some (.lst []) := upd_same
      generalize upd H7 e1 (.lst []) = H8 at k8 he1
      have pI : Paired (isPI K H8) us zs := Paired.mapP pU fun v z hz => by
        obtain ⟨t, v1, v2, e, _, h, h1, h2⟩ := hz
        cases h1; cases h2
        exact ⟨t, e, .inl (.inl (k8 _ _ h))⟩
      have sz : SeqAt.shaped (.list (zs.map L2.pairD)) = true := by
        have h := (shd_tups (zs.map fun p => [p.1, p.2])).shaped (by decide)
        rw [List.map_map] at h
        exact h
      refine ⟨.list (zs.map L2.pairD), .list [], .lst (SqL.of (k8 _ _ hU)) (dpAll_pairs pI), .lst (SqL.of he1) .nil, sz, nil_shaped, ?_⟩
      replace tl := tl.same k8
      have st8 : Stp [F, d] H6 H8 := (st.trans (Stp.of_same sG7)).trans (Stp.of_same k8)
      cases zs with
      | nil =>
        rw [tstep_nil ez.symm]
        repeat (first | refine ⟨_, rfl, ?_⟩ | refine ⟨_, _, rfl, rfl, ?_⟩ | refine ⟨_, _, rfl, ?_⟩ | refine ⟨rfl, ?_⟩)
        exact ⟨_, _, _, _, _, rfl, tl.mono (by omega), st8⟩
      | cons f fs =>
        rw [tstep_cons ez.symm]
        repeat (first | refine ⟨_, rfl, ?_⟩ | refine ⟨_, _, rfl, rfl, ?_⟩ | refine ⟨_, _, rfl, ?_⟩ | refine ⟨rfl, ?_⟩)
        refine ⟨U, us, f, fs, rfl, SqL.of (k8 _ _ hU), pI, fun ii x hxi hmi => ?_⟩
        obtain ⟨z, hz, hmz⟩ := pget' pU hxi
        rw [hmi] at hz
        cases hz
        obtain ⟨tm, v1, v2, rfl, -, htm, h1, h2⟩ := hmz
        cases h1; cases h2
        have hmem := minP_mem f fs
        rw [ez] at hmem
        obtain ⟨zn, _, hzn⟩ := List.mem_filterMap.mp hmem
        have m0 := (g2 _ _ hzn).1
        generalize minP f fs = m at hmi htm m0 hmem hzn
        refine ⟨tm, _, rfl, .inl (.inl (k8 _ _ htm)), rfl, _, _, rfl, _, _, rfl, rfl, ?_⟩
        simp only [List.set_cons_succ, List.set_cons_zero]
        repeat (first | refine ⟨_, rfl, ?_⟩ | refine ⟨_, _, rfl, rfl, ?_⟩ | refine ⟨_, _, rfl, ?_⟩ | refine ⟨rfl, ?_⟩)
        obtain ⟨vs, hF8, pF⟩ := tl.rows
        have lv := plen pF
        have llen := tl.len
        have s8 := (sG.trans sG7).trans k8
        have al8 : Alv M H8 := al.go (Stp.of_same (m := []) s8)
        have hd8 := k8 _ _ (sG7 _ _ hdG)
        refine ⟨F, vs, rfl, .inl (SqL.of hF8), ?_⟩
        repeat (first | refine ⟨_, rfl, ?_⟩ | refine ⟨_, _, rfl, rfl, ?_⟩ | refine ⟨_, _, rfl, ?_⟩ | refine ⟨rfl, ?_⟩)
        refine ⟨lenk 2 rfl (by decide), fun t3 nt3 => ?_⟩
        have n3d : t3 ≠ d := fun e => by rw [e, hd8] at nt3; cases nt3
        have n3F : t3 ≠ F := fun e => by rw [e, hF8] at nt3; cases nt3
        refine ⟨_, rfl, _, rfl, d, _, rfl, DPut.k (k := Sum.inr y.1) (by rw [upd_ne (Ne.symm n3d)]; exact hd8) (by rw [sizeLine_eq]; omega), ?_⟩
        repeat (first | refine ⟨_, rfl, ?_⟩ | refine ⟨_, _, rfl, rfl, ?_⟩ | refine ⟨_, _, rfl, ?_⟩ | refine ⟨rfl, ?_⟩)
        refine ⟨.inl ⟨rfl, _, SqL.of (show _ = some (HO.lst vs) by rw [upd_ne nFd, upd_ne (Ne.symm n3F)]; exact hF8)⟩, ?_⟩
        repeat (first | refine ⟨_, rfl, ?_⟩ | refine ⟨_, _, rfl, rfl, ?_⟩ | refine ⟨_, _, rfl, ?_⟩ | refine ⟨rfl, ?_⟩)
        refine ⟨lenk 4 rfl (by decide), fun t4 nt4 => ?_⟩
        have n4d : t4 ≠ d := fun e => by rw [e, upd_same] at nt4; cases nt4
        have n4F : t4 ≠ F := fun e => by rw [e, upd_ne nFd, upd_ne (Ne.symm n3F), hF8] at nt4; cases nt4
        have nuxM : ux ∉ F :: d :: M := fun h => by
          rcases List.mem_cons.mp h with e | h
          · rw [e, nF0] at hux; cases hux
          · rcases List.mem_cons.mp h with e | h
            · rw [e, nd0] at hux; cases hux
            · exact nux h
        have tl' := TL.step (y := y) (m := m) al8 tl hF8 hd8 nt3 (s8 _ _ hux) nuxM nt4 m0
        refine ⟨F, vs, _, rfl, rfl, by rw [upd_ne (Ne.symm n4F), upd_ne nFd, upd_ne (Ne.symm n3F)]; exact hF8, by rw [sizeLine_eq]; omega, ?_⟩
        exact ⟨_, _, _, _, _, rfl, tl', st8.trans ((((Stp.new nt3).trans (Stp.put (by simp))).trans (Stp.new nt4)).trans (Stp.put (by simp)))⟩
    · rintro σ G ⟨y3, y5, y8, y9, y10, rfl, tl, st⟩
      rw [lxk] at tl
      repeat (first | refine ⟨_, rfl, ?_⟩ | refine ⟨_, _, rfl, rfl, ?_⟩ | refine ⟨_, _, rfl, ?_⟩ | refine ⟨rfl, ?_⟩)
      obtain ⟨vs, hFG, pG⟩ := tl.rows
      refine q' _ _ (fun x o e => tl.stp.at (sH5 _ _ e) fun h => ?_) ⟨F, vs, rfl, nFM, hFG, Paired.mapP pG fun _ _ z => sTr.mv z fun a o n e => ⟨e, fun h => n (by simp [h])⟩⟩
      rcases List.mem_cons.mp h with e' | h
      · rw [e', nF0] at e; cases e
      · rw [List.mem_singleton.mp h, nd0] at e; cases e

end K62
namespace K62
open PySem PySem.Spec PyProof.Rows L2 TL
/-! ### the trees of a history, and a value checked against one -/
theorem IsP.n0 {C : Addr} {H : Hp} {F G : Addr → Prop} {p : Addr} {L : List (Str × Int)} {R : List Row} (h : IsP C H F G p L R) : ∃ dx fs, H p = some (.ins C dx fs) := h.ins
def sp_wtree (K : PySem.W.Frag) (C : Addr) : Sp := sp_tree K C
theorem ok_witness_tree {P : Program} {w : World} {K : PySem.W.Frag} {mg : Str → Option Value} {base : Heap} (T : Txt P K mg) : FnOk P w K mg base CX0 6 T.f_witness_tree T.fd_witness_tree ["problem", "history", "step"] (sp_wtree K T.C_Problem) := by
  refine T.F_witness_tree.ok sc_witness_tree (fun vs H Q E h => ?_) (fun cdv A outer s H vs Q E hr h => ?_)
  · obtain ⟨_, _, _, _, _, _, _, _, rfl, _⟩ := h; rfl
  · obtain ⟨M, p, v, L, R, qs, k, q, rfl, al, hp, okL, okR, hv, l240, hq, hk, q'⟩ := h
    have hp0 := hp
    have hv0 := Sh.all hv
    obtain ⟨p, rfl, hP⟩ := hp0
    obtain ⟨a, xs, rfl, -, ha, pd⟩ := id hv0
    have lx := plen pd
    have lk : k < qs.length := (List.getElem?_eq_some_iff.mp hk).1
    refine ⟨_, PSs.nox (pss_cons (ps_expr (pe_call (ok_check_problem T) (hr.mono (by decide)) (by rfl) T.g_check_problem T.F_check_problem.kp (b_check_problem T) .nil pass0 (pa_cons (pv 0) pa_nil)))
      (pss_cons (ps_expr (pe_call (ok_check_history T) (hr.mono (by decide)) (by rfl) T.g_check_history T.F_check_history.kp (b_check_history T) .nil pass0 (pa_cons (pv 0) (pa_cons (pv 1) pa_nil))))
      (pss_cons (ps_if (pt_not (pt_val (pe_call (ok_is_integer T) (hr.mono (by decide)) (by rfl) T.g_is_integer T.F_is_integer.kp (b_is_integer T) .nil pass0 (pa_cons (pv 2) (pa_cons pe_int (pa_cons (pe_op op_sub (pe_callB (show CallR _ _ (rLenSeq K) from call_len_seq) (by rfl) T.n_len (by decide +kernel) (pa_cons (pv 1) pa_nil)) pe_int) pa_nil)))))) (pss_one ps_never) pss_nil)
      (pss_one (ps_ret (pe_call (ok__tree_of T) (hr.mono (by decide)) (by rfl) T.g__tree_of T.F__tree_of.kp (b__tree_of T) .nil pass0 (pa_cons (pv 0) (pa_cons (pv 1) (pa_cons (pv 2) pa_nil))))))))), ?_⟩
    repeat (first | refine ⟨_, rfl, ?_⟩ | refine ⟨_, _, rfl, rfl, ?_⟩ | refine ⟨_, _, rfl, ?_⟩ | refine ⟨rfl, ?_⟩)
    refine ⟨p, _, _, L, R, rfl, hP, ?_⟩
    repeat (first | refine ⟨_, rfl, ?_⟩ | refine ⟨_, _, rfl, rfl, ?_⟩ | refine ⟨_, _, rfl, ?_⟩ | refine ⟨rfl, ?_⟩)
    refine ⟨_, _, L, R, qs, rfl, hp, okL, okR, hv0, l240, hq, fun H1 s1 => ?_⟩
    repeat (first | refine ⟨_, rfl, ?_⟩ | refine ⟨_, _, rfl, rfl, ?_⟩ | refine ⟨_, _, rfl, ?_⟩ | refine ⟨rfl, ?_⟩)
    refine ⟨a, xs, rfl, .inl (SqL.of (s1 _ _ ha)), ?_⟩
    repeat (first | refine ⟨_, rfl, ?_⟩ | refine ⟨_, _, rfl, rfl, ?_⟩ | refine ⟨_, _, rfl, ?_⟩ | refine ⟨rfl, ?_⟩)
    refine ⟨.int (k : Nat), 0, (xs.length : Int) - 1, rfl, .inl ⟨_, rfl⟩, ?_⟩
    rw [show inI 0 ((xs.length : Int) - 1) (.int (k : Nat)) = true by
      show (decide ((0 : Int) ≤ (k : Nat)) && decide (((k : Nat) : Int) ≤ (xs.length : Int) - 1)) = true
      rw [decide_eq_true (by omega), decide_eq_true (by omega)]; rfl]
    repeat (first | refine ⟨_, rfl, ?_⟩ | refine ⟨_, _, rfl, rfl, ?_⟩ | refine ⟨_, _, rfl, ?_⟩ | refine ⟨rfl, ?_⟩)
    refine ⟨M, .ref p, .ref a, L, R, qs, k, q, rfl, al.go (Stp.of_same (m := []) s1), Sh.go hp (Stp.of_same (m := []) s1) Sb.nil Sb.refl, okL, okR, Sh.go hv (Stp.of_same (m := []) s1) Sb.nil Sb.refl, l240, hq, hk, fun w H2 s2 hw => ?_⟩
    repeat (first | refine ⟨_, rfl, ?_⟩ | refine ⟨_, _, rfl, rfl, ?_⟩ | refine ⟨_, _, rfl, ?_⟩ | refine ⟨rfl, ?_⟩)
    exact q' _ _ (s1.trans s2) hw
def sp_wtrees (K : PySem.W.Frag) (C : Addr) : Sp := fun vs H Q _ => ∃ (M : List Addr) (p v : V) (L : List (Str × Int)) (R : List Row) (qs : List Pc), vs = [p, v] ∧ Alv M H ∧ (sProb C).at [] H p (L, R) ∧ VarsOk L ∧ EvsOk L R ∧ (sL sPc).at M H v qs ∧ qs.length ≤ 240 ∧ (∀ q ∈ qs, isPc R q) ∧
  ∀ w H', Same H H' → (sL (sL sTr)).at M H' w (qs.mapIdx fun k q => treeOf R qs k q) → Q w H'
theorem ok_witness_trees {P : Program} {w : World} {K : PySem.W.Frag} {mg : Str → Option Value} {base : Heap} (T : Txt P K mg) : FnOk P w K mg base CX0 6 T.f_witness_trees T.fd_witness_trees ["problem", "history"] (sp_wtrees K T.C_Problem) := by
  refine T.F_witness_trees.ok sc_witness_trees (fun vs H Q E h => ?_) (fun cdv A outer s H vs Q E hr h => ?_)
  · obtain ⟨_, _, _, _, _, _, rfl, _⟩ := h; rfl
  · obtain ⟨M, p, v, L, R, qs, rfl, al, hp, okL, okR, hv, l240, hq, q'⟩ := h
    have hp0 := hp
    have hv0 := Sh.all hv
    obtain ⟨p, rfl, hP⟩ := hp0
    obtain ⟨a, xs, rfl, na, ha, pd⟩ := id hv
    have lx := plen pd
    refine ⟨_, PSs.nox (pss_cons (ps_expr (pe_call (ok_check_problem T) (hr.mono (by decide)) (by rfl) T.g_check_problem T.F_check_problem.kp (b_check_problem T) .nil pass0 (pa_cons (pv 0) pa_nil)))
      (pss_cons (ps_expr (pe_call (ok_check_history T) (hr.mono (by decide)) (by rfl) T.g_check_history T.F_check_history.kp (b_check_history T) .nil pass0 (pa_cons (pv 0) (pa_cons (pv 1) pa_nil))))
      (pss_one (ps_ret (pe_lc (own := [("step", 2)]) (g := gName 2) rfl sc_witness_trees.nd (pi_range1 (by rfl) T.n_range (pa_cons (pe_callB (show CallR _ _ (rLenSeq K) from call_len_seq) (by rfl) T.n_len (by decide +kernel) (pa_cons (pv 1) pa_nil)) pa_nil)) (blkOk_by (own := [("step", 2)]) (N := N_witness_trees) (sc := defScope s_witness_trees) (by decide +kernel)) (fun _ _ _ _ _ => (pg_name (i := 2) sc_witness_trees.nd rfl (Or.inl rfl))) (fun _ _ _ _ _ => pts_nil) (fun _ _ _ _ _ => (pe_call (ok__tree_of T) (hr.mono (by decide)) (by rfl) T.g__tree_of T.F__tree_of.kp (b__tree_of T) .nil pass0 (pa_cons (pv 0) (pa_cons (pv 1) (pa_cons (pv 2) pa_nil)))))))))), ?_⟩
    repeat (first | refine ⟨_, rfl, ?_⟩ | refine ⟨_, _, rfl, rfl, ?_⟩ | refine ⟨_, _, rfl, ?_⟩ | refine ⟨rfl, ?_⟩)
    refine ⟨p, _, _, L, R, rfl, hP, ?_⟩
    repeat (first | refine ⟨_, rfl, ?_⟩ | refine ⟨_, _, rfl, rfl, ?_⟩ | refine ⟨_, _, rfl, ?_⟩ | refine ⟨rfl, ?_⟩)
    refine ⟨_, _, L, R, qs, rfl, hp, okL, okR, hv0, l240, hq, fun H1 s1 => ?_⟩
    repeat (first | refine ⟨_, rfl, ?_⟩ | refine ⟨_, _, rfl, rfl, ?_⟩ | refine ⟨_, _, rfl, ?_⟩ | refine ⟨rfl, ?_⟩)
    refine ⟨a, xs, rfl, .inl (SqL.of (s1 _ _ ha)), ?_⟩
    repeat (first | refine ⟨_, rfl, ?_⟩ | refine ⟨_, _, rfl, rfl, ?_⟩ | refine ⟨_, _, rfl, ?_⟩ | refine ⟨rfl, ?_⟩)
    refine ⟨by omega, by omega, fun D nD => ?_⟩
    have al1 := al.go (Stp.of_same (m := []) s1)
    have nD0 : H D = none := Same.none s1 nD
    refine lc_it walk_range (fun i H' => ∃ zs, Acc (sL sTr) D M [] H1 H' zs ∧ zs = (qs.mapIdx fun k q => treeOf R qs k q).take i) ⟨[], Acc.start al1 nD (by simp), rfl⟩ (fun _ _ _ _ => trivial) ?_ ?_
    · rintro i x Hx H7 hi ⟨zs, ac, ez⟩ ⟨rfl, rfl⟩
      refine ⟨wipe_in (by decide), ?_⟩
      have li : i < qs.length := by omega
      have sH := s1.trans ac.st.same
      have lz : zs.length = i := by rw [ez, List.length_take, List.length_mapIdx]; omega
      repeat (first | refine ⟨_, rfl, ?_⟩ | refine ⟨_, _, rfl, rfl, ?_⟩ | refine ⟨_, _, rfl, ?_⟩ | refine ⟨rfl, ?_⟩)
      refine ⟨D :: M, .ref p, .ref a, L, R, qs, i, qs[i], by simp, ac.alv, Sh.go hp (Stp.of_same (m := []) sH) Sb.nil Sb.refl, okL, okR, Sh.go hv (Stp.of_same (m := []) sH) Sb.nil (Sb.new nD0 Sb.refl), l240, hq, List.getElem?_eq_getElem li, fun w H8 s2 hw => ?_⟩
      repeat (first | refine ⟨_, rfl, ?_⟩ | refine ⟨_, _, rfl, rfl, ?_⟩ | refine ⟨_, _, rfl, ?_⟩ | refine ⟨rfl, ?_⟩)
      refine ac.put (y := treeOf R qs i qs[i]) (R := fun zs => zs = (qs.mapIdx fun k q => treeOf R qs k q).take (i + 1)) (Stp.of_same s2) hw (by omega) ?_
      rw [take_snoc (by rw [List.length_mapIdx]; exact li), List.getElem_mapIdx, ez]
    rintro H7 ⟨zs, ac, ez⟩
    have e : (qs.mapIdx fun k q => treeOf R qs k q).take (xs.length : Int).toNat = qs.mapIdx fun k q => treeOf R qs k q := List.take_of_length_le (by rw [List.length_mapIdx]; omega)
    rw [e] at ez
    repeat (first | refine ⟨_, rfl, ?_⟩ | refine ⟨_, _, rfl, rfl, ?_⟩ | refine ⟨_, _, rfl, ?_⟩ | refine ⟨rfl, ?_⟩)
    exact q' _ _ (s1.trans ac.st.same) (by rw [← ez]; exact ac.done)
def sp_isrow (K : PySem.W.Frag) (C : Addr) : Sp := fun vs H Q _ => ∃ (p v : V) (L : List (Str × Int)) (R : List Row) (r : TRow), vs = [p, v] ∧ (sProb C).at [] H p (L, R) ∧ VarsOk L ∧ EvsOk L R ∧ sTr.at [] H v r ∧ isPc R (r.x, r.ns) ∧ ∀ H', Same H H' → Q (.bl true) H'
theorem ok__is_row {P : Program} {w : World} {K : PySem.W.Frag} {mg : Str → Option Value} {base : Heap} (T : Txt P K mg) : FnOk P w K mg base CX0 5 T.f__is_row T.fd__is_row ["problem", "value"] (sp_isrow K T.C_Problem) := by
  refine T.F__is_row.ok sc__is_row (fun vs H Q E h => ?_) (fun cdv A outer s H vs Q E hr h => ?_)
  · obtain ⟨_, _, _, _, _, rfl, _⟩ := h; rfl
  · obtain ⟨p, v, L, R, r, rfl, ⟨p, rfl, hP⟩, okL, okR, ⟨t, u, rfl, -, ht, -, hu⟩, hpc, q⟩ := h
    obtain ⟨dx, fs, hp, hm⟩ := hP.at'
    refine ⟨_, PSs.nox (pss_cons (ps_if (PW.pt (pw_or (pt_not (pt_val (pe_callB (show CallR _ _ (rIsi K) from call_isi) (by rfl) T.n_isinstance (by decide +kernel) (pa_cons (pv 1) (pa_cons (pe_bltn (v := .ty "tuple") (by rfl) T.n_tuple (by decide +kernel) rfl) pa_nil))))) (pw_or1 (pt_cmpR op_ne (pe_callB (show CallR _ _ (rLenSeq K) from call_len_seq) (by rfl) T.n_len (by decide +kernel) (pa_cons (pv 1) pa_nil)) pe_int (nomark _))))) (pss_one (ps_ret pe_bl)) pss_nil)
      (pss_cons (ps_asg (pv 1) (pg_tup rfl (pgs_cons (pg_name (i := 2) sc__is_row.nd rfl (Or.inl rfl)) (pgs_cons (pg_name (i := 3) sc__is_row.nd rfl (Or.inl rfl)) (pgs_cons (pg_name (i := 4) sc__is_row.nd rfl (Or.inl rfl)) (pgs_cons (pg_name (i := 5) sc__is_row.nd rfl (Or.inl rfl)) pgs_nil))))))
      (pss_cons (ps_if (PW.pt (pw_or (pt_not (pt_val (pe_call (ok_is_any_integer T) (hr.mono (by decide)) (by rfl) T.g_is_any_integer T.F_is_any_integer.kp (b_is_any_integer T) .nil pass0 (pa_cons (pv 2) pa_nil)))) (pw_or1 (pt_not (PW.pt (pw_or (pt_cmpR op_isN (pv 5) pe_non (nomark _)) (pw_or1 (pt_val (pe_call (ok_is_any_integer T) (hr.mono (by decide)) (by rfl) T.g_is_any_integer T.F_is_any_integer.kp (b_is_any_integer T) .nil pass0 (pa_cons (pv 5) pa_nil)))))))))) (pss_one (ps_ret pe_bl)) pss_nil)
      (pss_one (ps_ret (pe_meth (pl := _) (pv 0) T.cl_Problem T.m_Problem_is_piece (ok_Problem_is_piece T) (hr.mono (by decide)) (b_Problem_is_piece T) .nil pass0 (pa_cons (pe_tup (pa_cons (pv 3) (pa_cons (pv 4) pa_nil))) pa_nil))))))), ?_⟩
    refine ⟨_, rfl, _, _, _, _, _, rfl, .ty _, .base (.tup ht), kit_tt, _, rfl, ?_⟩
    repeat (first | refine ⟨_, rfl, ?_⟩ | refine ⟨_, _, rfl, rfl, ?_⟩ | refine ⟨_, _, rfl, ?_⟩ | refine ⟨rfl, ?_⟩)
    refine ⟨t, _, rfl, .inr (.inl (.inl ht)), rfl, _, rfl, ite2 (fun e => by simp at e) (fun _ => ?_)⟩
    repeat (first | refine ⟨_, rfl, ?_⟩ | refine ⟨_, _, rfl, rfl, ?_⟩ | refine ⟨_, _, rfl, ?_⟩ | refine ⟨rfl, ?_⟩)
    refine ⟨t, _, rfl, .inl (.inl ht), rfl, _, _, rfl, _, _, rfl, _, _, rfl, _, _, rfl, rfl, ?_⟩
    repeat (first | refine ⟨_, rfl, ?_⟩ | refine ⟨_, _, rfl, rfl, ?_⟩ | refine ⟨_, _, rfl, ?_⟩ | refine ⟨rfl, ?_⟩)
    refine .inl ⟨_, rfl, ?_⟩
    repeat (first | refine ⟨_, rfl, ?_⟩ | refine ⟨_, _, rfl, rfl, ?_⟩ | refine ⟨_, _, rfl, ?_⟩ | refine ⟨rfl, ?_⟩)
    have pc : ∀ z : Addr, H z = none → sp_ispc K T.C_Problem [.ref p, .ref z] (upd H z (.tup [.str r.x, .ref u])) Q E0 := fun z nz =>
      ⟨p, z, u, _, _, L, R, r.x, r.ns, rfl, hP.same (Same.new nz), okL, okR, upd_same, (Same.new (o := .tup [.str r.x, .ref u]) nz) _ _ hu, hpc, fun H' s' => q _ ((Same.new nz).trans s')⟩
    cases hpar : r.p with
    | none =>
      repeat (first | refine ⟨_, rfl, ?_⟩ | refine ⟨_, _, rfl, rfl, ?_⟩ | refine ⟨_, _, rfl, ?_⟩ | refine ⟨rfl, ?_⟩)
      refine ⟨p, dx, _, rfl, hp, hm _ (by decide +kernel), ?_⟩
      repeat (first | refine ⟨_, rfl, ?_⟩ | refine ⟨_, _, rfl, rfl, ?_⟩ | refine ⟨_, _, rfl, ?_⟩ | refine ⟨rfl, ?_⟩)
      refine ⟨lenk 2 rfl (by decide), fun z nz => ?_⟩
      repeat (first | refine ⟨_, rfl, ?_⟩ | refine ⟨_, _, rfl, rfl, ?_⟩ | refine ⟨_, _, rfl, ?_⟩ | refine ⟨rfl, ?_⟩)
      exact pc z nz
    | some n =>
      repeat (first | refine ⟨_, rfl, ?_⟩ | refine ⟨_, _, rfl, rfl, ?_⟩ | refine ⟨_, _, rfl, ?_⟩ | refine ⟨rfl, ?_⟩)
      refine .inl ⟨_, rfl, ?_⟩
      repeat (first | refine ⟨_, rfl, ?_⟩ | refine ⟨_, _, rfl, rfl, ?_⟩ | refine ⟨_, _, rfl, ?_⟩ | refine ⟨rfl, ?_⟩)
      refine ⟨p, dx, _, rfl, hp, hm _ (by decide +kernel), ?_⟩
      repeat (first | refine ⟨_, rfl, ?_⟩ | refine ⟨_, _, rfl, rfl, ?_⟩ | refine ⟨_, _, rfl, ?_⟩ | refine ⟨rfl, ?_⟩)
      refine ⟨lenk 2 rfl (by decide), fun z nz => ?_⟩
      repeat (first | refine ⟨_, rfl, ?_⟩ | refine ⟨_, _, rfl, rfl, ?_⟩ | refine ⟨_, _, rfl, ?_⟩ | refine ⟨rfl, ?_⟩)
      exact pc z nz
def sp_rows (K : PySem.W.Frag) (C : Addr) : Sp := fun vs H Q _ => ∃ (p v : V) (L : List (Str × Int)) (R : List Row) (rs : List TRow), vs = [p, v] ∧ (sProb C).at [] H p (L, R) ∧ VarsOk L ∧ EvsOk L R ∧ (sL sTr).at [] H v rs ∧ rs.length ≤ 300 ∧ (∀ r ∈ rs, isPc R (r.x, r.ns)) ∧ ∀ H', Same H H' → Q (.bl true) H'
theorem ok__are_rows {P : Program} {w : World} {K : PySem.W.Frag} {mg : Str → Option Value} {base : Heap} (T : Txt P K mg) : FnOk P w K mg base CX0 6 T.f__are_rows T.fd__are_rows ["problem", "value"] (sp_rows K T.C_Problem) := by
  refine T.F__are_rows.ok sc__are_rows (fun vs H Q E h => ?_) (fun cdv A outer s H vs Q E hr h => ?_)
  · obtain ⟨_, _, _, _, _, rfl, _⟩ := h; rfl
  · obtain ⟨p, v, L, R, rs, rfl, hp, okL, okR, ⟨a, xs, rfl, -, ha, pd⟩, l300, hpc, q⟩ := h
    obtain ⟨p, rfl, hP⟩ := id hp
    have lx := plen pd
    refine ⟨_, PSs.nox (pss_one (ps_ret (pe_and (pe_callB (show CallR _ _ (rIsiT K) from call_isiT) (by rfl) T.n_isinstance (by decide +kernel) (pa_cons (pv 1) (pa_cons (pe_tup (pa_cons (pe_bltn (v := .ty "list") (by rfl) T.n_list (by decide +kernel) rfl) (pa_cons (pe_bltn (v := .ty "tuple") (by rfl) T.n_tuple (by decide +kernel) rfl) pa_nil))) pa_nil))) (pe_one (pe_callB (show CallR _ _ (rAll K) from cr_all rfl) (by rfl) T.n_all (by decide +kernel) (pa_cons (pe_lc (own := [("row", 2)]) (g := gName 2) rfl sc__are_rows.nd (pi_list (pv 1)) (blkOk_by (own := [("row", 2)]) (N := N__are_rows) (sc := defScope s__are_rows) (by decide +kernel)) (fun _ _ _ _ _ => (pg_name (i := 2) sc__are_rows.nd rfl (Or.inl rfl))) (fun _ _ _ _ _ => pts_nil) (fun _ _ _ _ _ => (pe_call (ok__is_row T) (hr.mono (by decide)) (by rfl) T.g__is_row T.F__is_row.kp (b__is_row T) .nil pass0 (pa_cons (pv 0) (pa_cons (pv 2) pa_nil))))) pa_nil)))))), ?_⟩
    refine ⟨_, rfl, lenk 2 rfl (by decide), fun tp ntp => ?_⟩
    have s1 : Same H (upd H tp (.tup [.ty "list", .ty "tuple"])) := Same.new ntp
    have htp : upd H tp (.tup [.ty "list", .ty "tuple"]) tp = some (.tup [.ty "list", .ty "tuple"]) := upd_same
    generalize upd H tp (.tup [.ty "list", .ty "tuple"]) = H1 at s1 htp
    refine ⟨_, tp, _, _, _, _, rfl, htp, .cons (.ty _) (.cons (.ty _) .nil), .base (.lst (s1 _ _ ha)), kitA_l, _, rfl, ?_⟩
    repeat (first | refine ⟨_, rfl, ?_⟩ | refine ⟨_, _, rfl, rfl, ?_⟩ | refine ⟨_, _, rfl, ?_⟩ | refine ⟨rfl, ?_⟩)
    refine ⟨⟨_, SqL.of (s1 _ _ ha)⟩, fun D nD => ?_⟩
    refine lc_it (walk_list (K := K) (a := a) (xs := xs)) (fun i H' => H' D = some (.lst ((List.replicate i true).map V.bl)) ∧ Same H1 H') ⟨upd_same, Same.new nD⟩ (fun i H' _ h => SqL.of (h.2 _ _ (s1 _ _ ha))) ?_ ?_
    · rintro i x Hx H7 hi ⟨hD, s2⟩ ⟨rfl, hx⟩
      obtain ⟨r, hr1, hm⟩ := pget' pd hx
      refine ⟨wipe_in (by decide), ?_⟩
      have s3 := s1.trans s2
      repeat (first | refine ⟨_, rfl, ?_⟩ | refine ⟨_, _, rfl, rfl, ?_⟩ | refine ⟨_, _, rfl, ?_⟩ | refine ⟨rfl, ?_⟩)
      refine ⟨.ref p, x, L, R, r, rfl, Sh.go hp (Stp.of_same (m := []) s3) Sb.nil Sb.refl, okL, okR, Sh.go hm (Stp.of_same (m := []) s3) Sb.nil Sb.refl, hpc _ (List.mem_of_getElem? hr1), fun H8 s4 => ?_⟩
      repeat (first | refine ⟨_, rfl, ?_⟩ | refine ⟨_, _, rfl, rfl, ?_⟩ | refine ⟨_, _, rfl, ?_⟩ | refine ⟨rfl, ?_⟩)
      refine ⟨_, s4 _ _ hD, by rw [List.length_map, List.length_replicate, sizeLine_eq]; omega, ?_, Same.upd_p (s2.trans s4) nD⟩
      rw [upd_same, List.replicate_succ', List.map_append]; rfl
    rintro H7 ⟨hD, s2⟩
    repeat (first | refine ⟨_, rfl, ?_⟩ | refine ⟨_, _, rfl, rfl, ?_⟩ | refine ⟨_, _, rfl, ?_⟩ | refine ⟨rfl, ?_⟩)
    refine ⟨D, _, rfl, SqL.of hD, ?_⟩
    rw [show (List.replicate xs.length true).all id = true by rw [List.all_eq_true]; intro b hb; exact List.eq_of_mem_replicate hb]
    exact q _ (s1.trans s2)
theorem tst_mem {R : List Row} {P : Pc → Prop} : ∀ (l : List Pc) (st : List TRow × DpF), (∀ q ∈ l, P q) → (∀ r ∈ st.1, P (r.x, r.ns)) → ∀ r ∈ (l.foldl (tstep R) st).1, P (r.x, r.ns)
  | [], _, _, h => h
  | y :: l, st, hl, h => by
    rw [List.foldl_cons]
    refine tst_mem l _ (fun q hq => hl q (List.mem_cons_of_mem _ hq)) ?_
    cases e : (near R y.1).filterMap st.2 with
    | nil => rw [tstep_nil e]; exact h
    | cons f fs =>
      rw [tstep_cons e]
      intro r hr
      rcases List.mem_append.mp hr with h' | h'
      · exact h r h'
      · rw [List.mem_singleton.mp h']; exact hl y List.mem_cons_self
theorem tree_pc {R : List Row} {qs : List Pc} {k : Nat} {q : Pc} {P : Pc → Prop} (h : ∀ q ∈ qs, P q) (hk : qs[k]? = some q) : ∀ r ∈ treeOf R qs k q, P (r.x, r.ns) := by
  unfold treeOf tst
  refine tst_mem _ _ (fun y hy => h y (List.mem_of_mem_take (List.mem_reverse.mp (List.mem_of_mem_take hy)))) fun r hr => ?_
  rw [List.mem_singleton.mp hr]
  exact h q (List.mem_of_getElem? hk)
theorem tst_len {R : List Row} : ∀ (l : List Pc) (st : List TRow × DpF), (l.foldl (tstep R) st).1.length ≤ st.1.length + l.length
  | [], _ => Nat.le_refl _
  | y :: l, st => by
    rw [List.foldl_cons]
    refine Nat.le_trans (tst_len l _) ?_
    cases e : (near R y.1).filterMap st.2 with
    | nil => rw [tstep_nil e, List.length_cons]; omega
    | cons f fs => rw [tstep_cons e, List.length_append, List.length_cons, List.length_cons, List.length_nil]; omega
theorem tree_len {R : List Row} {qs : List Pc} {k : Nat} {q : Pc} : (treeOf R qs k q).length ≤ k + 1 := by
  unfold treeOf tst
  refine Nat.le_trans (tst_len _ _) ?_
  rw [List.length_take, List.length_reverse, List.length_take]
  show 1 + _ ≤ _
  omega
def parD : Option Nat → PyData
  | none => .none
  | some n => .int (n : Nat)
def trD (r : TRow) : PyData := .tuple [.int r.d, .str r.x, tupD r.ns, parD r.p]
theorem tr_dp {K : PySem.W.Frag} {M : List Addr} {H : Hp} {v : V} {r : TRow} (h : sTr.at M H v r) : Dp K H v (trD r) := by
  obtain ⟨t, u, rfl, -, ht, -, hu⟩ := h
  refine .tup (.inl (.inl ht)) (.cons (.int _) (.cons (.str _) (.cons (dp_tup (G := fun _ => True) ⟨u, rfl, trivial, hu⟩) (.cons ?_ .nil))))
  cases r.p with
  | none => exact .non
  | some n => exact .int _
theorem eqv_par (a b : Option Nat) : PyData.eqv (parD a) (parD b) = decide (a = b) := by
  cases a <;> cases b
  · rfl
  · rfl
  · rfl
  · rename_i m n
    show ((m : Int) == (n : Int)) = _
    rw [show ((m : Int) == (n : Int)) = decide ((m : Int) = (n : Int)) from rfl]
    exact decide_eq_decide.mpr ⟨fun h => by rw [Int.ofNat.inj h], fun h => by cases h; rfl⟩
theorem eqv_tr (a b : TRow) : PyData.eqv (trD a) (trD b) = decide (a = b) := by
  obtain ⟨d, x, ns, p⟩ := a
  obtain ⟨d', x', ns', p'⟩ := b
  unfold trD
  rw [show ∀ x y z w x' y' z' w' : PyData, PyData.eqv (.tuple [x, y, z, w]) (.tuple [x', y', z', w']) = (PyData.eqv x x' && (PyData.eqv y y' && (PyData.eqv z z' && (PyData.eqv w w' && true)))) from fun _ _ _ _ _ _ _ _ => rfl, eqv_s2, eqv_tup, eqv_par, Bool.and_true]
  rw [show PyData.eqv (.int d) (.int d') = decide (d = d') from rfl]
  by_cases h1 : d = d' <;> by_cases h2 : x = x' <;> by_cases h3 : ns = ns' <;> by_cases h4 : p = p' <;> simp [h1, h2, h3, h4]
theorem shd_tr {r : TRow} (h : NameOk r.x) : Shd 2 (trD r) := Shd.tuple (allC (shd_le (Shd.int _) (by decide)) (allC (shd_le (Shd.str h) (by decide)) (allC (shd_tup _) (all1 (by
  cases r.p with
  | none => exact ⟨by simp [parD, PyData.canLay0], by simp [parD, PyData.depth]⟩
  | some n => exact shd_le (Shd.int _) (by decide))))))
theorem shd_trs {rs : List TRow} (h : ∀ r ∈ rs, NameOk r.x) : SeqAt.shaped (.list (rs.map trD)) = true := (Shd.list (k := 2) fun d hd => by
  obtain ⟨r, hr, rfl⟩ := List.mem_map.mp hd
  exact shd_tr (h r hr)).shaped (by decide)
def sp_ctree (K : PySem.W.Frag) (C : Addr) : Sp := fun vs H Q _ => ∃ (M : List Addr) (p v w : V) (L : List (Str × Int)) (R : List Row) (qs : List Pc) (k : Nat) (q : Pc) (rs : List TRow), vs = [p, v, .int (k : Nat), w] ∧ Alv M H ∧ (sProb C).at [] H p (L, R) ∧ VarsOk L ∧ EvsOk L R ∧ (sL sPc).at M H v qs ∧ qs.length ≤ 240 ∧ (∀ q ∈ qs, isPc R q) ∧ qs[k]? = some q ∧
  (sL sTr).at [] H w rs ∧ rs.length ≤ 300 ∧ (∀ r ∈ rs, isPc R (r.x, r.ns)) ∧ ∀ H', Same H H' → Q (.bl (decide (rs = treeOf R qs k q))) H'
theorem ok_check_tree {P : Program} {w : World} {K : PySem.W.Frag} {mg : Str → Option Value} {base : Heap} (T : Txt P K mg) : FnOk P w K mg base CX0 7 T.f_check_tree T.fd_check_tree ["problem", "history", "step", "value"] (sp_ctree K T.C_Problem) := by
  refine T.F_check_tree.ok sc_check_tree (fun vs H Q E h => ?_) (fun cdv A outer s H vs Q E hr h => ?_)
  · obtain ⟨_, _, _, _, _, _, _, _, _, _, rfl, _⟩ := h; rfl
  · obtain ⟨M, p, v, w, L, R, qs, k, q, rs, rfl, al, hp, okL, okR, hv, l240, hq, hk, hw, l300, hpc, q'⟩ := h
    obtain ⟨p, rfl, hP⟩ := id hp
    obtain ⟨a, xs, rfl, -, ha, pd⟩ := id hw
    refine ⟨_, PSs.nox (pss_cons (ps_set (i := 4) sc_check_tree.nd rfl (Or.inl rfl) (pe_call (ok_witness_tree T) (hr.mono (by decide)) (by rfl) T.g_witness_tree T.F_witness_tree.kp (b_witness_tree T) .nil pass0 (pa_cons (pv 0) (pa_cons (pv 1) (pa_cons (pv 2) pa_nil)))))
      (pss_one (ps_ret (pe_and (pe_call (ok__are_rows T) (hr.mono (by decide)) (by rfl) T.g__are_rows T.F__are_rows.kp (b__are_rows T) .nil pass0 (pa_cons (pv 0) (pa_cons (pv 3) pa_nil))) (pe_one (pe_cmpR (show OpR _ (compareOp .Eq) (rEqD K) from op_eqD hr.units) (pe_callTy (show CallR _ _ (rListOf K) from call_list_of) (by rfl) T.n_list (by decide +kernel) (pa_cons (pv 3) pa_nil)) (pv 4) (nomark _))))))), ?_⟩
    repeat (first | refine ⟨_, rfl, ?_⟩ | refine ⟨_, _, rfl, rfl, ?_⟩ | refine ⟨_, _, rfl, ?_⟩ | refine ⟨rfl, ?_⟩)
    refine ⟨M, .ref p, v, L, R, qs, k, q, rfl, al, hp, okL, okR, hv, l240, hq, hk, fun z H1 s1 hz => ?_⟩
    repeat (first | refine ⟨_, rfl, ?_⟩ | refine ⟨_, _, rfl, rfl, ?_⟩ | refine ⟨_, _, rfl, ?_⟩ | refine ⟨rfl, ?_⟩)
    refine ⟨.ref p, .ref a, L, R, rs, rfl, Sh.go hp (Stp.of_same (m := []) s1) Sb.nil Sb.refl, okL, okR, Sh.go hw (Stp.of_same (m := []) s1) Sb.nil Sb.refl, l300, hpc, fun H2 s2 => ?_⟩
    repeat (first | refine ⟨_, rfl, ?_⟩ | refine ⟨_, _, rfl, rfl, ?_⟩ | refine ⟨_, _, rfl, ?_⟩ | refine ⟨rfl, ?_⟩)
    have s12 := s1.trans s2
    refine ⟨a, xs, rfl, .inl (SqL.of (s12 _ _ ha)), fun c nc => ?_⟩
    have s3 : Same H2 (upd H2 c (.lst xs)) := Same.new nc
    have hc : upd H2 c (.lst xs) c = some (.lst xs) := upd_same
    generalize upd H2 c (.lst xs) = H3 at s3 hc
    repeat (first | refine ⟨_, rfl, ?_⟩ | refine ⟨_, _, rfl, rfl, ?_⟩ | refine ⟨_, _, rfl, ?_⟩ | refine ⟨rfl, ?_⟩)
    have s13 := s12.trans s3
    have nmP : ∀ y : Pc, isPc R y → NameOk y.1 := fun y ⟨r, hr, e, _⟩ => by rw [← e]; exact (okR.ok r hr).nm
    have hz3 := Sh.go hz (Stp.of_same (m := []) (s2.trans s3)) Sb.nil Sb.refl
    obtain ⟨za, zs, rfl, -, hza, pz⟩ := hz3
    refine ⟨.list (rs.map trD), .list ((treeOf R qs k q).map trD), .lst (SqL.of hc) (dpA (fun _ _ z => tr_dp (Sh.go z (Stp.of_same (m := []) s13) Sb.nil Sb.refl)) pd), .lst (SqL.of hza) (dpA (fun _ _ z => tr_dp z) pz),
      shd_trs fun r hr => nmP (r.x, r.ns) (hpc r hr), shd_trs fun r hr => nmP (r.x, r.ns) (tree_pc hq hk r hr), ?_⟩
    rw [eqv_mapI trD eqv_tr]
    exact q' _ s13

end K62
namespace K62
open PySem PySem.Spec PyProof.Rows L2 TL
/-! ### what a tree is like -/
theorem minP_le (q : Int × Int) : ∀ qs : List (Int × Int), ∀ z ∈ q :: qs, (minP q qs).1 ≤ z.1 := by
  intro qs
  unfold minP
  induction qs generalizing q with
  | nil => intro z hz; rw [List.mem_singleton.mp hz]; exact Int.le_refl _
  | cons y r ih =>
    intro z hz
    rw [List.foldl_cons]
    have lt : ∀ p q : Int × Int, ltP p q = true → p.1 ≤ q.1 := fun p q h => by
      unfold ltP at h
      by_cases e : p.1 = q.1
      · omega
      · rw [if_neg e] at h; have := of_decide_eq_true h; omega
    have nlt : ∀ p q : Int × Int, ¬ ltP p q = true → q.1 ≤ p.1 := fun p q h => by
      unfold ltP at h
      by_cases e : p.1 = q.1
      · omega
      · rw [if_neg e] at h; simp at h; omega
    by_cases h : ltP y q = true
    · rw [if_pos h]
      rcases List.mem_cons.mp hz with e | hz
      · rw [e]; exact Int.le_trans (ih y y List.mem_cons_self) (lt _ _ h)
      · exact ih y z hz
    · rw [if_neg h]
      rcases List.mem_cons.mp hz with e | hz
      · rw [e]; exact ih q q List.mem_cons_self
      · rcases List.mem_cons.mp hz with e | hz
        · rw [e]; exact Int.le_trans (ih q q List.mem_cons_self) (nlt _ _ h)
        · exact ih q z (List.mem_cons_of_mem _ hz)
structure TI (R : List Row) (st : List TRow × DpF) : Prop where
  dep : ∀ x a i, st.2 x = some (a, i) → ∃ (j : Nat) (r : TRow), i = (j : Int) ∧ st.1[j]? = some r ∧ r.x = x ∧ r.d = -a
  max : ∀ r ∈ st.1, ∃ a i, st.2 r.x = some (a, i) ∧ r.d ≤ -a
  sep : ∀ (i j : Nat) (r s : TRow), i < j → st.1[i]? = some r → st.1[j]? = some s → r.d = s.d → r.x ∉ near R s.x
  par : ∀ (j : Nat) (r : TRow), 0 < j → st.1[j]? = some r → ∃ (p : Nat) (s : TRow), r.p = some p ∧ p < j ∧ st.1[p]? = some s ∧ s.d = r.d - 1 ∧ s.x ∈ near R r.x
theorem TI.init (R : List Row) (q : Pc) : TI R (tinit q) := by
  refine ⟨fun x a i h => ?_, fun r hr => ?_, fun i j r s hij hi hj => ?_, fun j r hj h => ?_⟩
  · replace h : (if x = q.1 then some ((0 : Int), (0 : Int)) else none) = some (a, i) := h
    by_cases e : x = q.1
    · rw [if_pos e] at h; cases h
      exact ⟨0, _, rfl, rfl, e.symm, rfl⟩
    · rw [if_neg e] at h; cases h
  · rw [List.mem_singleton.mp hr]
    exact ⟨0, 0, if_pos rfl, Int.le_refl _⟩
  · have := (List.getElem?_eq_some_iff.mp hj).1
    have : j < 1 := this
    omega
  · have := (List.getElem?_eq_some_iff.mp h).1
    have : j < 1 := this
    omega
theorem TI.step {R : List Row} {st : List TRow × DpF} (h : TI R st) {y : Pc} (hy : y.1 ∈ near R y.1) : TI R (tstep R st y) := by
  cases e : (near R y.1).filterMap st.2 with
  | nil => rw [tstep_nil e]; exact h
  | cons f fs =>
    rw [tstep_cons e]
    have hle := minP_le f fs
    have hmem := minP_mem f fs
    generalize minP f fs = m at hle hmem
    rw [← e] at hle hmem
    have adj : ∀ r ∈ st.1, r.x ∈ near R y.1 → r.d ≤ -m.1 := fun r hr hx => by
      obtain ⟨a, i, h1, h2⟩ := h.max r hr
      have := hle (a, i) (List.mem_filterMap.mpr ⟨r.x, hx, h1⟩)
      have : m.1 ≤ a := this
      omega
    obtain ⟨w, hw, ew⟩ := List.mem_filterMap.mp hmem
    obtain ⟨pj, pr, ep, hp, ex, ed⟩ := h.dep w m.1 m.2 ew
    have lp := (List.getElem?_eq_some_iff.mp hp).1
    have at_old : ∀ {j : Nat} {r : TRow}, (st.1 ++ [⟨1 - m.1, y.1, y.2, some m.2.toNat⟩])[j]? = some r → (j < st.1.length ∧ st.1[j]? = some r) ∨ (j = st.1.length ∧ r = ⟨1 - m.1, y.1, y.2, some m.2.toNat⟩) := fun {j r} h => by
      by_cases l : j < st.1.length
      · rw [List.getElem?_append_left l] at h; exact .inl ⟨l, h⟩
      · have := (List.getElem?_eq_some_iff.mp h).1
        rw [List.length_append, List.length_singleton] at this
        have ej : j = st.1.length := by omega
        subst ej
        rw [List.getElem?_append_right (Nat.le_refl _), Nat.sub_self] at h
        exact .inr ⟨rfl, (Option.some.inj h).symm⟩
    have old : ∀ {j : Nat} {r : TRow}, st.1[j]? = some r → (st.1 ++ [(⟨1 - m.1, y.1, y.2, some m.2.toNat⟩ : TRow)])[j]? = some r := fun {j r} h => by
      rw [List.getElem?_append_left (List.getElem?_eq_some_iff.mp h).1]; exact h
    refine ⟨fun x a i hx => ?_, fun r hr => ?_, fun i j r s hij hi hj hd => ?_, fun j r hj hr => ?_⟩
    · replace hx : (if x = y.1 then some (m.1 - 1, (st.1.length : Int)) else st.2 x) = some (a, i) := hx
      by_cases e : x = y.1
      · rw [if_pos e] at hx; cases hx
        exact ⟨st.1.length, _, rfl, by rw [List.getElem?_append_right (Nat.le_refl _), Nat.sub_self]; rfl, e.symm, by show 1 - m.1 = -(m.1 - 1); omega⟩
      · rw [if_neg e] at hx
        obtain ⟨j, r, h1, h2, h3⟩ := h.dep x a i hx
        exact ⟨j, r, h1, old h2, h3⟩
    · show ∃ a i, (if r.x = y.1 then some (m.1 - 1, (st.1.length : Int)) else st.2 r.x) = some (a, i) ∧ r.d ≤ -a
      by_cases e : r.x = y.1
      · rw [if_pos e]
        refine ⟨_, _, rfl, ?_⟩
        rcases List.mem_append.mp hr with hr | hr
        · have := adj r hr (by rw [e]; exact hy)
          omega
        · rw [List.mem_singleton.mp hr]
          show 1 - m.1 ≤ -(m.1 - 1)
          omega
      · rw [if_neg e]
        rcases List.mem_append.mp hr with hr | hr
        · exact h.max r hr
        · rw [List.mem_singleton.mp hr] at e; exact absurd rfl e
    · rcases at_old hj with ⟨lj, hj'⟩ | ⟨ej, es⟩
      · rcases at_old hi with ⟨_, hi'⟩ | ⟨ei, _⟩
        · exact h.sep i j r s hij hi' hj' hd
        · omega
      · rcases at_old hi with ⟨_, hi'⟩ | ⟨ei, _⟩
        · subst es
          intro hx
          have := adj r (List.mem_of_getElem? hi') hx
          have hd' : r.d = 1 - m.1 := hd
          omega
        · omega
    · rcases at_old hr with ⟨lj, hr'⟩ | ⟨ej, er⟩
      · obtain ⟨p, s, h1, h2, h3, h4⟩ := h.par j r hj hr'
        exact ⟨p, s, h1, h2, old h3, h4⟩
      · subst er
        refine ⟨pj, pr, ?_, by omega, old hp, ?_, by rw [ex]; exact hw⟩
        · show some m.2.toNat = some pj
          rw [ep, Int.toNat_natCast]
        · show pr.d = 1 - m.1 - 1
          omega
theorem TI.fold {R : List Row} : ∀ (l : List Pc) (st : List TRow × DpF), TI R st → (∀ y ∈ l, y.1 ∈ near R y.1) → TI R (l.foldl (tstep R) st)
  | [], _, h, _ => h
  | y :: l, st, h, hl => by
    rw [List.foldl_cons]
    exact TI.fold l _ (h.step (hl y List.mem_cons_self)) fun z hz => hl z (List.mem_cons_of_mem _ hz)
theorem near_self {R : List Row} (nd : (R.map (·.1)).Nodup) {y : Pc} (h : isPc R y) : y.1 ∈ near R y.1 := by
  obtain ⟨r, hr, e, _⟩ := h
  rw [← e, near_of nd hr]
  exact List.mem_cons_self
theorem near_adj {R : List Row} (nd : (R.map (·.1)).Nodup) {r s : Row} (hr : r ∈ R) (hs : s ∈ R) : adjB r s = decide (s.1 ∈ near R r.1) := by
  rw [near_of nd hr, show decide (s.1 ∈ r.1 :: nbs R r) = (decide (s.1 = r.1) || decide (s.1 ∈ nbs R r)) by rw [← Bool.decide_or]; simp only [List.mem_cons], in_nbs nd hs]
  unfold adjB
  by_cases h : s.1 = r.1
  · rw [h]; simp
  · rw [decide_eq_false h, decide_eq_false (Ne.symm h)]; simp
theorem tree_TI {R : List Row} (nd : (R.map (·.1)).Nodup) {qs : List Pc} (h : ∀ q ∈ qs, isPc R q) (k : Nat) (q : Pc) : TI R (tst R qs k q k) := by
  unfold tst
  exact TI.fold _ _ (TI.init R q) fun y hy => near_self nd (h y (List.mem_of_mem_take (List.mem_reverse.mp (List.mem_of_mem_take hy))))
theorem fold_root {R : List Row} {r0 : TRow} : ∀ (l : List Pc) (st : List TRow × DpF), st.1[0]? = some r0 → (l.foldl (tstep R) st).1[0]? = some r0
  | [], _, h => h
  | y :: l, st, h => by
    rw [List.foldl_cons]
    refine fold_root l _ ?_
    cases e : (near R y.1).filterMap st.2 with
    | nil => rw [tstep_nil e]; exact h
    | cons f fs => rw [tstep_cons e, List.getElem?_append_left (List.getElem?_eq_some_iff.mp h).1]; exact h
theorem tree_root (R : List Row) (qs : List Pc) (k : Nat) (q : Pc) : (treeOf R qs k q)[0]? = some ⟨0, q.1, q.2, none⟩ := by
  unfold treeOf tst
  exact fold_root _ _ rfl
/-- rows of an event -/
def cnt (x : Str) (rs : List TRow) : Nat := (rs.filter fun r => decide (r.x = x)).length
theorem fold_cnt {R : List Row} {x : Str} (hx : x ∈ near R x) : ∀ (l : List Pc) (st : List TRow × DpF), (st.2 x).isSome = true → cnt x (l.foldl (tstep R) st).1 = cnt x st.1 + (l.filter fun q => decide (q.1 = x)).length
  | [], st, _ => rfl
  | y :: l, st, h => by
    rw [List.foldl_cons]
    cases e : (near R y.1).filterMap st.2 with
    | nil =>
      have ne : ¬ y.1 = x := fun z => by
        obtain ⟨a, ha⟩ := Option.isSome_iff_exists.mp h
        have : a ∈ (near R y.1).filterMap st.2 := List.mem_filterMap.mpr ⟨x, by rw [z]; exact hx, ha⟩
        rw [e] at this; cases this
      rw [tstep_nil e, fold_cnt hx l st h, List.filter_cons_of_neg (by simpa using ne)]
    | cons f fs =>
      rw [tstep_cons e, fold_cnt hx l _ (by
        show (if x = y.1 then some ((minP f fs).1 - 1, (st.1.length : Int)) else st.2 x).isSome = true
        by_cases z : x = y.1
        · rw [if_pos z]; rfl
        · rw [if_neg z]; exact h)]
      unfold cnt
      dsimp only
      rw [List.filter_append, List.length_append]
      by_cases z : y.1 = x
      · rw [List.filter_cons_of_pos (by simpa using z), List.filter_cons_of_pos (by simpa using z)]
        simp; omega
      · rw [List.filter_cons_of_neg (by simpa using z), List.filter_cons_of_neg (by simpa using z)]
        simp
theorem tree_cnt {R : List Row} {qs : List Pc} {k : Nat} {q : Pc} (hx : q.1 ∈ near R q.1) : cnt q.1 (treeOf R qs k q) = 1 + ((qs.take k).filter fun z => decide (z.1 = q.1)).length := by
  unfold treeOf tst
  rw [fold_cnt hx _ _ (by show (if q.1 = q.1 then some ((0 : Int), (0 : Int)) else none).isSome = true; rw [if_pos rfl]; rfl)]
  have e : ((qs.take k).reverse.take k) = (qs.take k).reverse := List.take_of_length_le (by rw [List.length_reverse, List.length_take]; omega)
  rw [e, List.filter_reverse, List.length_reverse]
  congr 1
  unfold cnt tinit
  simp
/-- trees of different steps differ -/
theorem tree_ne {R : List Row} (nd : (R.map (·.1)).Nodup) {qs : List Pc} (h : ∀ q ∈ qs, isPc R q) {i j : Nat} {p q : Pc} (hi : qs[i]? = some p) (hj : qs[j]? = some q) (e : treeOf R qs i p = treeOf R qs j q) : i = j := by
  have main : ∀ {i j : Nat} {p q : Pc}, qs[i]? = some p → qs[j]? = some q → treeOf R qs i p = treeOf R qs j q → ¬ i < j := fun {i j p q} hi hj e lt => by
    have r1 := tree_root R qs i p
    rw [e, tree_root] at r1
    have ex : q.1 = p.1 := congrArg TRow.x (Option.some.inj r1)
    have c1 := tree_cnt (R := R) (qs := qs) (k := i) (near_self nd (h p (List.mem_of_getElem? hi)))
    have c2 := tree_cnt (R := R) (qs := qs) (k := j) (near_self nd (h q (List.mem_of_getElem? hj)))
    rw [e, ← ex, c2] at c1
    have li := (List.getElem?_eq_some_iff.mp hi).1
    have e3 : qs.take j = qs.take i ++ (qs.drop i).take (j - i) := by
      rw [show j = i + (j - i) by omega, List.take_add]; simp
    rw [e3, List.filter_append, List.length_append] at c1
    have ed : qs.drop i = p :: qs.drop (i + 1) := by
      rw [List.drop_eq_getElem_cons li]
      rw [List.getElem?_eq_getElem li] at hi
      rw [Option.some.inj hi]
    rw [ed, show j - i = (j - i - 1) + 1 by omega, List.take_succ_cons, List.filter_cons_of_pos (by simpa using ex.symm)] at c1
    simp at c1
  rcases Nat.lt_trichotomy i j with l | l | l
  · exact absurd l (main hi hj e)
  · exact l
  · exact absurd l (main hj hi e.symm)

end K62
namespace K62
open PySem PySem.Spec PyProof.Rows L2 TL
/-! ### a history drawn -/
/-- the pieces of rows -/
def pool (R : List Row) : List Pc := R.flatMap fun r => r.2.2.map fun b => (r.1, b)
theorem pool_pc {R : List Row} : ∀ q ∈ pool R, isPc R q := fun q hq => by
  obtain ⟨r, hr, h⟩ := List.mem_flatMap.mp hq
  obtain ⟨b, hb, rfl⟩ := List.mem_map.mp h
  exact ⟨r, hr, rfl, hb⟩
theorem pool_snoc {R : List Row} {i : Nat} (h : i < R.length) : pool (R.take (i + 1)) = pool (R.take i) ++ R[i].2.2.map fun b => (R[i].1, b) := by
  unfold pool
  rw [take_snoc h, List.flatMap_append]
  simp
def pcD (q : Pc) : PyData := .tuple [.str q.1, tupD q.2]
theorem pc_dp {K : PySem.W.Frag} {M : List Addr} {H : Hp} {v : V} {q : Pc} (h : sPc.at M H v q) : Dp K H v (pcD q) := by
  obtain ⟨t, u, rfl, -, ht, -, hu⟩ := sPc_at h
  exact .tup (.inl (.inl ht)) (.cons (.str _) (.cons (dp_tup (G := fun _ => True) ⟨u, rfl, trivial, hu⟩) .nil))
theorem shd_pcs {qs : List Pc} (h : ∀ q ∈ qs, NameOk q.1) : SeqAt.shaped (.list (qs.map pcD)) = true := (Shd.list (k := 2) fun d hd => by
  obtain ⟨q, hq, rfl⟩ := List.mem_map.mp hd
  exact Shd.tuple (allC (shd_le (Shd.str (h q hq)) (by decide)) (all1 (shd_tup _)))).shaped (by decide)
def sp_pieces : Sp := fun vs H Q _ => ∃ (M : List Addr) (b : Addr) (n : Nat) (v : V) (L : List (Str × Int)) (R : List Row), vs = [.ref b, v, .int 40] ∧ b ∈ M ∧ Alv M H ∧ Bag H b n ∧ n + 100 ≤ 1000000 ∧ (sL sRow).at M H v R ∧ EvsOk L R ∧
  ∀ (w : V) (qs : List Pc) H', Stp [b] H H' → (sL sPc).at M H' w qs → qs.length ≤ 40 → (∀ q ∈ qs, isPc R q) → Bag H' b (n + 50) → Q w H'
theorem ok_l_pieces {P : Program} {w : World} {K : PySem.W.Frag} {mg : Str → Option Value} {base : Heap} (T : Txt P K mg) : FnOk P w K mg base CX0 2 T.f_l_pieces T.fd_l_pieces ["_law_box_here", "_law_events", "_law_upto"] (sp_pieces) := by
  refine T.F_l_pieces.ok sc_l_pieces (fun vs H Q E h => ?_) (fun cdv A outer s H vs Q E hr h => ?_)
  · obtain ⟨_, _, _, _, _, _, rfl, _⟩ := h; rfl
  · obtain ⟨M, b, n, v, L, R, rfl, hb, al, hB, hn, hv, okR, q⟩ := h
    obtain ⟨a, xs, rfl, na, ha, pd⟩ := id hv
    have lx := plen pd
    have r8 := okR.few
    refine ⟨_, PSs.nox (pss_cons (ps_set (i := 3) sc_l_pieces.nd rfl (Or.inr rfl) (pe_lst pa_nil))
      (pss_cons (ps_for PassesOwn.never rfl (pi_list (pv 1)) (pg_tup rfl (pgs_cons (pg_name (i := 4) sc_l_pieces.nd rfl (Or.inr rfl)) (pgs_cons (pg_name (i := 5) sc_l_pieces.nd rfl (Or.inl rfl)) (pgs_cons (pg_name (i := 6) sc_l_pieces.nd rfl (Or.inl rfl)) pgs_nil)))) (pss_one (ps_expr (pe_bm PySem.F.plainAttrs_list PySem.F.slot_list_extend PySem.F.type_list_extend mt_extend (pv 3) (pa_cons (pe_lc (own := [("_law_bad", 8)]) (g := gName 8) rfl sc_l_pieces.nd (pi_list (pv 6)) (blkOk_by (own := [("_law_bad", 8)]) (N := N_l_pieces) (sc := defScope s_l_pieces) (by decide +kernel)) (fun _ _ _ _ _ => (pg_name (i := 8) sc_l_pieces.nd rfl (Or.inl rfl))) (fun _ _ _ _ _ => pts_nil) (fun _ _ _ _ _ => (pe_tup (pa_cons (pv 4) (pa_cons (pv 8) pa_nil))))) pa_nil)))))
      (pss_one (ps_ret (pe_lc (own := [("_law_k", 7)]) (g := gName 7) rfl sc_l_pieces.nd (pi_range1 (by rfl) T.n_range (pa_cons (pe_call (ok_l_take T) (hr.mono (by decide)) (by rfl) T.g_l_take T.F_l_take.kp (b_l_take T) .nil pass0 (pa_cons (pv 0) (pa_cons (pe_op op_add (pv 2) pe_int) pa_nil))) pa_nil)) (blkOk_by (own := [("_law_k", 7)]) (N := N_l_pieces) (sc := defScope s_l_pieces) (by decide +kernel)) (fun _ _ _ _ _ => (pg_name (i := 7) sc_l_pieces.nd rfl (Or.inl rfl))) (fun _ _ _ _ _ => pts_one (pt_cmpR (show OpR _ (compareOp .NotEq) (rNeD K) from op_neD hr.units) (pv 3) (pe_lst pa_nil) (nomark _))) (fun _ _ _ _ _ => (pe_ix (show IxR _ (rIxL K) from ix_list) (pv 3) (pe_call (ok_l_take T) (hr.mono (by decide)) (by rfl) T.g_l_take T.F_l_take.kp (b_l_take T) .nil pass0 (pa_cons (pv 0) (pa_cons (pe_callB (show CallR _ _ (rLenSeq K) from call_len_seq) (by rfl) T.n_len (by decide +kernel) (pa_cons (pv 3) pa_nil)) pa_nil))) (fun _ _ => rfl)))))))), ?_⟩
    rw [show L2.start N_l_pieces [V.ref b, V.ref a, V.int 40] = [some (.ref b), some (.ref a), some (.int 40), none, none, none, none, none, none] from rfl]
    refine ⟨Nat.zero_le _, fun F nF => ?_⟩
    have ac0 : Acc sPc F M [] H (upd H F (.lst [])) [] := Acc.start al nF (by simp)
    generalize upd H F (.lst []) = H1 at ac0
    simp only [List.set_cons_succ, List.set_cons_zero]
    repeat (first | refine ⟨_, rfl, ?_⟩ | refine ⟨_, _, rfl, rfl, ?_⟩ | refine ⟨_, _, rfl, ?_⟩ | refine ⟨rfl, ?_⟩)
    refine ⟨⟨_, SqL.of (ac0.st.same _ _ ha)⟩, for_it (walk_list (K := K) (a := a) (xs := xs)) (fun i σ G => ∃ y4 y5 y6 zs, σ = [some (.ref b), some (.ref a), some (.int 40), some (.ref F), y4, y5, y6, none, none] ∧ Acc sPc F M [] H G zs ∧ zs = pool (R.take i) ∧ zs.length ≤ 12 * i) ⟨_, _, _, [], rfl, ac0, rfl, Nat.le_refl _⟩ (fun i σ G _ ⟨_, _, _, _, _, ac, _⟩ => SqL.of (ac.st.same _ _ ha)) ?_ ?_⟩
    · rintro i x σ Hx G hi ⟨y4, y5, y6, zs, rfl, ac, ez, lz⟩ ⟨rfl, hx⟩
      obtain ⟨r, hr1, hm⟩ := pget' pd hx
      obtain ⟨t, i1, i2, i3, rfl, nt, ht, h1, h2, ⟨c, cs, ec, nc, hC, pdC⟩⟩ := hm
      cases h1; subst ec
      have sG := ac.st.same
      refine ⟨t, _, rfl, .inl (.inl (sG _ _ ht)), rfl, _, _, rfl, _, _, rfl, _, _, rfl, rfl, ?_⟩
      simp only [List.set_cons_succ, List.set_cons_zero]
      repeat (first | refine ⟨_, rfl, ?_⟩ | refine ⟨_, _, rfl, rfl, ?_⟩ | refine ⟨_, _, rfl, ?_⟩ | refine ⟨rfl, ?_⟩)
      obtain ⟨vs, hF, pF⟩ := ac.ac
      have rok := okR.ok r (List.mem_of_getElem? hr1)
      refine ⟨.inl ⟨rfl, _, SqL.of hF⟩, ?_⟩
      repeat (first | refine ⟨_, rfl, ?_⟩ | refine ⟨_, _, rfl, rfl, ?_⟩ | refine ⟨_, _, rfl, ?_⟩ | refine ⟨rfl, ?_⟩)
      refine ⟨⟨_, SqL.of (sG _ _ hC)⟩, fun U nU => ?_⟩
      have nU0 : H U = none := Same.none sG nU
      refine lc_it (walk_list (K := K) (a := c) (xs := cs)) (fun j G' => ∃ us, Acc sPc U (F :: M) [] G G' us ∧ us = (r.2.2.take j).map fun b => (r.1, b)) ⟨[], Acc.start ac.alv nU (by simp), rfl⟩ (fun j G' _ ⟨_, a2, _⟩ => SqL.of (a2.st.same _ _ (sG _ _ hC))) ?_ ?_
      · rintro j x Hx G' hj ⟨us, a2, eu⟩ ⟨rfl, hx2⟩
        obtain ⟨bb, hbb, hmb⟩ := pget' pdC hx2
        refine ⟨wipe_in (by decide), ?_⟩
        repeat (first | refine ⟨_, rfl, ?_⟩ | refine ⟨_, _, rfl, rfl, ?_⟩ | refine ⟨_, _, rfl, ?_⟩ | refine ⟨rfl, ?_⟩)
        refine ⟨lenk 2 rfl (by decide), fun T nT => ?_⟩
        have lj := (List.getElem?_eq_some_iff.mp hbb).1
        have b12 := rok.bfew
        refine a2.put (y := (r.1, bb)) (R := fun us => us = (r.2.2.take (j + 1)).map fun b => (r.1, b)) (Stp.new nT) (mk_P (s := sStr) (t := sT sInt) a2.alv nT rfl (Sh.go hmb (Stp.of_same (m := []) (sG.trans a2.st.same)) Sb.nil (Sb.new nU0 (Sb.new nF Sb.refl)))) (by rw [eu, List.length_map, List.length_take]; omega) ?_
        rw [eu, take_map_snoc _ hbb]
      rintro G' ⟨us, a2, eu⟩
      have lcs := plen pdC
      rw [lcs, List.take_length] at eu
      obtain ⟨ws, hU, pU⟩ := a2.ac
      have hF2 := a2.st.same _ _ hF
      have lus : us.length ≤ 12 := by rw [eu, List.length_map]; exact rok.bfew
      have lws := plen pU
      have lvs := plen pF
      refine ⟨F, U, _, _, rfl, rfl, hF2, hU, by rw [sizeLine_eq]; omega, ?_⟩
      have li := (List.getElem?_eq_some_iff.mp hr1).1
      have er := (List.getElem?_eq_some_iff.mp hr1).2
      have mvF : ∀ {s : Sh Pc} {v : V} {z : Pc}, s.at (F :: M) G' v z → s.at (F :: M) (upd G' F (.lst (vs ++ ws))) v z := fun {s v z} h => s.mv h fun a o n e => ⟨by rw [upd_ne (fun q => n (by simp [q]))]; exact e, n⟩
      refine ⟨_, _, _, zs ++ us, rfl, ⟨ac.al, ac.nD, ac.sub, (ac.st.trans (Stp.of_same a2.st.same)).putN ac.nD, _, upd_same, papp (Paired.mapP pF fun _ _ z => mvF (Sh.go z (Stp.of_same (m := []) a2.st.same) Sb.nil Sb.refl)) (Paired.mapP pU fun _ _ z => mvF (sPc.mv z fun a o n e => ⟨e, fun q => n (List.mem_cons_of_mem _ q)⟩))⟩, ?_, by rw [List.length_append]; omega⟩
      rw [pool_snoc li, er, ez, eu]
    · rintro σ G ⟨y4, y5, y6, zs, rfl, ac, ez, lz⟩
      repeat (first | refine ⟨_, rfl, ?_⟩ | refine ⟨_, _, rfl, rfl, ?_⟩ | refine ⟨_, _, rfl, ?_⟩ | refine ⟨rfl, ?_⟩)
      rw [lx, List.take_length] at ez
      subst ez
      have nFM : F ∉ M := al.off nF
      have nFb : F ∉ [b] := fun e => nFM (by rw [List.mem_singleton.mp e]; exact hb)
      have sG := ac.st.same
      have hBG : Bag G b n := hB.same sG
      have nmP : ∀ y : Pc, isPc R y → NameOk y.1 := fun y ⟨r, hr, e, _⟩ => by rw [← e]; exact (okR.ok r hr).nm
      refine ⟨b, n, 41, rfl, hBG, by omega, by decide, by decide, fun i2 G2 f2 b2 x0 x1 => ?_⟩
      repeat (first | refine ⟨_, rfl, ?_⟩ | refine ⟨_, _, rfl, rfl, ?_⟩ | refine ⟨_, _, rfl, ?_⟩ | refine ⟨rfl, ?_⟩)
      obtain ⟨vs, hF, pF⟩ := ac.ac
      have lvs := plen pF
      have alF : Alv (F :: M) G := Alv.cons hF (al.go ac.st)
      have sf := f2.stp b2.some
      have hF2 := sf.at hF nFb
      refine ⟨by omega, by omega, fun D nD => ?_⟩
      have bF : ∀ a ∈ [b], a ∈ F :: M := fun x hx => by rw [List.mem_singleton.mp hx]; exact List.mem_cons_of_mem _ hb
      have al2 := alF.go sf
      have nDF : D ∉ F :: M := al2.off nD
      refine lc_it walk_range (fun i H' => ∃ ys, Acc sPc D (F :: M) [b] G2 H' ys ∧ ((∀ q ∈ ys, isPc R q) ∧ ys.length ≤ i) ∧ Bag H' b (n + 1 + i)) ⟨[], Acc.start al2 nD bF, ⟨by simp, Nat.le_refl _⟩, (b2.upd (b2.ne nD)).mono (by omega)⟩ (fun _ _ _ _ => trivial) ?_ ?_
      · rintro i x Hx G6 hi ⟨ys, a6, ⟨hy, ly⟩, b6⟩ ⟨rfl, rfl⟩
        refine ⟨wipe_in (by decide), ?_⟩
        have st6 := sf.trans a6.st
        have hF6 := st6.at hF nFb
        have p6 := Sh.gos pF st6 (fun x hx => .inl (bF x hx)) Sb.refl
        repeat (first | refine ⟨_, rfl, ?_⟩ | refine ⟨_, _, rfl, rfl, ?_⟩ | refine ⟨_, _, rfl, ?_⟩ | refine ⟨rfl, ?_⟩)
        refine ⟨lenk 0 rfl (by decide), fun p np => ?_⟩
        have s7 : Same G6 (upd G6 p (.lst [])) := Same.new np
        have hp7 : upd G6 p (.lst []) p = some (.lst []) := upd_same
        generalize upd G6 p (.lst []) = G7 at s7 hp7
        have p7 := Sh.gos p6 (Stp.of_same (m := []) s7) Sb.nil Sb.refl
        have hF7 := s7 _ _ hF6
        have b7 := b6.same s7
        have a7 := a6.go (Stp.of_same s7)
        refine ⟨.list ((pool R).map pcD), .list [], .lst (SqL.of hF7) (dpA (fun _ _ z => pc_dp z) p7), .lst (SqL.of hp7) .nil, shd_pcs fun q hq => nmP q (pool_pc q hq), by decide, ?_⟩
        refine ⟨_, rfl, ite2 (fun e => ?_) (fun e => ?_)⟩
        · have lz : 0 < (pool R).length := by
            cases h : pool R with
            | nil => rw [h] at e; exact absurd e (by decide)
            | cons y ys => exact Nat.succ_pos _
          repeat (first | refine ⟨_, rfl, ?_⟩ | refine ⟨_, _, rfl, rfl, ?_⟩ | refine ⟨_, _, rfl, ?_⟩ | refine ⟨rfl, ?_⟩)
          refine ⟨F, vs, rfl, .inl (SqL.of hF7), ?_⟩
          repeat (first | refine ⟨_, rfl, ?_⟩ | refine ⟨_, _, rfl, rfl, ?_⟩ | refine ⟨_, _, rfl, ?_⟩ | refine ⟨rfl, ?_⟩)
          refine ⟨b, _, (vs.length : Int), rfl, b7, by omega, by omega, by omega, fun i3 G8 f8 b8 z0 z1 => ?_⟩
          obtain ⟨w, hw, ew⟩ := atI_in (xs := vs) z0 z1
          have s8 := f8.stp b8.some
          have hF8 := s8.at hF7 nFb
          repeat (first | refine ⟨_, rfl, ?_⟩ | refine ⟨_, _, rfl, rfl, ?_⟩ | refine ⟨_, _, rfl, ?_⟩ | refine ⟨rfl, ?_⟩)
          refine ⟨F, vs, i3, w, rfl, rfl, SqL.of hF8, ew, ?_⟩
          have p2 := Sh.gos pF sf (fun x hx => .inl (bF x hx)) Sb.refl
          have p8 := Sh.gos p2 ((a6.st.trans (Stp.of_same s7)).trans s8) (fun x hx => .inl (bF x hx)) (Sb.new nD Sb.refl)
          obtain ⟨z, hz, hm⟩ := pget' p8 hw
          have nDb : D ≠ b := fun e => nDF (by rw [e]; exact List.mem_cons_of_mem _ hb)
          refine a7.putB (y := z) (R := fun ys => (∀ q ∈ ys, isPc R q) ∧ ys.length ≤ i + 1) (fun H => Bag H b (n + 1 + (i + 1))) s8 hm (by omega) ⟨fun q hq => ?_, by rw [List.length_append]; exact Nat.succ_le_succ ly⟩ ?_
          · rcases List.mem_append.mp hq with h | h
            · exact hy q h
            · rw [List.mem_singleton.mp h]; exact pool_pc _ (List.mem_of_getElem? hz)
          · exact fun H' k => (Bag.off b8 fun o e => k b o (Ne.symm nDb) e).mono (by omega)
        · exact ⟨ys, a7, ⟨hy, by omega⟩, b7.mono (by omega)⟩
      · rintro G6 ⟨ys, a6, ⟨hy, ly⟩, b6⟩
        repeat (first | refine ⟨_, rfl, ?_⟩ | refine ⟨_, _, rfl, rfl, ?_⟩ | refine ⟨_, _, rfl, ?_⟩ | refine ⟨rfl, ?_⟩)
        refine q _ ys _ ((Stp.of_same sG).trans (sf.trans a6.st)) ((sL sPc).mv a6.done fun a o n e => ⟨e, fun q => n (List.mem_cons_of_mem _ q)⟩) (by omega) hy (b6.mono (by omega))

end K62
namespace K62
open PySem PySem.Spec PyProof.Rows L2 TL
open _root_.TL
theorem in_tl (a b : Str) : tl (a ++ b) = tl a ++ tl b := by
  show (a.cps ++ b.cps).toList = _
  simp [tl]

theorem tl_rt {x : Str} (h : ∀ c ∈ tl x, 97 ≤ c ∧ c ≤ 122) : tl (reprText x) = 39 :: (tl x ++ [39]) := by
  have q : reprQuote x = 39 := by
    unfold reprQuote
    have : x.cps.contains 39 = false := by
      rw [Bool.eq_false_iff]
      intro z
      have := h 39 (by simpa [tl] using z)
      omega
    rw [this]; rfl
  unfold reprText
  rw [q]
  have ch : ∀ c : Nat, 97 ≤ c ∧ c ≤ 122 → Builtin.Str.reprChar 39 c = [c] := by
    intro c ⟨h1, h2⟩
    have : ∀ d : Fin 123, 97 ≤ d.val → Builtin.Str.reprChar 39 d.val = [d.val] := by decide +kernel
    exact this ⟨c, by omega⟩ h1
  have f : ∀ (l : List Nat) (acc : Array Nat), (∀ c ∈ l, 97 ≤ c ∧ c ≤ 122) → (l.foldl (fun out c => out ++ (Builtin.Str.reprChar 39 c).toArray) acc).toList = acc.toList ++ l := by
    intro l
    induction l with
    | nil => intro acc _; simp
    | cons c l ih =>
      intro acc hl
      rw [List.foldl_cons, ih _ (fun d hd => hl d (List.mem_cons_of_mem _ hd)), ch c (hl c List.mem_cons_self)]
      simp
  show (Array.push _ _).toList = _
  rw [Array.toList_push, ← Array.foldl_toList, f _ _ h]
  rfl
theorem join_c (a b : Str) (l : List Str) : tl ((Str.ofString ", ").join (a :: b :: l)) = tl a ++ 44 :: 32 :: tl ((Str.ofString ", ").join (b :: l)) := by
  rw [show (Str.ofString ", ").join (a :: b :: l) = a ++ Str.ofString ", " ++ (Str.ofString ", ").join (b :: l) from rfl, in_tl, in_tl]
  rw [show tl (Str.ofString ", ") = [44, 32] from by decide +kernel]
  simp
theorem join_1 (a : Str) : (Str.ofString ", ").join [a] = a := rfl
theorem split_at {c : Nat} : ∀ {a b s t : List Nat}, c ∉ a → c ∉ b → a ++ c :: s = b ++ c :: t → a = b ∧ s = t
  | [], [], _, _, _, _, h => ⟨rfl, (List.cons.inj h).2⟩
  | [], y :: b, _, _, _, hb, h => absurd (List.cons.inj h).1 fun e => hb (by rw [e]; exact List.mem_cons_self)
  | y :: a, [], _, _, ha, _, h => absurd (List.cons.inj h).1 fun e => ha (by rw [← e]; exact List.mem_cons_self)
  | y :: a, z :: b, s, t, ha, hb, h => by
    obtain ⟨e, h⟩ := List.cons.inj h
    obtain ⟨e1, e2⟩ := split_at (fun m => ha (List.mem_cons_of_mem _ m)) (fun m => hb (List.mem_cons_of_mem _ m)) h
    exact ⟨by rw [e, e1], e2⟩
/-- the text of a tuple of ints: no ')' but at its end -/
theorem join_free {c : Nat} (h1 : c ≠ 44) (h2 : c ≠ 32) : ∀ {l : List Str}, (∀ s ∈ l, c ∉ tl s) → c ∉ tl ((Str.ofString ", ").join l)
  | [], _ => by rw [show tl ((Str.ofString ", ").join []) = [] from rfl]; simp
  | [a], h => by rw [join_1]; exact h a List.mem_cons_self
  | a :: b :: l, h => by
    rw [join_c]
    intro m
    rcases List.mem_append.mp m with m | m
    · exact h a List.mem_cons_self m
    · rcases List.mem_cons.mp m with e | m
      · exact h1 e
      · rcases List.mem_cons.mp m with e | m
        · exact h2 e
        · exact join_free h1 h2 (fun s hs => h s (List.mem_cons_of_mem _ hs)) m
theorem tup_end {ds : List PyData} (h : ∀ d ∈ ds, 41 ∉ tl d.shown) : ∃ g, tl (PyData.tuple ds).shown = g ++ [41] ∧ 41 ∉ g := by
  rw [PyData.shown.eq_6]
  unfold tupleText
  rw [in_tl, in_tl]
  have f := join_free (c := 41) (by decide) (by decide) (l := PyData.shownAll ds) (shownAll_free h)
  generalize (Str.ofString ", ").join (PyData.shownAll ds) = j at f
  generalize PyData.shownAll ds = l
  by_cases z : l.length = 1
  · refine ⟨40 :: (tl j ++ [44]), ?_, ?_⟩
    · rw [show (if (l.length == 1) = true then ",)" else ")") = ",)" by rw [z]; rfl]
      rw [show tl (Str.ofString ",)") = [44, 41] from by decide +kernel, show tl (Str.ofString "(") = [40] from by decide +kernel]
      simp
    · intro m
      rcases List.mem_cons.mp m with e | m
      · cases e
      · rcases List.mem_append.mp m with m | m
        · exact f m
        · cases List.mem_singleton.mp m
  · refine ⟨40 :: tl j, ?_, ?_⟩
    · rw [show (if (l.length == 1) = true then ",)" else ")") = ")" by rw [if_neg (by simpa using z)]]
      rw [show tl (Str.ofString ")") = [41] from by decide +kernel, show tl (Str.ofString "(") = [40] from by decide +kernel]
      simp
    · intro m
      rcases List.mem_cons.mp m with e | m
      · cases e
      · exact f m
theorem tl_eq : ∀ {a b : Str}, tl a = tl b → a = b
  | ⟨a⟩, ⟨b⟩, h => congrArg Str.mk (Array.toList_inj.mp h)
theorem tr_tx (r : TRow) (h : NameOk r.x) : ∃ u g p : List Nat, 44 ∉ u ∧ 41 ∉ g ∧ 41 ∉ p ∧ tl (trD r).shown = 40 :: (u ++ 44 :: (32 :: 39 :: (tl r.x ++ 39 :: (44 :: 32 :: (g ++ 41 :: (44 :: 32 :: (p ++ 41 :: []))))))) := by
  obtain ⟨g, eg, fg⟩ := tup_end (ds := r.ns.map PyData.int) fun d hd => by
    obtain ⟨n, _, rfl⟩ := List.mem_map.mp hd
    exact (shown_int_free_41 n).mp
  refine ⟨tl (PyData.int r.d).shown, g, tl (parD r.p).shown, (shown_int_free_44 _).mp, fg, ?_, ?_⟩
  · cases r.p with
    | none => decide +kernel
    | some n => exact (shown_int_free_41 _).mp
  · unfold trD tupD
    rw [PyData.shown.eq_6, shownAll_eq_map]
    unfold tupleText
    rw [in_tl, in_tl]
    rw [List.map_cons, List.map_cons, List.map_cons, List.map_cons, List.map_nil, join_c, join_c, join_c, join_1, eg, PyData.shown.eq_4, tl_rt h.2.2]
    rw [show (if (([(PyData.int r.d).shown, reprText r.x, (PyData.tuple (r.ns.map PyData.int)).shown, (parD r.p).shown] : List Str).length == 1) = true then ",)" else ")") = ")" from rfl]
    rw [show tl (Str.ofString ")") = [41] from by decide +kernel, show tl (Str.ofString "(") = [40] from by decide +kernel]
    simp
theorem tr_cut {r q : TRow} (hr : NameOk r.x) (hq : NameOk q.x) {s t : List Nat} (e : tl (trD r).shown ++ s = tl (trD q).shown ++ t) : r.x = q.x ∧ s = t := by
  obtain ⟨u, g, p, h1, h2, h3, er⟩ := tr_tx r hr
  obtain ⟨u', g', p', h1', h2', h3', eq⟩ := tr_tx q hq
  rw [er, eq] at e
  simp only [List.cons_append, List.append_assoc, List.nil_append] at e
  have e1 := (split_at h1 h1' (List.cons.inj e).2).2
  have n39 : ∀ x : Str, NameOk x → 39 ∉ tl x := fun x h m => by have := h.2.2 39 m; omega
  obtain ⟨ex, e2⟩ := split_at (n39 _ hr) (n39 _ hq) (List.cons.inj (List.cons.inj e1).2).2
  have e3 := (split_at h2 h2' (List.cons.inj (List.cons.inj e2).2).2).2
  exact ⟨tl_eq ex, (split_at h3 h3' (List.cons.inj (List.cons.inj e3).2).2).2⟩
theorem trs_cut : ∀ {rs qs : List TRow}, (∀ r ∈ rs, NameOk r.x) → (∀ r ∈ qs, NameOk r.x) →
    tl ((Str.ofString ", ").join ((rs.map trD).map PyData.shown)) ++ [93] = tl ((Str.ofString ", ").join ((qs.map trD).map PyData.shown)) ++ [93] → rs.map TRow.x = qs.map TRow.x
  | [], [], _, _, _ => rfl
  | [], q :: qs, _, hq, e => by
    obtain ⟨u, g, p, _, _, _, er⟩ := tr_tx q (hq q List.mem_cons_self)
    cases qs with
    | nil =>
      rw [List.map_cons, List.map_nil, List.map_cons, List.map_nil, join_1, er] at e
      cases (List.cons.inj e).1
    | cons q2 qs =>
      rw [List.map_cons, List.map_cons, List.map_cons, List.map_cons, join_c, er] at e
      cases (List.cons.inj e).1
  | r :: rs, [], hr, _, e => by
    obtain ⟨u, g, p, _, _, _, er⟩ := tr_tx r (hr r List.mem_cons_self)
    cases rs with
    | nil =>
      rw [List.map_cons, List.map_nil, List.map_cons, List.map_nil, join_1, er] at e
      cases (List.cons.inj e).1
    | cons q2 qs =>
      rw [List.map_cons, List.map_cons, List.map_cons, List.map_cons, join_c, er] at e
      cases (List.cons.inj e).1
  | [r], [q], hr, hq, e => by
    rw [List.map_cons, List.map_nil, List.map_cons, List.map_nil, join_1, List.map_cons, List.map_nil, List.map_cons, List.map_nil, join_1] at e
    rw [List.map_cons, List.map_nil, List.map_cons, List.map_nil, (tr_cut (hr r List.mem_cons_self) (hq q List.mem_cons_self) e).1]
  | [r], q :: q2 :: qs, hr, hq, e => by
    rw [List.map_cons, List.map_nil, List.map_cons, List.map_nil, join_1, List.map_cons, List.map_cons, List.map_cons, List.map_cons, join_c, List.append_assoc] at e
    cases (List.cons.inj (tr_cut (hr r List.mem_cons_self) (hq q List.mem_cons_self) e).2).1
  | r :: r2 :: rs, [q], hr, hq, e => by
    rw [List.map_cons, List.map_cons, List.map_cons, List.map_cons, join_c, List.map_cons, List.map_nil, List.map_cons, List.map_nil, join_1, List.append_assoc] at e
    cases (List.cons.inj (tr_cut (hr r List.mem_cons_self) (hq q List.mem_cons_self) e).2).1
  | r :: r2 :: rs, q :: q2 :: qs, hr, hq, e => by
    have mm : ∀ (a b : TRow) (l : List TRow), ((a :: b :: l).map trD).map PyData.shown = (trD a).shown :: (trD b).shown :: ((l.map trD).map PyData.shown) := fun _ _ _ => rfl
    rw [mm, mm, join_c, join_c, List.append_assoc, List.append_assoc] at e
    obtain ⟨e1, e2⟩ := tr_cut (hr r List.mem_cons_self) (hq q List.mem_cons_self) e
    have ih := trs_cut (rs := r2 :: rs) (qs := q2 :: qs) (fun x hx => hr x (List.mem_cons_of_mem _ hx)) (fun x hx => hq x (List.mem_cons_of_mem _ hx)) (List.cons.inj (List.cons.inj e2).2).2
    rw [List.map_cons, ih, e1]; rfl
/-- equal texts of two trees: the same events in their rows -/
theorem trs_tx {rs qs : List TRow} (hr : ∀ r ∈ rs, NameOk r.x) (hq : ∀ r ∈ qs, NameOk r.x) (e : (PyData.list (rs.map trD)).shown = (PyData.list (qs.map trD)).shown) : rs.map TRow.x = qs.map TRow.x := by
  rw [PyData.shown.eq_5, PyData.shown.eq_5, listText_eq_join, listText_eq_join, shownAll_eq_map, shownAll_eq_map] at e
  have e := congrArg tl e
  rw [in_tl, in_tl, in_tl, in_tl, show tl (Str.ofString "[") = [91] from by decide +kernel, show tl (Str.ofString "]") = [93] from by decide +kernel, List.append_assoc, List.append_assoc] at e
  exact trs_cut hr hq (List.cons.inj e).2
theorem tree_ne' {R : List Row} (nd : (R.map (·.1)).Nodup) {qs : List Pc} (h : ∀ q ∈ qs, isPc R q) {i j : Nat} {p q : Pc} (hi : qs[i]? = some p) (hj : qs[j]? = some q) (e : (treeOf R qs i p).map TRow.x = (treeOf R qs j q).map TRow.x) : i = j := by
  have cm : ∀ (x : Str) (rs : List TRow), cnt x rs = ((rs.map TRow.x).filter fun y => decide (y = x)).length := fun x rs => by
    unfold cnt
    rw [List.filter_map, List.length_map]; rfl
  have main : ∀ {i j : Nat} {p q : Pc}, qs[i]? = some p → qs[j]? = some q → (treeOf R qs i p).map TRow.x = (treeOf R qs j q).map TRow.x → ¬ i < j := fun {i j p q} hi hj e lt => by
    have r1 : ((treeOf R qs i p).map TRow.x)[0]? = some p.1 := by rw [List.getElem?_map, tree_root]; rfl
    rw [e, List.getElem?_map, tree_root] at r1
    have ex : q.1 = p.1 := Option.some.inj r1
    have c1 := tree_cnt (R := R) (qs := qs) (k := i) (near_self nd (h p (List.mem_of_getElem? hi)))
    have c2 := tree_cnt (R := R) (qs := qs) (k := j) (near_self nd (h q (List.mem_of_getElem? hj)))
    rw [cm, e, ← ex, ← cm, c2] at c1
    have li := (List.getElem?_eq_some_iff.mp hi).1
    have e3 : qs.take j = qs.take i ++ (qs.drop i).take (j - i) := by
      rw [show j = i + (j - i) by omega, List.take_add]; simp
    rw [e3, List.filter_append, List.length_append] at c1
    have ed : qs.drop i = p :: qs.drop (i + 1) := by
      rw [List.drop_eq_getElem_cons li]
      rw [List.getElem?_eq_getElem li] at hi
      rw [Option.some.inj hi]
    rw [ed, show j - i = (j - i - 1) + 1 by omega, List.take_succ_cons, List.filter_cons_of_pos (by simpa using ex.symm)] at c1
    simp at c1
  rcases Nat.lt_trichotomy i j with l | l | l
  · exact absurd l (main hi hj e)
  · exact l
  · exact absurd l (main hj hi e.symm)

end K62
namespace K62
open PySem PySem.Spec PyProof.Rows L2 TL
/-! ### a tree looked at -/
theorem share_comm (a b : List Str) : share a b = share b a := by
  have h : ∀ a b : List Str, share a b = true → share b a = true := fun a b h => by
    obtain ⟨x, h1, h2⟩ := List.any_eq_true.mp h
    exact List.any_eq_true.mpr ⟨x, of_decide_eq_true h2, decide_eq_true h1⟩
  cases e : share b a with
  | true => exact h _ _ e
  | false =>
    cases e2 : share a b with
    | false => rfl
    | true => rw [h _ _ e2] at e; cases e
theorem adjB_comm (r s : Row) : adjB r s = adjB s r := by
  unfold adjB
  rw [share_comm, show decide (r.1 = s.1) = decide (s.1 = r.1) from decide_eq_decide.mpr eq_comm]
theorem catA_post {K : PySem.W.Frag} {Q : VK} {a c : Addr} {xs ys : List V} {H : Hp} (ha : H a = some (.tup xs)) (hc : H c = some (.tup ys)) (nx : xs ≠ []) (nz : xs.length + ys.length ≤ sizeLine)
    (q : ∀ p H', Same H H' → H' p = some (.tup (xs ++ ys)) → Q (.ref p) H') : rCatA K (.ref a) (.ref c) H Q :=
  ⟨a, c, xs, ys, rfl, rfl, .inl (.inl ha), .inl (.inl hc), nz, fun e => absurd e nx, fun _ e => by subst e; exact q a H (Same.refl H) (by rw [List.append_nil]; exact ha), fun _ _ p np => q p _ (Same.new np) upd_same⟩
theorem catA_pre {K : PySem.W.Frag} {Q : VK} {a c : Addr} {xs : List V} {y : V} {H : Hp} (ha : H a = some (.tup xs)) (hc : H c = some (.tup [y])) (nz : xs.length + 1 ≤ sizeLine)
    (q : ∀ p H', Same H H' → H' p = some (.tup (xs ++ [y])) → Q (.ref p) H') : rCatA K (.ref a) (.ref c) H Q :=
  ⟨a, c, xs, [y], rfl, rfl, .inl (.inl ha), .inl (.inl hc), nz, fun e => by subst e; exact q c H (Same.refl H) hc, fun _ e => (by cases e), fun _ _ p np => q p _ (Same.new np) upd_same⟩
theorem atI_n {α : Type} {xs : List α} {i : Nat} {v : α} (h : xs[i]? = some v) : atI xs (i : Int) = some v := by
  have l := (List.getElem?_eq_some_iff.mp h).1
  obtain ⟨w, h1, h2⟩ := atI_in (xs := xs) (i := (i : Int)) (by omega) (by omega)
  rw [Int.toNat_natCast, h] at h1
  cases h1; exact h2
def sp_right (C : Addr) : Sp := fun vs H Q _ => ∃ (p v w : V) (L : List (Str × Int)) (R : List Row) (qs : List Pc) (k : Nat) (q : Pc), vs = [p, v, w] ∧ (sProb C).at [] H p (L, R) ∧ VarsOk L ∧ EvsOk L R ∧ (sL sTr).at [] H v (treeOf R qs k q) ∧ sPc.at [] H w q ∧ qs.length ≤ 40 ∧ (∀ q ∈ qs, isPc R q) ∧ qs[k]? = some q ∧ ∀ H', Same H H' → Q (.bl true) H'
theorem ok_l_one_right {P : Program} {w : World} {K : PySem.W.Frag} {mg : Str → Option Value} {base : Heap} (T : Txt P K mg) : FnOk P w K mg base CX0 4 T.f_l_one_right T.fd_l_one_right ["_law_problem_here", "_law_rows", "_law_piece"] (sp_right T.C_Problem) := by
  refine T.F_l_one_right.ok sc_l_one_right (fun vs H Q E h => ?_) (fun cdv A outer s H vs Q E hr h => ?_)
  · obtain ⟨_, _, _, _, _, _, _, _, rfl, _⟩ := h; rfl
  · obtain ⟨p, v, w, L, R, qs, k, q, rfl, ⟨p, rfl, hP⟩, okL, okR, hv, hw, l40, hq, hk, Qq⟩ := h
    obtain ⟨a, xs, rfl, -, ha, pd⟩ := id hv
    obtain ⟨t, u, rfl, -, ht, -, hu⟩ := sPc_at hw
    have lx := plen pd
    have lt := tree_len (R := R) (qs := qs) (k := k) (q := q)
    have lk : k < qs.length := (List.getElem?_eq_some_iff.mp hk).1
    obtain ⟨dx, fs, hp, hm⟩ := hP.at'
    refine ⟨_, PSs.nox (pss_cons (ps_if (pt_cmpR (show OpR _ (compareOp .NotEq) (rNeD K) from op_neD hr.units) (pe_ix (show IxR _ (rIxL K) from ix_list) (pv 1) pe_int (fun _ _ => rfl)) (pe_op (show OpR _ _ (rCatA K) from op_catA) (pe_op (show OpR _ _ (rCatA K) from op_catA) (pe_tup (pa_cons pe_int pa_nil)) (pv 2)) (pe_tup (pa_cons pe_non pa_nil))) (nomark _)) (pss_one (ps_ret pe_bl)) pss_nil)
      (pss_cons (ps_for PassesOwn.never rfl (pi_enum (by rfl) T.n_enumerate (pa_cons (pv 1) pa_nil)) (pg_tup rfl (pgs_cons (pg_name (i := 3) sc_l_one_right.nd rfl (Or.inl rfl)) (pgs_cons (pg_name (i := 4) sc_l_one_right.nd rfl (Or.inr rfl)) pgs_nil))) (pss_cons (ps_setLc (i := 5) (own := [("_law_one", 7)]) (g := gName 7) rfl sc_l_one_right.nd rfl rfl (sw_true rfl rfl rfl (by decide +kernel)) (pi_list (pe_slice (show SlR _ (rSlL K) from sl_list) (pv 1) po_none (po_some (pv 3)))) (blkOk_by (own := [("_law_one", 7)]) (N := N_l_one_right) (sc := defScope s_l_one_right) (by decide +kernel)) (fun _ _ _ _ _ => (pg_name (i := 7) sc_l_one_right.nd rfl (Or.inl rfl))) (fun _ _ _ _ _ => pts_one (pt_cmpR op_eq (pe_ix (show IxR _ (rIxT K) from ix_tup) (pv 7) pe_int (fun _ _ => rfl)) (pe_ix (show IxR _ (rIxT K) from ix_tup) (pv 4) pe_int (fun _ _ => rfl)) (nomark _))) (fun _ _ _ _ _ => (pv 7)))
      (pss_cons (ps_if (pt_cmpR (show OpR _ (compareOp .NotEq) (rNeD K) from op_neD hr.units) (pe_lc (own := [("_law_one", 7)]) (g := gName 7) rfl sc_l_one_right.nd (pi_list (pv 5)) (blkOk_by (own := [("_law_one", 7)]) (N := N_l_one_right) (sc := defScope s_l_one_right) (by decide +kernel)) (fun _ _ _ _ _ => (pg_name (i := 7) sc_l_one_right.nd rfl (Or.inl rfl))) (fun _ _ _ _ _ => pts_one (pt_val (pe_meth (pl := _) (pv 0) T.cl_Problem T.m_Problem_are_adjacent (ok_Problem_are_adjacent T) (hr.mono (by decide)) (b_Problem_are_adjacent T) .nil pass0 (pa_cons (pe_ix (show IxR _ (rIxT K) from ix_tup) (pv 7) pe_int (fun _ _ => rfl)) (pa_cons (pe_ix (show IxR _ (rIxT K) from ix_tup) (pv 4) pe_int (fun _ _ => rfl)) pa_nil))))) (fun _ _ _ _ _ => (pv 7))) (pe_lst pa_nil) (nomark _)) (pss_one (ps_ret pe_bl)) pss_nil)
      (pss_one (ps_if (pt_cmpR op_gt (pv 3) pe_int (nomark _)) (pss_cons (ps_set (i := 6) sc_l_one_right.nd rfl (Or.inl rfl) (pe_ix (show IxR _ (rIxL K) from ix_list) (pv 1) (pe_ix (show IxR _ (rIxT K) from ix_tup) (pv 4) pe_int (fun _ _ => rfl)) (fun _ _ => rfl)))
      (pss_one (ps_if (PW.pt (pw_or (pt_not (pt_cmpR op_lt (pe_ix (show IxR _ (rIxT K) from ix_tup) (pv 4) pe_int (fun _ _ => rfl)) (pv 3) (nomark _))) (pw_or (pt_cmpR op_ne (pe_ix (show IxR _ (rIxT K) from ix_tup) (pv 6) pe_int (fun _ _ => rfl)) (pe_op op_sub (pe_ix (show IxR _ (rIxT K) from ix_tup) (pv 4) pe_int (fun _ _ => rfl)) pe_int) (nomark _)) (pw_or1 (pt_not (pt_val (pe_meth (pl := _) (pv 0) T.cl_Problem T.m_Problem_are_adjacent (ok_Problem_are_adjacent T) (hr.mono (by decide)) (b_Problem_are_adjacent T) .nil pass0 (pa_cons (pe_ix (show IxR _ (rIxT K) from ix_tup) (pv 6) pe_int (fun _ _ => rfl)) (pa_cons (pe_ix (show IxR _ (rIxT K) from ix_tup) (pv 4) pe_int (fun _ _ => rfl)) pa_nil))))))))) (pss_one (ps_ret pe_bl)) pss_nil))) pss_nil)))))
      (pss_one (ps_ret pe_bl)))), ?_⟩
    have nmP : ∀ y : Pc, isPc R y → NameOk y.1 := fun y ⟨r, hr, e, _⟩ => by rw [← e]; exact (okR.ok r hr).nm
    have tpc := tree_pc (R := R) (P := isPc R) hq hk
    have hti := tree_TI okR.nd hq k q
    have sep : ∀ (i j : Nat) (r s : TRow), i < j → (treeOf R qs k q)[i]? = some r → (treeOf R qs k q)[j]? = some s → r.d = s.d → r.x ∉ near R s.x := hti.sep
    have par : ∀ (j : Nat) (r : TRow), 0 < j → (treeOf R qs k q)[j]? = some r → ∃ (p : Nat) (s : TRow), r.p = some p ∧ p < j ∧ (treeOf R qs k q)[p]? = some s ∧ s.d = r.d - 1 ∧ s.x ∈ near R r.x := hti.par
    have hroot := tree_root R qs k q
    generalize treeOf R qs k q = rs at pd lx lt tpc hroot sep par
    have rw' : ∀ (j : Nat) (r : TRow), rs[j]? = some r → ∃ w, w ∈ R ∧ w.1 = r.x := fun j r h => by
      obtain ⟨w, h1, h2, _⟩ := tpc r (List.mem_of_getElem? h)
      exact ⟨w, h1, h2⟩
    repeat (first | refine ⟨_, rfl, ?_⟩ | refine ⟨_, _, rfl, rfl, ?_⟩ | refine ⟨_, _, rfl, ?_⟩ | refine ⟨rfl, ?_⟩)
    obtain ⟨l0, e0⟩ := List.getElem?_eq_some_iff.mp hroot
    obtain ⟨v0, hv0, hm0⟩ := pget pd hroot
    refine ⟨a, xs, 0, v0, rfl, rfl, SqL.of ha, atI_n (i := 0) hv0, ?_⟩
    repeat (first | refine ⟨_, rfl, ?_⟩ | refine ⟨_, _, rfl, rfl, ?_⟩ | refine ⟨_, _, rfl, ?_⟩ | refine ⟨rfl, ?_⟩)
    refine ⟨lenk 1 rfl (by decide), fun p1 n1 => ?_⟩
    have s1 : Same H (upd H p1 (.tup [.int 0])) := Same.new n1
    have h1 : upd H p1 (.tup [.int 0]) p1 = some (.tup [.int 0]) := upd_same
    generalize upd H p1 (.tup [.int 0]) = H1 at s1 h1
    repeat (first | refine ⟨_, rfl, ?_⟩ | refine ⟨_, _, rfl, rfl, ?_⟩ | refine ⟨_, _, rfl, ?_⟩ | refine ⟨rfl, ?_⟩)
    refine catA_post h1 (s1 _ _ ht) (by simp) (by rw [sizeLine_eq]; simp) fun p2 H2 s2 h2 => ?_
    refine ⟨lenk 1 rfl (by decide), fun p3 n3 => ?_⟩
    have s3 : Same H2 (upd H2 p3 (.tup [.non])) := Same.new n3
    have h3 : upd H2 p3 (.tup [.non]) p3 = some (.tup [.non]) := upd_same
    generalize upd H2 p3 (.tup [.non]) = H3 at s3 h3
    refine catA_pre (s3 _ _ h2) h3 (by rw [sizeLine_eq]; simp) fun p4 H4 s4 h4 => ?_
    have s04 := ((s1.trans s2).trans s3).trans s4
    have nmr : ∀ r ∈ rs, NameOk r.x := fun r hr => nmP (r.x, r.ns) (tpc r hr)
    refine ⟨trD ⟨0, q.1, q.2, none⟩, trD ⟨0, q.1, q.2, none⟩, tr_dp (Sh.go hm0 (Stp.of_same (m := []) s04) Sb.nil Sb.refl), tr_dp (M := []) ⟨p4, u, rfl, by simp, h4, by simp, s04 _ _ hu⟩,
      (shd_tr (nmP _ (hq _ (List.mem_of_getElem? hk)))).shaped (by decide), (shd_tr (nmP _ (hq _ (List.mem_of_getElem? hk)))).shaped (by decide), ?_⟩
    rw [eqv_tr, decide_eq_true rfl]
    repeat (first | refine ⟨_, rfl, ?_⟩ | refine ⟨_, _, rfl, rfl, ?_⟩ | refine ⟨_, _, rfl, ?_⟩ | refine ⟨rfl, ?_⟩)
    rw [show L2.start N_l_one_right [V.ref p, V.ref a, V.ref t] = [some (.ref p), some (.ref a), some (.ref t), none, none, none, none, none] from rfl]
    refine ⟨a, xs, rfl, SqL.of (s04 _ _ ha), ?_⟩
    refine for_it (walk_enum (K := K) (a := a) (xs := xs)) (fun i σ H' => ∃ y3 y4 y5 y6, σ = [some (.ref p), some (.ref a), some (.ref t), y3, y4, y5, y6, none] ∧ Same H H') ⟨_, _, _, _, rfl, s04⟩ (fun i σ H' _ ⟨_, _, _, _, _, k⟩ => SqL.of (k _ _ ha)) ?_ ?_
    · rintro i x σ Hx H5 hi ⟨y3, y4, y5, y6, rfl, s5⟩ ⟨T1, x1, x2, rfl, nT, rfl, ex1, ex2⟩
      cases ex1
      obtain ⟨r, hr1, hm⟩ := pget' pd ex2
      obtain ⟨tr, u2, rfl, -, htr, -, hu2⟩ := hm
      have s6 := s5.trans (Same.new (o := .tup [.int (i : Nat), .ref tr]) nT)
      refine ⟨T1, _, rfl, .inl (.inl upd_same), rfl, _, _, rfl, _, _, rfl, rfl, ?_⟩
      generalize upd Hx T1 (.tup [.int (i : Nat), .ref tr]) = H6 at s6
      simp only [List.set_cons_succ, List.set_cons_zero]
      repeat (first | refine ⟨_, rfl, ?_⟩ | refine ⟨_, _, rfl, rfl, ?_⟩ | refine ⟨_, _, rfl, ?_⟩ | refine ⟨rfl, ?_⟩)
      have li : i < rs.length := (List.getElem?_eq_some_iff.mp hr1).1
      refine ⟨a, xs, rfl, SqL.of (s6 _ _ ha), fun p5 n5 => ?_⟩
      rw [cutV0]
      have s7 := s6.trans (Same.new (o := .lst (xs.take i)) n5)
      have h5 : upd H6 p5 (.lst (xs.take i)) p5 = some (.lst (xs.take i)) := upd_same
      generalize upd H6 p5 (.lst (xs.take i)) = H7 at s7 h5
      repeat (first | refine ⟨_, rfl, ?_⟩ | refine ⟨_, _, rfl, rfl, ?_⟩ | refine ⟨_, _, rfl, ?_⟩ | refine ⟨rfl, ?_⟩)
      refine ⟨⟨_, SqL.of h5⟩, fun D nD => ?_⟩
      refine lc_it (walk_list (K := K) (a := p5) (xs := xs.take i)) (fun j G => ∃ vs, G D = some (.lst vs) ∧ vs.length ≤ j ∧ (∀ v ∈ vs, ∃ (m : Nat) (s : TRow), m < i ∧ xs[m]? = some v ∧ rs[m]? = some s ∧ s.d = r.d) ∧ Same H7 G) ⟨[], upd_same, Nat.le_refl _, by simp, Same.new nD⟩ (fun j G _ ⟨_, _, _, _, k⟩ => SqL.of (k _ _ h5)) ?_ ?_
      · rintro j x Hx G hj ⟨vs, hD, lv, hvs, s8⟩ ⟨rfl, hx⟩
        rw [List.getElem?_take] at hx
        have ji : j < i := by
          rw [List.length_take] at hj; omega
        rw [if_pos ji] at hx
        obtain ⟨s, hs1, hms⟩ := pget' pd hx
        obtain ⟨ts, us, rfl, -, hts, -, hus⟩ := hms
        have s08 := s7.trans s8
        refine ⟨wipe_in (by decide), ?_⟩
        repeat (first | refine ⟨_, rfl, ?_⟩ | refine ⟨_, _, rfl, rfl, ?_⟩ | refine ⟨_, _, rfl, ?_⟩ | refine ⟨rfl, ?_⟩)
        refine ⟨ts, _, 0, _, rfl, rfl, .inl (.inl (s08 _ _ hts)), rfl, ?_⟩
        repeat (first | refine ⟨_, rfl, ?_⟩ | refine ⟨_, _, rfl, rfl, ?_⟩ | refine ⟨_, _, rfl, ?_⟩ | refine ⟨rfl, ?_⟩)
        refine ⟨tr, _, 0, _, rfl, rfl, .inl (.inl (s08 _ _ htr)), rfl, rfl, ?_⟩
        refine ⟨_, rfl, ite2 (fun e => ?_) (fun e => ?_)⟩
        · have ed : s.d = r.d := by
            have := of_decide_eq_true e
            injection this
          repeat (first | refine ⟨_, rfl, ?_⟩ | refine ⟨_, _, rfl, rfl, ?_⟩ | refine ⟨_, _, rfl, ?_⟩ | refine ⟨rfl, ?_⟩)
          refine ⟨vs, hD, by rw [sizeLine_eq]; omega, _, upd_same, by rw [List.length_append]; exact Nat.succ_le_succ lv, fun v hv => ?_, Same.upd_p s8 nD⟩
          rcases List.mem_append.mp hv with h | h
          · exact hvs v h
          · rw [List.mem_singleton.mp h]; exact ⟨j, s, ji, hx, hs1, ed⟩
        · exact ⟨vs, hD, by omega, hvs, s8⟩
      rintro H8 ⟨vs, hD, lv, hvs, s8⟩
      have s08 := s7.trans s8
      simp only [List.set_cons_succ, List.set_cons_zero]
      repeat (first | refine ⟨_, rfl, ?_⟩ | refine ⟨_, _, rfl, rfl, ?_⟩ | refine ⟨_, _, rfl, ?_⟩ | refine ⟨rfl, ?_⟩)
      refine ⟨⟨_, SqL.of hD⟩, fun D2 nD2 => ?_⟩
      refine lc_it (walk_list (K := K) (a := D) (xs := vs)) (fun j G => G D2 = some (.lst []) ∧ Same H8 G) ⟨upd_same, Same.new nD2⟩ (fun j G _ k => SqL.of (k.2 _ _ hD)) ?_ ?_
      · rintro j x Hx G hj ⟨hD2, s9⟩ ⟨rfl, hx⟩
        obtain ⟨m, s, mi, hxm, hsm, ed⟩ := hvs x (List.mem_of_getElem? hx)
        obtain ⟨s', hs1, hms⟩ := pget' pd hxm
        rw [hsm] at hs1; cases hs1
        obtain ⟨ts, us, rfl, -, hts, -, hus⟩ := hms
        have s09 := s08.trans s9
        refine ⟨wipe_in (by decide), ?_⟩
        repeat (first | refine ⟨_, rfl, ?_⟩ | refine ⟨_, _, rfl, rfl, ?_⟩ | refine ⟨_, _, rfl, ?_⟩ | refine ⟨rfl, ?_⟩)
        refine ⟨p, dx, _, rfl, s09 _ _ hp, hm _ (by decide +kernel), ?_⟩
        repeat (first | refine ⟨_, rfl, ?_⟩ | refine ⟨_, _, rfl, rfl, ?_⟩ | refine ⟨_, _, rfl, ?_⟩ | refine ⟨rfl, ?_⟩)
        refine ⟨ts, _, 1, _, rfl, rfl, .inl (.inl (s09 _ _ hts)), rfl, ?_⟩
        repeat (first | refine ⟨_, rfl, ?_⟩ | refine ⟨_, _, rfl, rfl, ?_⟩ | refine ⟨_, _, rfl, ?_⟩ | refine ⟨rfl, ?_⟩)
        refine ⟨tr, _, 1, _, rfl, rfl, .inl (.inl (s09 _ _ htr)), rfl, ?_⟩
        obtain ⟨w1, hw1, ew1⟩ := rw' _ _ hsm
        obtain ⟨w2, hw2, ew2⟩ := rw' _ _ hr1
        repeat (first | refine ⟨_, rfl, ?_⟩ | refine ⟨_, _, rfl, rfl, ?_⟩ | refine ⟨_, _, rfl, ?_⟩ | refine ⟨rfl, ?_⟩)
        refine ⟨p, _, _, L, R, w1, w2, by rw [ew1, ew2]; rfl, hP.same s09, okR.nd, hw1, hw2, ?_⟩
        rw [adjB_comm, near_adj okR.nd hw2 hw1, ew1, ew2, decide_eq_false (sep _ _ _ _ mi hsm hr1 ed)]
        repeat (first | refine ⟨_, rfl, ?_⟩ | refine ⟨_, _, rfl, rfl, ?_⟩ | refine ⟨_, _, rfl, ?_⟩ | refine ⟨rfl, ?_⟩)
        exact ⟨hD2, s9⟩
      rintro H9 ⟨hD2, s9⟩
      have s09 := s08.trans s9
      repeat (first | refine ⟨_, rfl, ?_⟩ | refine ⟨_, _, rfl, rfl, ?_⟩ | refine ⟨_, _, rfl, ?_⟩ | refine ⟨rfl, ?_⟩)
      refine ⟨lenk 0 rfl (by decide), fun p6 n6 => ?_⟩
      have s10 := s09.trans (Same.new (o := .lst []) n6)
      have h6 : upd H9 p6 (.lst []) p6 = some (.lst []) := upd_same
      have hD3 := (Same.new (o := .lst []) n6) _ _ hD2
      generalize upd H9 p6 (.lst []) = H10 at s10 h6 hD3
      refine ⟨.list [], .list [], .lst (SqL.of hD3) .nil, .lst (SqL.of h6) .nil, by decide, by decide, ?_⟩
      repeat (first | refine ⟨_, rfl, ?_⟩ | refine ⟨_, _, rfl, rfl, ?_⟩ | refine ⟨_, _, rfl, ?_⟩ | refine ⟨rfl, ?_⟩)
      refine ite2 (fun e => ?_) (fun _ => ⟨_, _, _, _, rfl, s10⟩)
      have e0 : 0 < i := by
        have := of_decide_eq_true e
        omega
      obtain ⟨m, s, ep, mi, hsm, ed, hnear⟩ := par _ _ e0 hr1
      have hpv : parV r.p = .int (m : Nat) := by rw [ep]; rfl
      rw [hpv] at htr
      obtain ⟨va, hva, hma⟩ := pget pd hsm
      obtain ⟨ta, ua, rfl, -, hta, -, hua⟩ := hma
      repeat (first | refine ⟨_, rfl, ?_⟩ | refine ⟨_, _, rfl, rfl, ?_⟩ | refine ⟨_, _, rfl, ?_⟩ | refine ⟨rfl, ?_⟩)
      refine ⟨tr, _, 3, _, rfl, rfl, .inl (.inl (s10 _ _ htr)), rfl, ?_⟩
      repeat (first | refine ⟨_, rfl, ?_⟩ | refine ⟨_, _, rfl, rfl, ?_⟩ | refine ⟨_, _, rfl, ?_⟩ | refine ⟨rfl, ?_⟩)
      refine ⟨a, xs, _, _, rfl, rfl, SqL.of (s10 _ _ ha), atI_n hva, ?_⟩
      simp only [List.set_cons_succ, List.set_cons_zero]
      repeat (first | refine ⟨_, rfl, ?_⟩ | refine ⟨_, _, rfl, rfl, ?_⟩ | refine ⟨_, _, rfl, ?_⟩ | refine ⟨rfl, ?_⟩)
      refine ⟨tr, _, 3, _, rfl, rfl, .inl (.inl (s10 _ _ htr)), rfl, ?_⟩
      repeat (first | refine ⟨_, rfl, ?_⟩ | refine ⟨_, _, rfl, rfl, ?_⟩ | refine ⟨_, _, rfl, ?_⟩ | refine ⟨rfl, ?_⟩)
      rw [decide_eq_true (show ((m : Int) < (i : Int)) by omega)]
      refine ite2 (fun e => by simp at e) (fun _ => ?_)
      repeat (first | refine ⟨_, rfl, ?_⟩ | refine ⟨_, _, rfl, rfl, ?_⟩ | refine ⟨_, _, rfl, ?_⟩ | refine ⟨rfl, ?_⟩)
      refine ⟨ta, _, 0, _, rfl, rfl, .inl (.inl (s10 _ _ hta)), rfl, ?_⟩
      repeat (first | refine ⟨_, rfl, ?_⟩ | refine ⟨_, _, rfl, rfl, ?_⟩ | refine ⟨_, _, rfl, ?_⟩ | refine ⟨rfl, ?_⟩)
      refine ⟨tr, _, 0, _, rfl, rfl, .inl (.inl (s10 _ _ htr)), rfl, ?_⟩
      repeat (first | refine ⟨_, rfl, ?_⟩ | refine ⟨_, _, rfl, rfl, ?_⟩ | refine ⟨_, _, rfl, ?_⟩ | refine ⟨rfl, ?_⟩)
      dsimp only
      rw [decide_eq_true (show V.int s.d = V.int (r.d - 1) by rw [ed])]
      refine ite2 (fun e => by simp at e) (fun _ => ?_)
      repeat (first | refine ⟨_, rfl, ?_⟩ | refine ⟨_, _, rfl, rfl, ?_⟩ | refine ⟨_, _, rfl, ?_⟩ | refine ⟨rfl, ?_⟩)
      refine ⟨p, dx, _, rfl, s10 _ _ hp, hm _ (by decide +kernel), ?_⟩
      repeat (first | refine ⟨_, rfl, ?_⟩ | refine ⟨_, _, rfl, rfl, ?_⟩ | refine ⟨_, _, rfl, ?_⟩ | refine ⟨rfl, ?_⟩)
      refine ⟨ta, _, 1, _, rfl, rfl, .inl (.inl (s10 _ _ hta)), rfl, ?_⟩
      repeat (first | refine ⟨_, rfl, ?_⟩ | refine ⟨_, _, rfl, rfl, ?_⟩ | refine ⟨_, _, rfl, ?_⟩ | refine ⟨rfl, ?_⟩)
      refine ⟨tr, _, 1, _, rfl, rfl, .inl (.inl (s10 _ _ htr)), rfl, ?_⟩
      obtain ⟨w1, hw1, ew1⟩ := rw' _ _ hsm
      obtain ⟨w2, hw2, ew2⟩ := rw' _ _ hr1
      repeat (first | refine ⟨_, rfl, ?_⟩ | refine ⟨_, _, rfl, rfl, ?_⟩ | refine ⟨_, _, rfl, ?_⟩ | refine ⟨rfl, ?_⟩)
      refine ⟨p, _, _, L, R, w1, w2, by rw [ew1, ew2]; rfl, hP.same s10, okR.nd, hw1, hw2, ?_⟩
      rw [adjB_comm, near_adj okR.nd hw2 hw1, ew1, ew2, decide_eq_true hnear]
      repeat (first | refine ⟨_, rfl, ?_⟩ | refine ⟨_, _, rfl, rfl, ?_⟩ | refine ⟨_, _, rfl, ?_⟩ | refine ⟨rfl, ?_⟩)
      exact ⟨_, _, _, _, rfl, s10⟩
    · rintro σ H4 ⟨y3, y4, y5, y6, rfl, s4⟩
      repeat (first | refine ⟨_, rfl, ?_⟩ | refine ⟨_, _, rfl, rfl, ?_⟩ | refine ⟨_, _, rfl, ?_⟩ | refine ⟨rfl, ?_⟩)
      exact Qq _ s4

end K62
namespace K62
open PySem PySem.Spec PyProof.Rows L2 TL
/-! ### the law -/
theorem walk_zipL {K : PySem.W.Frag} {a b : Addr} {xs ys : List V} : Walk (Itz K a b) (min xs.length ys.length) (fun H => SqL K H a xs ∧ SqL K H b ys) (YPair (fun i => xs[i]?) (fun i => ys[i]?)) :=
  ⟨fun i _ hi q => ⟨xs, ys, _, _, q.1, q.2, List.getElem?_eq_getElem (Nat.lt_of_lt_of_le hi (Nat.min_le_left ..)), List.getElem?_eq_getElem (Nat.lt_of_lt_of_le hi (Nat.min_le_right ..))⟩, fun _ q => ⟨xs, ys, q.1, q.2, by omega⟩, fun _ _ _ _ _ q y => by
    obtain ⟨T, x, z, h1, h2, h3, h4, h5⟩ := y
    exact ⟨T, x, z, h1, h2, h3, h4 _ q.1, h5 _ q.2⟩⟩
def kvT (t : List TRow) : Key × V := (Sum.inr (PyData.list (t.map trD)).shown, .int 1)
theorem dx_tr {K : PySem.W.Frag} {M : List Addr} {H : Hp} {v : V} {r : TRow} (h : sTr.at M H v r) : Dx K H v (trD r) := by
  obtain ⟨t, u, rfl, -, ht, -, hu⟩ := h
  have hints : ∀ ns : List Int, DxAll K H (ns.map V.int) (ns.map PyData.int) := fun ns => by
    induction ns with
    | nil => exact .nil
    | cons i l ih => exact .cons (.int i) ih
  refine .tup (.inl (.inl ht)) (.cons (.int _) (.cons (.str _) (.cons (.tup (.inl (.inl hu)) (hints _)) (.cons ?_ .nil))))
  cases r.p with
  | none => exact .non
  | some n => exact .int _
theorem dx_trs {K : PySem.W.Frag} {M : List Addr} {H : Hp} {v : V} {rs : List TRow} (h : (sL sTr).at M H v rs) : Dx K H v (.list (rs.map trD)) := by
  obtain ⟨a, xs, rfl, -, ha, pd⟩ := h
  refine .lst (SqL.of ha) ?_
  have go : ∀ {xs : List V} {rs : List TRow}, Paired (sTr.at M H) xs rs → DxAll K H xs (rs.map trD) := fun {xs rs} p => by
    induction p with
    | nil => exact .nil
    | cons h _ ih => exact .cons (dx_tr h) ih
  exact go (Paired.mapP pd fun _ _ z => z)
theorem okd_tr {r : TRow} (nm : NameOk r.x) (l : r.ns.length ≤ 4) (b : TS.Bd 6 r.ns) (hd : r.d.natAbs < 1000) (hp : ∀ p, r.p = some p → p < 1000) : OkD 8071 2 (trD r) := by
  have k3 : (1000 : Nat) < 10 ^ 500 := by decide +kernel
  refine okd_tuple (B := 2015) (k := 1) (m := 4) (allC ((okd_int (Nat.lt_trans hd k3)).mono (by decide) (by decide)) (allC ((okd_name nm).mono (by decide) (by decide)) (allC (okd_tuple (B := 501) (k := 0) (m := 4) (fun d hd => ?_) (by rw [List.length_map]; exact l)) (all1 ?_)))) (Nat.le_refl _)
  · obtain ⟨i, hi, rfl⟩ := List.mem_map.mp hd
    have := b i hi
    exact okd_int (by omega)
  · cases e : r.p with
    | none => exact okd_none.mono (by decide) (by decide)
    | some n =>
      have := hp n e
      exact (okd_int (i := (n : Int)) (Nat.lt_trans (by omega) k3)).mono (by decide) (by decide)
theorem tree_bd {R : List Row} {qs : List Pc} {k : Nat} {q : Pc} (h : TI R (tst R qs k q k)) : ∀ (j : Nat) (r : TRow), (treeOf R qs k q)[j]? = some r → 0 ≤ r.d ∧ r.d ≤ j ∧ ∀ p, r.p = some p → p < j := by
  intro j
  induction j using Nat.strongRecOn with
  | _ j ih =>
    intro r hr
    by_cases h0 : j = 0
    · subst h0
      rw [tree_root] at hr
      cases hr
      exact ⟨Int.le_refl 0, Int.le_refl 0, fun p e => by cases e⟩
    · obtain ⟨p, s, h1, h2, h3, h4, _⟩ := h.par j r (by omega) hr
      obtain ⟨i1, i2, _⟩ := ih p h2 s h3
      exact ⟨by omega, by omega, fun p' e => by rw [h1] at e; cases e; exact h2⟩
theorem tree_fine {L : List (Str × Int)} {R : List Row} {qs : List Pc} {k : Nat} {q : Pc} (okL : VarsOk L) (okR : EvsOk L R) (hq : ∀ q ∈ qs, isPc R q) (hk : qs[k]? = some q) (l40 : qs.length ≤ 40) : Fine (.list ((treeOf R qs k q).map trD)) := by
  have lk : k < qs.length := (List.getElem?_eq_some_iff.mp hk).1
  have lt := tree_len (R := R) (qs := qs) (k := k) (q := q)
  refine (okd_list (B := 8071) (k := 2) (m := 41) (fun d hd => ?_) (by rw [List.length_map]; omega)).fine (by decide) (by decide)
  obtain ⟨r, hr, rfl⟩ := List.mem_map.mp hd
  obtain ⟨w, hw, ew, hns⟩ := tree_pc hq hk r hr
  obtain ⟨l4, bd⟩ := row_bd okL (okR.ok w hw) r.ns hns
  obtain ⟨j, hj⟩ := List.getElem?_of_mem hr
  have lj := (List.getElem?_eq_some_iff.mp hj).1
  obtain ⟨d0, d1, p1⟩ := tree_bd (tree_TI okR.nd hq k q) j r hj
  refine okd_tr (by rw [← show w.1 = r.x from ew]; exact (okR.ok w hw).nm) (by have := (okR.ok w hw).few; omega) bd (by omega) fun p e => by have := p1 p e; omega
theorem ok_law {P : Program} {w : World} {K : PySem.W.Frag} {mg : Str → Option Value} {base : Heap} (T : Txt P K mg) : FnG P w K mg base CX0 8 T.f_law T.fd_law ["_law_script"] (sp_law K) := by
  refine T.F_law.okG sc_law (fun vs H Q E h => ?_) (fun cdv A outer s H vs Q E hr hG h => ?_)
  · obtain ⟨_, _, rfl, _⟩ := h; rfl
  · obtain ⟨l, ns, rfl, hS, hlen, q⟩ := h
    refine ⟨_, PSs.nox (pss_cons (ps_for PassesOwn.never rfl (pi_range1 (by rfl) T.n_range (pa_cons (pe_callB (call_max2 rfl) (by rfl) T.n_max (by decide +kernel) (pa_cons pe_int (pa_cons (pe_callB (call_min2 rfl) (by rfl) T.n_min (by decide +kernel) (pa_cons pe_int (pa_cons (pe_callB (show CallR _ _ (rLenSeq K) from call_len_seq) (by rfl) T.n_len (by decide +kernel) (pa_cons (pv 0) pa_nil)) pa_nil))) pa_nil))) pa_nil)) (pg_name (i := 1) sc_law.nd rfl (Or.inl rfl)) (pss_cons (ps_set (i := 2) sc_law.nd rfl (Or.inl rfl) (pe_call (ok_l_box T) (hr.mono (by decide)) (by rfl) T.g_l_box T.F_l_box.kp (b_l_box T) .nil pass0 (pa_cons (pe_call (ok_l_cell T) (hr.mono (by decide)) (by rfl) T.g_l_cell T.F_l_cell.kp (b_l_cell T) .nil pass0 (pa_cons (pv 0) (pa_cons (pv 1) pa_nil))) pa_nil)))
      (pss_cons (ps_asg (pe_call (ok_l_problem T) (hr.mono (by decide)) (by rfl) T.g_l_problem T.F_l_problem.kp (b_l_problem T) .nil pass0 (pa_cons (pv 2) (pa_cons (pe_cmpR op_eq (pe_call (ok_l_take T) (hr.mono (by decide)) (by rfl) T.g_l_take T.F_l_take.kp (b_l_take T) .nil pass0 (pa_cons (pv 2) (pa_cons pe_int pa_nil))) pe_int (nomark _)) pa_nil))) (pg_tup rfl (pgs_cons (pg_name (i := 3) sc_law.nd rfl (Or.inl rfl)) (pgs_cons (pg_name (i := 4) sc_law.nd rfl (Or.inl rfl)) pgs_nil))))
      (pss_cons (ps_par (i := 5) (j := 6) (by rfl) sc_law.nd rfl rfl (by decide) rfl rfl (pa_cons (pe_makeS T.mk_Problem (ok_Problem_init T) (hr.mono (by decide)) (by rfl) T.g_Problem (b_Problem_init T) .nil passS0 (pa_cons (pv 3) (pa_cons (pv 4) pa_nil))) (pa_cons (pe_call (ok_l_pieces T) (hr.mono (by decide)) (by rfl) T.g_l_pieces T.F_l_pieces.kp (b_l_pieces T) .nil pass0 (pa_cons (pv 2) (pa_cons (pv 4) (pa_cons pe_int pa_nil)))) pa_nil)) (by rfl))
      (pss_cons (ps_set (i := 7) sc_law.nd rfl (Or.inl rfl) (pe_call (ok_witness_trees T) (hr.mono (by decide)) (by rfl) T.g_witness_trees T.F_witness_trees.kp (b_witness_trees T) .nil pass0 (pa_cons (pv 5) (pa_cons (pv 6) pa_nil))))
      (pss_cons (ps_if (PW.pt (pw_or (pt_cmpR op_ne (pe_callB (show CallR _ _ (rLenSeq K) from call_len_seq) (by rfl) T.n_len (by decide +kernel) (pa_cons (pv 7) pa_nil)) (pe_callB (show CallR _ _ (rLenSeq K) from call_len_seq) (by rfl) T.n_len (by decide +kernel) (pa_cons (pv 6) pa_nil)) (nomark _)) (pw_or1 (pt_cmpR op_ne (pe_callB call_lenD (by rfl) T.n_len (by decide +kernel) (pa_cons (pe_callTy (call_dictP rfl) (by rfl) T.n_dict (by decide +kernel) (pa_cons (pe_lc (own := [("_law_rows", 8)]) (g := gName 8) rfl sc_law.nd (pi_list (pv 7)) (blkOk_by (own := [("_law_rows", 8)]) (N := N_law) (sc := defScope s_law) (by decide +kernel)) (fun _ _ _ _ _ => (pg_name (i := 8) sc_law.nd rfl (Or.inl rfl))) (fun _ _ _ _ _ => pts_nil) (fun _ _ _ _ _ => (pe_tup (pa_cons (pe_callB (show CallR _ _ (rReprD K) from call_reprD hG hr.units T.sm) (by rfl) T.n_repr (by decide +kernel) (pa_cons (pv 8) pa_nil)) (pa_cons pe_int pa_nil))))) pa_nil)) pa_nil)) (pe_callB (show CallR _ _ (rLenSeq K) from call_len_seq) (by rfl) T.n_len (by decide +kernel) (pa_cons (pv 7) pa_nil)) (nomark _))))) (pss_one (ps_ret pe_bl)) pss_nil)
      (pss_cons (ps_for PassesOwn.never rfl (pi_zip (by rfl) T.n_zip (pa_cons (pv 7) (pa_cons (pv 6) pa_nil))) (pg_tup rfl (pgs_cons (pg_name (i := 8) sc_law.nd rfl (Or.inl rfl)) (pgs_cons (pg_name (i := 9) sc_law.nd rfl (Or.inl rfl)) pgs_nil))) (pss_one (ps_if (pt_not (pt_val (pe_call (ok_l_one_right T) (hr.mono (by decide)) (by rfl) T.g_l_one_right T.F_l_one_right.kp (b_l_one_right T) .nil pass0 (pa_cons (pv 5) (pa_cons (pv 8) (pa_cons (pv 9) pa_nil)))))) (pss_one (ps_ret pe_bl)) pss_nil)))
      (pss_one (ps_for PassesOwn.never rfl (pi_range1 (by rfl) T.n_range (pa_cons (pe_callB (call_min2 rfl) (by rfl) T.n_min (by decide +kernel) (pa_cons pe_int (pa_cons (pe_callB (show CallR _ _ (rLenSeq K) from call_len_seq) (by rfl) T.n_len (by decide +kernel) (pa_cons (pv 7) pa_nil)) pa_nil))) pa_nil)) (pg_name (i := 10) sc_law.nd rfl (Or.inl rfl)) (pss_cons (ps_par (i := 11) (j := 12) (by rfl) sc_law.nd rfl rfl (by decide) rfl rfl (pa_cons (pe_call (ok_l_take T) (hr.mono (by decide)) (by rfl) T.g_l_take T.F_l_take.kp (b_l_take T) .nil pass0 (pa_cons (pv 2) (pa_cons (pe_callB (show CallR _ _ (rLenSeq K) from call_len_seq) (by rfl) T.n_len (by decide +kernel) (pa_cons (pv 7) pa_nil)) pa_nil))) (pa_cons (pe_call (ok_l_take T) (hr.mono (by decide)) (by rfl) T.g_l_take T.F_l_take.kp (b_l_take T) .nil pass0 (pa_cons (pv 2) (pa_cons (pe_callB (show CallR _ _ (rLenSeq K) from call_len_seq) (by rfl) T.n_len (by decide +kernel) (pa_cons (pv 7) pa_nil)) pa_nil))) pa_nil)) (by rfl))
      (pss_one (ps_if (pt_cmpR op_ne (pe_callB (show CallR _ _ (rReprD K) from call_reprD hG hr.units T.sm) (by rfl) T.n_repr (by decide +kernel) (pa_cons (pe_call (ok_check_tree T) (hr.mono (by decide)) (by rfl) T.g_check_tree T.F_check_tree.kp (b_check_tree T) .nil pass0 (pa_cons (pv 5) (pa_cons (pv 6) (pa_cons (pv 11) (pa_cons (pe_ix (show IxR _ (rIxL K) from ix_list) (pv 7) (pv 12) (fun _ _ => rfl)) pa_nil))))) pa_nil)) (pe_callB (show CallR _ _ (rReprD K) from call_reprD hG hr.units T.sm) (by rfl) T.n_repr (by decide +kernel) (pa_cons (pe_cmpR op_eq (pv 11) (pv 12) (nomark _)) pa_nil)) (nomark _)) (pss_one (ps_ret pe_bl)) pss_nil))))))))))))
      (pss_one (ps_ret pe_bl))), ?_⟩
    refine ⟨_, rfl, l, _, rfl, .inl hS, _, _, rfl, _, _, rfl, _, rfl, ?_, ?_, for_it walk_range (fun i σ H' => Same H H' ∧ ∃ x1 x2 x3 x4 x5 x6 x7 x8 x9 x10 x11 x12 : Option V, σ = [some (.ref l), x1, x2, x3, x4, x5, x6, x7, x8, x9, x10, x11, x12]) ⟨Same.refl H, _, _, _, _, _, _, _, _, _, _, _, _, rfl⟩ (fun _ _ _ _ _ => trivial) (fun i x σ H' H'' hi' pp yy => ?_) fun σ H' pp => ?_⟩
    · split <;> omega
    · rw [List.length_map]; split <;> split <;> omega
    · obtain ⟨S0, x1, x2, x3, x4, x5, x6, x7, x8, x9, x10, x11, x12, rfl⟩ := pp
      obtain ⟨rfl, rfl⟩ := yy
      refine ⟨_, rfl, _, rfl, l, ns, _, rfl, (Kp.at fun o e => S0 l o e).1 _ hS, by omega, fun cv => ?_⟩
      refine ⟨_, rfl, fun b H1 s1 nb hB => ?_⟩
      have nbH : H b = none := Same.none S0 nb
      have S1 := S0.trans s1
      clear S0 s1
      simp only [List.set_cons_succ, List.set_cons_zero]
      (repeat (refine ⟨_, rfl, ?_⟩))
      refine ⟨b, 0, _, rfl, hB, by omega, by decide, by decide, fun i2 H2 f2 b2 _ _ => ?_⟩
      have S2 : Same H H2 := fun a o e => f2 a o (ne_of_none e nbH) (S1 a o e)
      (repeat (refine ⟨_, rfl, ?_⟩))
      refine ⟨rfl, ?_⟩
      (repeat (refine ⟨_, rfl, ?_⟩))
      refine ⟨[b], b, 1, _, rfl, List.mem_singleton.mpr rfl, Alv.cons b2.some.choose_spec Alv.nil, b2, by omega, fun v L R H3 s3 hv okL okR b3 => ?_⟩
      obtain ⟨u, v1, v2, rfl, nu, hu, hV, hE⟩ := hv
      refine ⟨u, _, rfl, .inl (.inl hu), rfl, _, _, rfl, ?_⟩
      repeat (first | refine ⟨_, rfl, ?_⟩ | refine ⟨_, _, rfl, rfl, ?_⟩ | refine ⟨_, _, rfl, ?_⟩ | refine ⟨rfl, ?_⟩)
      have alb : AlvL [b] H3 := by
        obtain ⟨x, y, z, e, _⟩ := id b3
        exact AlvL.cons e AlvL.nil
      refine mkPs (M := [b]) alb (Sh.sq hV) okL (Sh.rowsQ hE) okR fun p H4 s4 np hP => ?_
      have s4' : Stp [b] H3 H4 := Stp.of_same s4
      simp only [List.set_cons_succ, List.set_cons_zero]
      repeat (first | refine ⟨_, rfl, ?_⟩ | refine ⟨_, _, rfl, rfl, ?_⟩ | refine ⟨_, _, rfl, ?_⟩ | refine ⟨rfl, ?_⟩)
      have b4 := b3.stp (Stp.of_same (m := []) s4) (by simp)
      have alb4 : Alv [b] H4 := Alv.cons b4.some.choose_spec Alv.nil
      refine ⟨[b], b, _, v2, L, R, rfl, List.mem_singleton.mpr rfl, alb4, b4, by omega, Sh.go hE s4' Sb.refl Sb.refl, okR, fun wp qs H5 s5 hp5 l40 hqs b5 => ?_⟩
      simp only [List.set_cons_succ, List.set_cons_zero]
      repeat (first | refine ⟨_, rfl, ?_⟩ | refine ⟨_, _, rfl, rfl, ?_⟩ | refine ⟨_, _, rfl, ?_⟩ | refine ⟨rfl, ?_⟩)
      have s05 : Same H H5 := fun a o e => ((s3.trans s4').trans s5).at (S2 a o e) fun m => ne_of_none e nbH (List.mem_singleton.mp m)
      have alb5 : Alv [b] H5 := alb4.go s5
      have hP5b := Sh.go hP s5 Sb.refl Sb.refl
      have hP5 := Sh.all hP5b
      refine ⟨[b], _, _, L, R, qs, rfl, alb5, hP5, okL, okR, hp5, by omega, hqs, fun wf H6 s6 hf => ?_⟩
      simp only [List.set_cons_succ, List.set_cons_zero]
      have hp6 := Sh.go hp5 (Stp.of_same (m := []) s6) Sb.nil Sb.refl
      have hP6' := Sh.go hP5b (Stp.of_same (m := []) s6) Sb.nil Sb.refl
      have hP6 := Sh.go hP5 (Stp.of_same (m := []) s6) Sb.nil Sb.refl
      have s06 := s05.trans s6
      have b6 := b5.same s6
      clear S1 S2 s3 s4 s4' s5 s6 hV hE hP hP5 hp5 b3 b4 b5 f2 b2 alb alb4
      obtain ⟨Pa, xp, rfl, nP, haP, pdP⟩ := id hp6
      obtain ⟨F, xf, rfl, nF, haF, pdF⟩ := id hf
      have lP := plen pdP
      have lF := plen pdF
      rw [List.length_mapIdx] at lF
      (repeat (refine ⟨_, rfl, ?_⟩))
      simp only [List.set_cons_succ, List.set_cons_zero]
      refine ⟨F, xf, rfl, .inl (SqL.of haF), ?_⟩
      (repeat (refine ⟨_, rfl, ?_⟩))
      refine ⟨Pa, xp, rfl, .inl (SqL.of haP), ?_⟩
      refine ⟨rfl, _, rfl, ?_⟩
      rw [decide_eq_true (show V.int (xf.length : Int) = V.int (xp.length : Int) by rw [lF, lP])]
      refine ite2 (fun z => by simp at z) (fun _ => ?_)
      (repeat (refine ⟨_, rfl, ?_⟩))
      refine ⟨⟨_, SqL.of haF⟩, fun D nD => ?_⟩
      have fine : ∀ (k : Nat) (y : List TRow), (qs.mapIdx fun k q => treeOf R qs k q)[k]? = some y → ∃ z, qs[k]? = some z ∧ y = treeOf R qs k z ∧ Fine (.list (y.map trD)) := fun k y h => by
        rw [List.getElem?_mapIdx] at h
        obtain ⟨z, hz, e⟩ := Option.map_eq_some_iff.mp h
        subst e
        exact ⟨z, hz, rfl, tree_fine okL okR hqs hz l40⟩
      refine lc_it (walk_list (K := K) (a := F) (xs := xf)) (fun k G => ∃ ts kvs, G D = some (.lst (ts.map V.ref)) ∧ Paired (fun p kv => G p = some (.tup [kV kv.1, kv.2])) ts kvs ∧ kvs = ((qs.mapIdx fun k q => treeOf R qs k q).take k).map kvT ∧ Same H6 G) ⟨[], [], upd_same, .nil, rfl, Same.new nD⟩ (fun k G _ ⟨_, _, _, _, _, z⟩ => SqL.of (z _ _ haF)) ?_ ?_
      · rintro k x Hx G hk ⟨ts, kvs, hD, pk, ek, s7⟩ ⟨rfl, hx⟩
        obtain ⟨y, hy, hm⟩ := pget' pdF hx
        obtain ⟨z, hz, ey, fy⟩ := fine k y hy
        refine ⟨wipe_in (by decide), ?_⟩
        (repeat (refine ⟨_, rfl, ?_⟩))
        refine ⟨x, .list (y.map trD), rfl, dx_trs (Sh.go hm (Stp.of_same (m := []) s7) Sb.nil Sb.refl), fy, ?_⟩
        generalize hsh : PyData.shown (.list (y.map trD)) = tx
        (repeat (refine ⟨_, rfl, ?_⟩))
        refine ⟨lenk 2 rfl (by decide), fun t nt => ?_⟩
        have s8 : Same G (upd G t (.tup [.str tx, .int 1])) := Same.new nt
        have h8 : upd G t (.tup [.str tx, .int 1]) t = some (.tup [.str tx, .int 1]) := upd_same
        have lk := (List.getElem?_eq_some_iff.mp hy).1
        have e3 := (List.getElem?_eq_some_iff.mp hy).2
        have lts : ts.length = k := by
          rw [pk.length, ek, List.length_map, List.length_take]
          omega
        have nDG : ∀ a o, upd G t (.tup [.str tx, .int 1]) a = some o → H6 a = some o → a ≠ D := fun a o _ h e => by rw [e, nD] at h; cases h
        have tD : t ≠ D := fun e => by rw [e, hD] at nt; cases nt
        have s68 := s7.trans s8
        refine ⟨_, s8 _ _ hD, by rw [List.length_map, sizeLine_eq]; rw [List.length_mapIdx] at lk; omega, ts ++ [t], kvs ++ [(Sum.inr tx, .int 1)], by rw [upd_same, List.map_append]; rfl, psnoc (Paired.mapP pk fun a kv z => ?_) ?_, ?_, Same.upd_p s68 nD⟩
        · have : a ≠ D := fun e => by rw [e, hD] at z; cases z
          rw [upd_ne this]; exact s8 _ _ z
        · rw [upd_ne tD]; exact h8
        · rw [take_snoc lk, List.map_append, ek, e3]
          show _ = _ ++ [kvT y]
          unfold kvT
          rw [hsh]
      rintro H7 ⟨ts, kvs, hD, pk, ek, s7⟩
      have s07 := s06.trans s7
      (repeat (refine ⟨_, rfl, ?_⟩))
      refine ⟨D, ts, kvs, rfl, SqL.of hD, Paired.mapP pk fun _ _ z => .inl (.inl z), fun d nd => ?_⟩
      have ek' : kvs = (qs.mapIdx fun k q => treeOf R qs k q).map kvT := by rw [ek, List.take_of_length_le (by rw [List.length_mapIdx]; omega)]
      have keys : (kvs.map (·.1)).Nodup := by
        rw [ek', List.map_map, List.nodup_iff_pairwise_ne, List.pairwise_map]
        rw [List.pairwise_iff_getElem]
        intro i j hi hj hij e
        rw [List.length_mapIdx] at hi hj
        rw [List.getElem_mapIdx, List.getElem_mapIdx] at e
        have e := Sum.inr.inj e
        have nmq : ∀ (k : Nat) (h : k < qs.length), ∀ r ∈ treeOf R qs k qs[k], NameOk r.x := fun k h r hr => by
          obtain ⟨w, hw, ew, _⟩ := tree_pc hqs (List.getElem?_eq_getElem h) r hr
          rw [← show w.1 = r.x from ew]; exact (okR.ok w hw).nm
        have := tree_ne' okR.nd hqs (List.getElem?_eq_getElem hi) (List.getElem?_eq_getElem hj) (trs_tx (nmq i hi) (nmq j hj) e)
        omega
      have lm : (mergeK [] kvs).length = xf.length := by
        rw [merge_new _ _ keys fun k _ hm => by rw [List.map_nil] at hm; exact absurd hm List.not_mem_nil, List.nil_append, ek', List.length_map, List.length_mapIdx, lF]
      have s8 : Same H7 (upd H7 d (.dK (mergeK [] kvs))) := Same.new nd
      have h8 : upd H7 d (.dK (mergeK [] kvs)) d = some (.dK (mergeK [] kvs)) := upd_same
      generalize upd H7 d (.dK (mergeK [] kvs)) = H8 at s8 h8
      have s08 := s07.trans s8
      have s68 := s7.trans s8
      (repeat (refine ⟨_, rfl, ?_⟩))
      refine ⟨d, _, rfl, h8, ?_⟩
      (repeat (refine ⟨_, rfl, ?_⟩))
      refine ⟨F, xf, rfl, .inl (SqL.of (s68 _ _ haF)), ?_⟩
      refine ⟨rfl, ?_⟩
      (repeat (refine ⟨_, rfl, ?_⟩))
      rw [lm, decide_eq_true rfl]
      refine ite2 (fun z => by simp at z) (fun _ => ?_)
      (repeat (refine ⟨_, rfl, ?_⟩))
      refine ⟨F, Pa, xf, xp, rfl, SqL.of (s68 _ _ haF), SqL.of (s68 _ _ haP), ?_⟩
      have trees_at : ∀ (k : Nat) (y : List TRow), (qs.mapIdx fun k q => treeOf R qs k q)[k]? = some y → ∃ z, qs[k]? = some z ∧ y = treeOf R qs k z := fun k y h => by
        obtain ⟨z, h1, h2, _⟩ := fine k y h
        exact ⟨z, h1, h2⟩
      refine for_it walk_zipL (fun k σ G => ∃ y8 y9, σ = [some (.ref l), some (.int (0 + (i : Int))), some (.ref b), some v1, some v2, some (.ref p), some (.ref Pa), some (.ref F), y8, y9, x10, x11, x12] ∧ Same H8 G) ⟨_, _, rfl, Same.refl _⟩ (fun k σ G _ ⟨_, _, _, z⟩ => ⟨SqL.of (z _ _ (s68 _ _ haF)), SqL.of (z _ _ (s68 _ _ haP))⟩) ?_ ?_
      · rintro k x σ Hx G hk ⟨y8, y9, rfl, s9⟩ ⟨T1, z1, z2, rfl, nT, rfl, ex1, ex2⟩
        obtain ⟨y, hy, hm⟩ := pget' pdF ex1
        obtain ⟨z, hz, ey⟩ := trees_at k y hy
        obtain ⟨z', hz', hm2⟩ := pget' pdP ex2
        rw [hz] at hz'; cases hz'
        refine ⟨T1, _, rfl, .inl (.inl upd_same), rfl, _, _, rfl, _, _, rfl, rfl, ?_⟩
        have s11 := s9.trans (Same.new (o := .tup [z1, z2]) nT)
        generalize upd Hx T1 (.tup [z1, z2]) = G2 at s11
        simp only [List.set_cons_succ, List.set_cons_zero]
        (repeat (refine ⟨_, rfl, ?_⟩))
        have s6' := Stp.of_same (m := []) (s68.trans s11)
        rw [ey] at hm
        refine ⟨_, _, _, L, R, qs, k, z, rfl, Sh.go hP6 s6' Sb.nil Sb.refl, okL, okR, Sh.all (Sh.go hm s6' Sb.nil Sb.refl), Sh.all (Sh.go hm2 s6' Sb.nil Sb.refl), l40, hqs, hz, fun G3 s12 => ?_⟩
        (repeat (refine ⟨_, rfl, ?_⟩))
        exact ⟨_, _, rfl, s11.trans s12⟩
      · rintro σ G ⟨y8, y9, rfl, s9⟩
        have s09 := s08.trans s9
        have s69 := s68.trans s9
        (repeat (refine ⟨_, rfl, ?_⟩))
        refine ⟨F, xf, rfl, .inl (SqL.of (s69 _ _ haF)), ?_⟩
        (repeat (refine ⟨_, rfl, ?_⟩))
        refine ⟨_, _, rfl, ?_⟩
        (repeat (refine ⟨_, rfl, ?_⟩))
        refine ⟨by split <;> omega, by split <;> omega, for_it walk_range (fun k σ G' => ∃ y10 y11 y12, σ = [some (.ref l), some (.int (0 + (i : Int))), some (.ref b), some v1, some v2, some (.ref p), some (.ref Pa), some (.ref F), y8, y9, y10, y11, y12] ∧ Stp [b] G G' ∧ Bag G' b (1551 + 2 * k)) ⟨_, _, _, rfl, Stp.refl, b6.same s69⟩ (fun _ _ _ _ _ => trivial) (fun k x σ G1 G2 hk pp yy => ?_) fun σ G1 pp => ?_⟩
        · obtain ⟨y10, y11, y12, rfl, s10, b10⟩ := pp
          obtain ⟨rfl, rfl⟩ := yy
          (repeat (refine ⟨_, rfl, ?_⟩))
          simp only [List.set_cons_succ, List.set_cons_zero]
          have pos : 0 < xf.length ∧ k < 4 := by split at hk <;> omega
          have hF1 := s10.at (s69 _ _ haF) nF
          refine ⟨F, xf, rfl, .inl (SqL.of hF1), ?_⟩
          (repeat (refine ⟨_, rfl, ?_⟩))
          refine ⟨b, _, (xf.length : Int), rfl, b10, by omega, by omega, by omega, fun i3 G3 f3 b3 y0 y1 => ?_⟩
          have s13 := s10.trans (f3.stp b3.some)
          have hF3 := s13.at (s69 _ _ haF) nF
          (repeat (refine ⟨_, rfl, ?_⟩))
          refine ⟨F, xf, rfl, .inl (SqL.of hF3), ?_⟩
          (repeat (refine ⟨_, rfl, ?_⟩))
          refine ⟨b, _, (xf.length : Int), rfl, b3, by omega, by omega, by omega, fun i4 G4 f4 b4 z0 z1 => ?_⟩
          have s14 := s13.trans (f4.stp b4.some)
          have hF4 := s14.at (s69 _ _ haF) nF
          obtain ⟨n3, rfl⟩ : ∃ m : Nat, i3 = (m : Int) := ⟨i3.toNat, by omega⟩
          obtain ⟨n4, rfl⟩ : ∃ m : Nat, i4 = (m : Int) := ⟨i4.toNat, by omega⟩
          (repeat (refine ⟨_, rfl, ?_⟩))
          simp only [List.set_cons_succ, List.set_cons_zero]
          refine ⟨_, _, rfl, ?_⟩
          (repeat (refine ⟨_, rfl, ?_⟩))
          have st6 : Stp [b] H6 G4 := (Stp.of_same s69).trans s14
          obtain ⟨vt, hvt⟩ : ∃ v, xf[n4]? = some v := ⟨_, List.getElem?_eq_getElem (by omega)⟩
          obtain ⟨y, hy, hm⟩ := pget' pdF hvt
          obtain ⟨z, hz, ey⟩ := trees_at n4 y hy
          rw [ey] at hm
          obtain ⟨z3, hz3⟩ : ∃ v, qs[n3]? = some v := ⟨_, List.getElem?_eq_getElem (by omega)⟩
          refine ⟨F, xf, _, _, rfl, rfl, SqL.of hF4, atI_n hvt, ?_⟩
          (repeat (refine ⟨_, rfl, ?_⟩))
          have lt := tree_len (R := R) (qs := qs) (k := n4) (q := z)
          refine ⟨[b], _, _, _, L, R, qs, n3, z3, treeOf R qs n4 z, rfl, Alv.cons b4.some.choose_spec Alv.nil, Sh.all (Sh.go hP6' st6 Sb.refl Sb.refl), okL, okR, Sh.go hp6 st6 Sb.refl Sb.refl, by omega, hqs, hz3, Sh.all (Sh.go hm st6 Sb.refl Sb.refl), by omega, fun r hr => tree_pc hqs hz r hr, fun G5 s15 => ?_⟩
          (repeat (refine ⟨_, rfl, ?_⟩))
          have ec : decide (treeOf R qs n4 z = treeOf R qs n3 z3) = decide (V.int (n3 : Nat) = V.int (n4 : Nat)) := decide_eq_decide.mpr ⟨fun e => by rw [tree_ne okR.nd hqs hz hz3 e], fun e => by
            have e : ((n3 : Nat) : Int) = ((n4 : Nat) : Int) := by injection e
            obtain rfl : n3 = n4 := by omega
            rw [hz] at hz3; cases hz3; rfl⟩
          rw [ec]
          generalize hc : decide (V.int (n3 : Nat) = V.int (n4 : Nat)) = c
          have b5 := b4.same s15
          have s165 := s14.trans (Stp.of_same s15)
          (repeat (refine ⟨_, rfl, ?_⟩))
          refine ⟨_, .bool c, rfl, .bl c, (okd_bool c).fine (by decide) (by decide), ?_⟩
          (repeat (refine ⟨_, rfl, ?_⟩))
          refine ⟨rfl, ?_⟩
          rw [hc]
          (repeat (refine ⟨_, rfl, ?_⟩))
          refine ⟨_, .bool c, rfl, .bl c, (okd_bool c).fine (by decide) (by decide), ?_⟩
          generalize PyData.shown (.bool c) = tx
          refine ⟨rfl, _, rfl, ?_⟩
          rw [decide_eq_true rfl]
          refine ite2 (fun z => by simp at z) (fun _ => ?_)
          exact ⟨_, _, _, rfl, s165, b5.mono (by omega)⟩
        · obtain ⟨y10, y11, y12, rfl, s10, b10⟩ := pp
          exact ⟨fun a o e => s10.at (s09 _ _ e) fun m => ne_of_none e nbH (List.mem_singleton.mp m), _, _, _, _, _, _, _, _, _, _, _, _, rfl⟩
    · obtain ⟨S0, x1, x2, x3, x4, x5, x6, x7, x8, x9, x10, x11, x12, rfl⟩ := pp
      exact q _

end K62
namespace K62
open PySem PySem.Spec PyProof.Rows L2 TL
theorem facts {w : World} {K : PySem.W.Frag} {h : Heap} {mg : Str → Option Value} {f : Addr} (X : K.In h) (G : h.Ns mainGlobals mg) (hfa : mg ("law" : Str) = some (.ref f)) (c : PySem.EXV.SaysX file tests fa fn exs K) :
    ∃ fd : FuncData, (∀ (s : Shared) (v : Value), BindsTo s fd ⟨[v], []⟩ [("_law_script", v)]) ∧ ∀ base : Heap, K.In base → base.Ns mainGlobals mg → FnG R.prog w K mg base CX0 8 f fd ["_law_script"] (sp_law K) := by
  obtain ⟨fd0, F0⟩ := c.def_ 0 (d := d_is_list) rfl
  obtain ⟨fd1, F1⟩ := c.def_ 1 (d := d_check_distinct) rfl
  obtain ⟨fd2, F2⟩ := c.def_ 2 (d := d_is_name) rfl
  obtain ⟨fd3, F3⟩ := c.def_ 3 (d := d_is_any_integer) rfl
  obtain ⟨fd4, F4⟩ := c.def_ 4 (d := d_is_integer) rfl
  obtain ⟨fd5, F5⟩ := c.def_ 5 (d := d_Problem_init) rfl
  obtain ⟨fd6, F6⟩ := c.def_ 6 (d := d_Problem_eq) rfl
  obtain ⟨fd7, F7⟩ := c.def_ 7 (d := d_Problem_events) rfl
  obtain ⟨fd8, F8⟩ := c.def_ 8 (d := d_Problem_are_adjacent) rfl
  obtain ⟨fd9, F9⟩ := c.def_ 9 (d := d_Problem_neighbors) rfl
  obtain ⟨fd10, F10⟩ := c.def_ 10 (d := d_Problem_is_event) rfl
  obtain ⟨fd11, F11⟩ := c.def_ 11 (d := d_Problem_is_piece) rfl
  obtain ⟨fd12, F12⟩ := c.def_ 12 (d := d_Problem_check_event) rfl
  obtain ⟨fd13, F13⟩ := c.def_ 13 (d := d_Problem_scope_sizes) rfl
  obtain ⟨fd14, F14⟩ := c.def_ 14 (d := d_check_problem) rfl
  obtain ⟨fd15, F15⟩ := c.def_ 15 (d := d__neighbors_of) rfl
  obtain ⟨fd16, F16⟩ := c.def_ 16 (d := d__are_values) rfl
  obtain ⟨fd17, F17⟩ := c.def_ 17 (d := d__check_variables) rfl
  obtain ⟨fd18, F18⟩ := c.def_ 18 (d := d__is_variable_row) rfl
  obtain ⟨fd19, F19⟩ := c.def_ 19 (d := d__check_events) rfl
  obtain ⟨fd20, F20⟩ := c.def_ 20 (d := d__is_event_row) rfl
  obtain ⟨fd21, F21⟩ := c.def_ 21 (d := d__check_scope) rfl
  obtain ⟨fd22, F22⟩ := c.def_ 22 (d := d__check_variable) rfl
  obtain ⟨fd23, F23⟩ := c.def_ 23 (d := d__are_bad_tuples) rfl
  obtain ⟨fd24, F24⟩ := c.def_ 24 (d := d_check_history) rfl
  obtain ⟨fd25, F25⟩ := c.def_ 25 (d := d_witness_tree) rfl
  obtain ⟨fd26, F26⟩ := c.def_ 26 (d := d_witness_trees) rfl
  obtain ⟨fd27, F27⟩ := c.def_ 27 (d := d_check_tree) rfl
  obtain ⟨fd28, F28⟩ := c.def_ 28 (d := d__tree_of) rfl
  obtain ⟨fd29, F29⟩ := c.def_ 29 (d := d__are_rows) rfl
  obtain ⟨fd30, F30⟩ := c.def_ 30 (d := d__is_row) rfl
  obtain ⟨fd31, F31⟩ := c.def_ 31 (d := d_l_cell) rfl
  obtain ⟨fd32, F32⟩ := c.def_ 32 (d := d_l_box) rfl
  obtain ⟨fd33, F33⟩ := c.def_ 33 (d := d_l_take) rfl
  obtain ⟨fd34, F34⟩ := c.def_ 34 (d := d_l_mixed) rfl
  obtain ⟨fd35, F35⟩ := c.def_ 35 (d := d_l_names) rfl
  obtain ⟨fd36, F36⟩ := c.def_ 36 (d := d_l_agree) rfl
  obtain ⟨fd37, F37⟩ := c.def_ 37 (d := d_l_bads) rfl
  obtain ⟨fd38, F38⟩ := c.def_ 38 (d := d_l_problem) rfl
  obtain ⟨fd39, F39⟩ := c.def_ 39 (d := d_l_pieces) rfl
  obtain ⟨fd40, F40⟩ := c.def_ 40 (d := d_l_one_right) rfl
  obtain ⟨fd41, F41⟩ := c.def_ 41 (d := d_law) rfl
  have e := hfa.symm.trans (He.glo_ok X G (c.fact 32 (f := .glo "law") rfl))
  cases e
  have b := FunD.bindsA (ps := ["_law_script"]) F41 fun _ _ _ _ _ _ us hl => match us, hl with | [_], _ => rfl
  let T : Txt R.prog K mg := {
    C_Problem := _, g_Problem := He.glo_ok X G (c.fact 33 (f := .glo "Problem") rfl),
    f_is_list := _, fd_is_list := fd0, F_is_list := F0, g_is_list := He.glo_ok X G (c.fact 0 (f := .glo "is_list") rfl),
    f_check_distinct := _, fd_check_distinct := fd1, F_check_distinct := F1, g_check_distinct := He.glo_ok X G (c.fact 1 (f := .glo "check_distinct") rfl),
    f_is_name := _, fd_is_name := fd2, F_is_name := F2, g_is_name := He.glo_ok X G (c.fact 2 (f := .glo "is_name") rfl),
    f_is_any_integer := _, fd_is_any_integer := fd3, F_is_any_integer := F3, g_is_any_integer := He.glo_ok X G (c.fact 3 (f := .glo "is_any_integer") rfl),
    f_is_integer := _, fd_is_integer := fd4, F_is_integer := F4, g_is_integer := He.glo_ok X G (c.fact 4 (f := .glo "is_integer") rfl),
    f_Problem_init := _, fd_Problem_init := fd5, F_Problem_init := F5,
    f_Problem_eq := _, fd_Problem_eq := fd6, F_Problem_eq := F6, m_Problem_eq := He.meth_ok (c.fact 34 (f := .meth "Problem" "__eq__") rfl),
    f_Problem_events := _, fd_Problem_events := fd7, F_Problem_events := F7, m_Problem_events := He.meth_ok (c.fact 35 (f := .meth "Problem" "events") rfl),
    f_Problem_are_adjacent := _, fd_Problem_are_adjacent := fd8, F_Problem_are_adjacent := F8, m_Problem_are_adjacent := He.meth_ok (c.fact 36 (f := .meth "Problem" "are_adjacent") rfl),
    f_Problem_neighbors := _, fd_Problem_neighbors := fd9, F_Problem_neighbors := F9, m_Problem_neighbors := He.meth_ok (c.fact 37 (f := .meth "Problem" "neighbors") rfl),
    f_Problem_is_event := _, fd_Problem_is_event := fd10, F_Problem_is_event := F10, m_Problem_is_event := He.meth_ok (c.fact 38 (f := .meth "Problem" "is_event") rfl),
    f_Problem_is_piece := _, fd_Problem_is_piece := fd11, F_Problem_is_piece := F11, m_Problem_is_piece := He.meth_ok (c.fact 39 (f := .meth "Problem" "is_piece") rfl),
    f_Problem_check_event := _, fd_Problem_check_event := fd12, F_Problem_check_event := F12, m_Problem_check_event := He.meth_ok (c.fact 40 (f := .meth "Problem" "check_event") rfl),
    f_Problem_scope_sizes := _, fd_Problem_scope_sizes := fd13, F_Problem_scope_sizes := F13, m_Problem_scope_sizes := He.meth_ok (c.fact 41 (f := .meth "Problem" "_scope_sizes") rfl),
    f_check_problem := _, fd_check_problem := fd14, F_check_problem := F14, g_check_problem := He.glo_ok X G (c.fact 5 (f := .glo "check_problem") rfl),
    f__neighbors_of := _, fd__neighbors_of := fd15, F__neighbors_of := F15, g__neighbors_of := He.glo_ok X G (c.fact 6 (f := .glo "_neighbors_of") rfl),
    f__are_values := _, fd__are_values := fd16, F__are_values := F16, g__are_values := He.glo_ok X G (c.fact 7 (f := .glo "_are_values") rfl),
    f__check_variables := _, fd__check_variables := fd17, F__check_variables := F17, g__check_variables := He.glo_ok X G (c.fact 8 (f := .glo "_check_variables") rfl),
    f__is_variable_row := _, fd__is_variable_row := fd18, F__is_variable_row := F18, g__is_variable_row := He.glo_ok X G (c.fact 9 (f := .glo "_is_variable_row") rfl),
    f__check_events := _, fd__check_events := fd19, F__check_events := F19, g__check_events := He.glo_ok X G (c.fact 10 (f := .glo "_check_events") rfl),
    f__is_event_row := _, fd__is_event_row := fd20, F__is_event_row := F20, g__is_event_row := He.glo_ok X G (c.fact 11 (f := .glo "_is_event_row") rfl),
    f__check_scope := _, fd__check_scope := fd21, F__check_scope := F21, g__check_scope := He.glo_ok X G (c.fact 12 (f := .glo "_check_scope") rfl),
    f__check_variable := _, fd__check_variable := fd22, F__check_variable := F22, g__check_variable := He.glo_ok X G (c.fact 13 (f := .glo "_check_variable") rfl),
    f__are_bad_tuples := _, fd__are_bad_tuples := fd23, F__are_bad_tuples := F23, g__are_bad_tuples := He.glo_ok X G (c.fact 14 (f := .glo "_are_bad_tuples") rfl),
    f_check_history := _, fd_check_history := fd24, F_check_history := F24, g_check_history := He.glo_ok X G (c.fact 15 (f := .glo "check_history") rfl),
    f_witness_tree := _, fd_witness_tree := fd25, F_witness_tree := F25, g_witness_tree := He.glo_ok X G (c.fact 16 (f := .glo "witness_tree") rfl),
    f_witness_trees := _, fd_witness_trees := fd26, F_witness_trees := F26, g_witness_trees := He.glo_ok X G (c.fact 17 (f := .glo "witness_trees") rfl),
    f_check_tree := _, fd_check_tree := fd27, F_check_tree := F27, g_check_tree := He.glo_ok X G (c.fact 18 (f := .glo "check_tree") rfl),
    f__tree_of := _, fd__tree_of := fd28, F__tree_of := F28, g__tree_of := He.glo_ok X G (c.fact 19 (f := .glo "_tree_of") rfl),
    f__are_rows := _, fd__are_rows := fd29, F__are_rows := F29, g__are_rows := He.glo_ok X G (c.fact 20 (f := .glo "_are_rows") rfl),
    f__is_row := _, fd__is_row := fd30, F__is_row := F30, g__is_row := He.glo_ok X G (c.fact 21 (f := .glo "_is_row") rfl),
    f_l_cell := _, fd_l_cell := fd31, F_l_cell := F31, g_l_cell := He.glo_ok X G (c.fact 22 (f := .glo "_law_cell") rfl),
    f_l_box := _, fd_l_box := fd32, F_l_box := F32, g_l_box := He.glo_ok X G (c.fact 23 (f := .glo "_law_box") rfl),
    f_l_take := _, fd_l_take := fd33, F_l_take := F33, g_l_take := He.glo_ok X G (c.fact 24 (f := .glo "_law_take") rfl),
    f_l_mixed := _, fd_l_mixed := fd34, F_l_mixed := F34, g_l_mixed := He.glo_ok X G (c.fact 25 (f := .glo "_law_mixed") rfl),
    f_l_names := _, fd_l_names := fd35, F_l_names := F35, g_l_names := He.glo_ok X G (c.fact 26 (f := .glo "_law_names") rfl),
    f_l_agree := _, fd_l_agree := fd36, F_l_agree := F36, g_l_agree := He.glo_ok X G (c.fact 27 (f := .glo "_law_agree") rfl),
    f_l_bads := _, fd_l_bads := fd37, F_l_bads := F37, g_l_bads := He.glo_ok X G (c.fact 28 (f := .glo "_law_bads") rfl),
    f_l_problem := _, fd_l_problem := fd38, F_l_problem := F38, g_l_problem := He.glo_ok X G (c.fact 29 (f := .glo "_law_problem") rfl),
    f_l_pieces := _, fd_l_pieces := fd39, F_l_pieces := F39, g_l_pieces := He.glo_ok X G (c.fact 30 (f := .glo "_law_pieces") rfl),
    f_l_one_right := _, fd_l_one_right := fd40, F_l_one_right := F40, g_l_one_right := He.glo_ok X G (c.fact 31 (f := .glo "_law_one_right") rfl),
    f_law := _, fd_law := fd41, F_law := F41, g_law := He.glo_ok X G (c.fact 32 (f := .glo "law") rfl),
    cl_Problem := He.cls_ok (c.fact 60 (f := .cls "Problem") rfl),
    mk_Problem := He.mkr_ok (c.fact 61 (f := .mkr "Problem") rfl),
    na_Problem__variables := He.noat_ok (c.fact 62 (f := .noat "Problem" "_variables") rfl),
    na_Problem__sizes := He.noat_ok (c.fact 63 (f := .noat "Problem" "_sizes") rfl),
    na_Problem__places := He.noat_ok (c.fact 64 (f := .noat "Problem" "_places") rfl),
    na_Problem__events := He.noat_ok (c.fact 65 (f := .noat "Problem" "_events") rfl),
    na_Problem__scopes := He.noat_ok (c.fact 66 (f := .noat "Problem" "_scopes") rfl),
    na_Problem__bad_tuples := He.noat_ok (c.fact 67 (f := .noat "Problem" "_bad_tuples") rfl),
    na_Problem__neighbors := He.noat_ok (c.fact 68 (f := .noat "Problem" "_neighbors") rfl),
    ow_Problem := ownB_ok (c.test 0 (b := (fun K => ownB K "Problem")) rfl),
    sm := PySem.EXV.smB_ok (c.test 1 (b := PySem.EXV.smB) rfl),
    n_all := He.free_ok X G (c.fact 42 (f := .free "all") rfl),
    n_any := He.free_ok X G (c.fact 43 (f := .free "any") rfl),
    n_bool := He.free_ok X G (c.fact 44 (f := .free "bool") rfl),
    n_dict := He.free_ok X G (c.fact 45 (f := .free "dict") rfl),
    n_enumerate := He.free_ok X G (c.fact 46 (f := .free "enumerate") rfl),
    n_int := He.free_ok X G (c.fact 47 (f := .free "int") rfl),
    n_isinstance := He.free_ok X G (c.fact 48 (f := .free "isinstance") rfl),
    n_len := He.free_ok X G (c.fact 49 (f := .free "len") rfl),
    n_list := He.free_ok X G (c.fact 50 (f := .free "list") rfl),
    n_max := He.free_ok X G (c.fact 51 (f := .free "max") rfl),
    n_min := He.free_ok X G (c.fact 52 (f := .free "min") rfl),
    n_range := He.free_ok X G (c.fact 53 (f := .free "range") rfl),
    n_repr := He.free_ok X G (c.fact 54 (f := .free "repr") rfl),
    n_reversed := He.free_ok X G (c.fact 55 (f := .free "reversed") rfl),
    n_sorted := He.free_ok X G (c.fact 56 (f := .free "sorted") rfl),
    n_str := He.free_ok X G (c.fact 57 (f := .free "str") rfl),
    n_tuple := He.free_ok X G (c.fact 58 (f := .free "tuple") rfl),
    n_zip := He.free_ok X G (c.fact 59 (f := .free "zip") rfl),
    e0 := _, t_e0 := PySem.EXV.isEB_ok (c.test 5 (b := (fun K => PySem.EXV.isEB K (He.dflAt ("Problem", some "__init__") 0 K))) rfl),
    c_MOST_VARIABLES := PySem.EXV.conB_ok X G (c.test 2 (b := (PySem.EXV.conB "MOST_VARIABLES" 8)) rfl),
    c_MOST_EVENTS := PySem.EXV.conB_ok X G (c.test 3 (b := (PySem.EXV.conB "MOST_EVENTS" 8)) rfl),
    c_MOST_PIECES := PySem.EXV.conB_ok X G (c.test 4 (b := (PySem.EXV.conB "MOST_PIECES" 240)) rfl) }
  exact ⟨fd41, fun s v => b s [v] rfl, fun base _ _ => ok_law T⟩

end K62
open PySem PySem.W PySem.Calls PyProof.Rows
set_option maxRecDepth 100000 in
set_option maxHeartbeats 0 in
theorem PySem.Challenge.cw_resampler_k62_whole_trees_of_a_history_d_holds : PySem.Challenge.rw_resampler_k62_whole_trees_of_a_history_d.Holds := by
  w_on; o_law
  refine HandSHeadRun.head_any (r := OpenLaw.row PySem.Challenge.rw_resampler_k62_whole_trees_of_a_history_d) (q := view (OpenLaw.row PySem.Challenge.rw_resampler_k62_whole_trees_of_a_history_d).prog [55]) (H := K62.hk) (ob := K62.ob) (M := 8000) (loose := K62.loose) (d := HandSHeadRun.topDef (OpenLaw.row PySem.Challenge.rw_resampler_k62_whole_trees_of_a_history_d).prog 55) (kwd := []) K62.ob_eq
    (by kernel_rfl) (fun s => by kernel_rfl) K62.run (by kernel_rfl) (by kernel_rfl) (by kernel_rfl) (by rfl) (by first | assumption | decide +kernel) (by decide +kernel) ⟨rfl, rfl, rfl, rfl, rfl, by decide +kernel⟩ ?hw ?hc
  case hw => w_witness2
  case hc =>
    refine L2.walk_ofG (l := PySem.Challenge.rw_resampler_k62_whole_trees_of_a_history_d) (n := 63) (k := 8) (x := "_law_script") (CX := L2.CX0) rfl (by decide) (by kernel_rfl) ⟨rfl, by decide, by decide⟩ ?F (fun _ _ _ _ z => z)
    intro w mg fa h Y G hmg0
    obtain ⟨K, KX, c⟩ := Y
    have hmg : mg ("law" : PySem.Str) = some (.ref fa) := by
      have e : (HandSHeadRun.topDef (OpenLaw.row PySem.Challenge.rw_resampler_k62_whole_trees_of_a_history_d).prog 55).name = ("law" : PySem.Str) := by kernel_rfl
      rw [← e]
      exact hmg0
    obtain ⟨fd, hb, hF⟩ := K62.facts (w := w) KX G hmg c
    exact ⟨K, fd, K62.sp_law K, KX, hb, fun H a ns hl _ hS => ⟨a, ns, rfl, hS, hl, fun _ => rfl⟩, hF⟩

