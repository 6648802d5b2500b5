import PyProof.Rows.All
import Wide.All
import OpenK.AllK
import Wide.FinOn
import KE.KStateDown
import HandS.ForMost
import HandS.WordsExc
import HandS.Defaults
import HandS.MakeKwOnly
import HandS.IsInst
import HandS.StrMore
import HandS.Wide
import HandS.Walk
import HandS.Evl
import HandS.Head0
import HandS.Head1
import HandS.Head2
import HandS.HeadEnd
import HandS.HeadHook1
import HandS.HeadHook2
import HandS.Style
import HandS.DictComp
import HandS.Deep
import HandS.Gcd
import HandS.FStr
import HandS.OwnEq
import HandS.Small
import HandS.Head3
import PySem.Challenge.RW_resampler_k46_graphs_told
import KE.KExcSuper
import KE.KExcInit
import PyProof.ExcBaseAll.LookupError
import HandS.ForExc
import HandS.HeadWalk
import HandS.ExcField
import HandS.TryMany
import PyProof.Rows.FactsExc_KeyError
import HandS.Ends
import PyProof.ReprRoads
import PyProof.CallFns
import KE.KCallOwn
import KE.KFmtOwn
import PyProof.InstNe
import PyProof.ReprLen
import HandS.Iter
import KE.GoesMore
import HandS.TupSets
import PyProof.FactsLen
import KE.GoesZip
import HandS.Conv
import HandS.ExcOwn
import PyProof.EqKinds
import PyProof.FactsAll.dict_1
import HandS.List
import HandS.ListItems
import KE.KDictList
import HandS.TupAny
import HandS.Dict
import PyProof.DictUpdate
import KE.KDictZip
import PyProof.Rows.SetFrom
import PyProof.SetRoads
import HandS.Finally
import KE.KEqNest
import PyProof.NeData
set_option Elab.async false
set_option linter.all false
set_option maxRecDepth 100000
set_option maxHeartbeats 0
/-! Own error classes over any base: own classes, then the base's mro. -/
namespace PySem
namespace EXV
open PySem.W PySem.Calls PyProof.Rows PySem.HandSPX Builtin Builtin.ObjectAttr
/-- own classes, then the list T -/
def refsT (T : List Value) : List Value → Bool
  | .ref c :: r => refsT T r || (Value.ref c :: r == T)
  | l => l == T
/-- the base: its facts, its tail -/
structure BaseX (B nw ini : String) (T : List Value) : Prop where
  own : ∀ {prog : Program} {w : World} {A : Around} {R : Result → Shared → Prop} {hp : Heap} {gs : Array GenState} {dr : Drawn} {tk : Nat} {os : OsState} {nm qn : Str} {C N fI : Addr} {bs bm sub rest : List Value}
    {hdct ab : Bool} {sn : List Str} {col : Option Bool} {dd : Option Addr} {k0 k1 k2 k3 k5 : Option Value}, (∀ X : String, bm.contains (.type X) = T.contains (.type X)) →
    hp.get? C = some (excClassObj nm qn C N bs bm hdct sn sub ab col dd k0 k1 k2 k3 k5 nw) → W.Looks (model prog w) hp (typeLookup (.ref C) "__init__") (some (.ref fI)) →
    (∀ self, W.Looks (model prog w) hp (bindSpecial (.ref fI) self) (.ref fI, [self])) → rest.length ≤ sizeLine →
    codeAny (model prog w) (A.under (.builtin "type.__call__" ⟨.ref C :: rest, []⟩)) (.call (.ref fI) ⟨.ref (hp.objs.size + 1) :: rest, []⟩) (W.InitBack (hp.objs.size + 1) R) ⟨(hp.push (W.kdv_tup rest)).push (excO C hp.objs.size), gs, dr, tk, os⟩ →
    codeAny (model prog w) A (.call (.ref C) ⟨rest, []⟩) R ⟨hp, gs, dr, tk, os⟩
  sup : ∀ {prog : Program} {w : World} {A : Around} {E : Value → Shared → Prop} {s : Shared} {h₀ : Heap} {L : Addr} {m : Str → Option Value} {news : List (Addr × Obj)} {K : Frag} {x C u t : Addr} {dv : Option Addr} {c2 : Value}
    {rest : List Value} {nws : Obj → List (Addr × Obj)} {Q : Value → Shared → Prop}, Fr h₀ L s.heap m → K.In h₀ → News h₀ L s.heap news → excInitIn K C T nw = true → (u, kxs_mw ini x) ∈ news → UpdF x (excObj C t dv c2) news nws →
    rest.length ≤ sizeLine → (∀ t' h', Fr h₀ L h' m → News h₀ L h' ((t', excTup rest) :: nws (excObj C t' dv c2)) → (∀ p ∈ news, p.1 < t') → Q .none { s with heap := h' }) → wpAny (model prog w) A (call (.ref u) rest) Q E s
  kx : KxsFacts B ini
  pass : ∀ self, refuseLoop self "__setattr__" T = pure ()
  obj : T.contains (.type "object") = true
  typ : ∀ c r, T ≠ .ref c :: r
  ne : T ≠ []
theorem refsT_cases {T : List Value} (ht : ∀ c r, T ≠ .ref c :: r) (hn : T ≠ []) : ∀ l : List Value, refsT T l = true → (∃ c r, l = .ref c :: r ∧ refsT T r = true) ∨ l = T := by
  intro l h
  cases l with
  | nil => exact .inr (beq_iff_eq.mp h)
  | cons a r =>
    cases a with
    | ref c =>
      rcases Bool.or_eq_true_iff.mp h with h | h
      · exact .inl ⟨c, r, rfl, h⟩
      · exact .inr (beq_iff_eq.mp h)
    | _ => exact .inr (beq_iff_eq.mp h)
theorem refsT_ne {T l : List Value} (hn : T ≠ []) (h : refsT T l = true) : l.isEmpty = false := by
  cases l with
  | nil => exact absurd (beq_iff_eq.mp h).symm hn
  | cons a r => rfl
section
variable {B nw ini : String} {T : List Value} (b : BaseX B nw ini T)
include b
theorem BaseX.passAll (self : Value) : ∀ l : List Value, refsT T l = true → refuseLoop self "__setattr__" l = pure ()
  | [], h => absurd (beq_iff_eq.mp h).symm b.ne
  | a :: r, h => by
    rcases refsT_cases b.typ b.ne (a :: r) h with ⟨c, r', q, h'⟩ | q
    · obtain ⟨rfl, rfl⟩ := List.cons.inj q
      rw [refuseLoop_ref]
      exact BaseX.passAll self r h'
    · rw [q]; exact b.pass self
theorem BaseX.contains (X : String) : ∀ l : List Value, refsT T l = true → l.contains (.type X) = T.contains (.type X)
  | [], h => absurd (beq_iff_eq.mp h).symm b.ne
  | a :: r, h => by
    rcases refsT_cases b.typ b.ne (a :: r) h with ⟨c, r', q, h'⟩ | q
    · obtain ⟨rfl, rfl⟩ := List.cons.inj q
      rw [List.contains_cons, BaseX.contains X r h']
      rfl
    · rw [q]
end
theorem base_ValueError : BaseX "ValueError" "ValueError.__new__" "ValueError.__init__" [.type "ValueError", .type "Exception", .type "BaseException", .type "object"] :=
  ⟨fun hT => call_own PySem.F.excBase_ValueError hT, fun F X N q => kxs_call F X N PySem.F.excBase_ValueError q, kxs_ValueError, PySem.F.store_ValueError.passes, by decide +kernel, (fun _ _ h => nomatch h), (fun h => nomatch h)⟩
theorem base_LookupError : BaseX "LookupError" "LookupError.__new__" "LookupError.__init__" [.type "LookupError", .type "Exception", .type "BaseException", .type "object"] :=
  ⟨fun hT => call_own PySem.F.excBase_LookupError hT, fun F X N q => kxs_call F X N PySem.F.excBase_LookupError q, kxs_LookupError, PySem.F.store_LookupError.passes, by decide +kernel, (fun _ _ h => nomatch h), (fun h => nomatch h)⟩
section
variable {prog : Program} {w : World} {A : Around} {E : Value → Shared → Prop} {R : Result → Shared → Prop} {hp : Heap} {g : Array GenState} {d : Drawn} {t : Nat} {os : OsState} {B nw ini : String} {T : List Value}
/-- x.name = v, x an own exception without a dict -/
theorem exc_osaT (b : BaseX B nw ini T) {K : W.Frag} {name : Str} {tk : Tok} {v : Value} {x C : Addr} {fv : Array Value} {cd : ClassData}
    (X : K.In hp) (hx : hp.get? x = some { cls := .ref C, data := .fields fv }) (hcd : W.clsIn K C = some cd) (hm : refsT T cd.mro = true) (hh : cd.hasDict = true) (ha : W.findIn K (.ref C) name = some none)
    (hq : ∀ h' tk' dx, (∀ b o, b ≠ x → hp.get? b = some o → h'.get? b = some o) → hp.objs.size ≤ dx → dx ≠ x → h'.get? x = some { cls := .ref C, dict := some dx, data := .fields fv } →
      h'.Ns1 dx (fun y => if y = name then some v else none) → R (.ok (.ret .none)) ⟨h', g, d, tk', os⟩) :
    codeAny (model prog w) A (.call (.builtin "object.__setattr__") ⟨[.ref x, .str name tk, v], []⟩) R ⟨hp, g, d, t, os⟩ := by
  have I : W.InstAt hp x { cls := .ref C, data := .fields fv } C none := ⟨hx, rfl, rfl, trivial⟩
  have SF := PySem.F.store_object
  have ne := refsT_ne b.ne hm
  have hob : cd.mro.contains (.type "object") = true := (b.contains "object" _ hm).trans b.obj
  have hxs : x ≠ hp.objs.size := Nat.ne_of_lt (Heap.lt_size hx)
  have sub : W.Looks (model prog w) hp (isInstance (.ref x) (.type "object")) true := I.type.andThen (W.looks_mroIn X (by unfold W.mroIn; rw [hcd, Option.bind_some, if_neg (by rw [ne]; decide), hob]))
  refine codeAny_call_builtin SF.slot.plain SF.entry (@W.check_slot (model prog w) _ _ ⟨hp, g, d, t, os⟩ "object.__setattr__" "object" "__setattr__" (.ref x) [.str name tk, v] [] _ SF.kind SF.split sub (SF.args (.ref x) (.str name tk) v) ?_)
  have hmr : W.Looks (model prog w) hp (mroOf (.ref C)) cd.mro := (W.looks_clsIn X hcd).andThen .now
  have L3 : W.Looks (model prog w) hp (storeTaker? none) none := .now
  have hcls : W.Looks (model prog w) hp (classData C) cd := W.looks_clsIn X hcd
  rw [W.osa_eq, refuse_eq]
  refine wpAny_bind (wpAny_bind (I.type.at (wpAny_bind (hmr.at ?_))))
  rw [b.passAll _ _ hm]
  refine wpAny_pure (wpAny_bind (I.type.at (wpAny_bind ((W.looks_findIn X ha).at (wpAny_bind (L3.at ?_))))))
  show wpAny _ _ (storeInOwnDict (.ref x) (.ref C) (.str name tk) name v false) _ _ _
  obtain ⟨nm, bs, mro, ns, qn, hd, sn, sb, ab, col, del⟩ := cd
  dsimp only at hh
  subst hh
  unfold storeInOwnDict ownDictForStores
  repeat (first | with_reducible refine store_in_new ?_ ?_ | with_reducible refine wpAny_loadPart_at hx ?_ | with_reducible refine hcls.at ?_ | wp_step)
  · exact ⟨_, #[], _, (Heap.get?_update_ne _ _ _ _ hxs.symm).trans (Heap.get?_push_at rfl rfl), rfl, fun e he => absurd he (by simp), fun _ => rfl⟩
  · intro h' tk' hn' hs
    have hx₁ : (hp.push { cls := .type "dict", data := .dict #[] }).get? x = some { cls := .ref C, data := .fields fv } := Heap.get?_push_of_some _ hx
    refine hq h' tk' hp.objs.size (fun b o hb ho => ?_) (Nat.le_refl _) hxs.symm ?_ hn'
    · exact (hs.2 b (Nat.ne_of_lt (Heap.lt_size ho))).trans ((Heap.get?_update_ne _ _ _ _ hb).trans (Heap.get?_push_of_some _ ho))
    · exact (hs.2 x hxs).trans (Heap.get?_update_self _ hx₁ rfl)
end
end EXV
end PySem

/-! An own error class (over own error classes over ValueError) whose __init__ says super().__init__(a text) and then self.FLD = FLD. -/
namespace PySem
namespace EXV
open PySem.W PySem.Calls PyProof.Rows PySem.HandSPX
/-- the text of such an __init__ -/
def xBody (fld txt : Str) (k : Nat) (p : Nat → Pos) : List Stmt :=
  [.Expr (.Call (.Attribute (.Call (.Name "super" (p 0)) [] [] (p 1)) "__init__" (p 2)) [.Constant (.str txt) k (p 3)] [] (p 4)) (p 5),
   .Assign [.Attribute (.Name "self" (p 6)) fld (p 7)] (.Name fld (p 8)) (p 9)]
def xArgs (fld : Str) (p1 p2 : Pos) : Arguments := { posonlyargs := [], args := [{ arg := "self", annotation := none, pos := p1 }, { arg := fld, annotation := none, pos := p2 }], vararg := none, kwonlyargs := [], kw_defaults := [], kwarg := none, defaults := [] }
def xScope (fld : Str) : Scope := { kind := .function, names := [(PySem.Str.ofString "self", .local), (fld, .local), (PySem.Str.ofString "__class__", .free), (PySem.Str.ofString "super", .globalImplicit)], isGenerator := false, isCoroutine := false }
/-- what the written part says of the class at C and its __init__ at fI -/
structure ExcTxt (P : Program) (K : Frag) (mg : Str → Option Value) (x q fld : Str) (C fI : Addr) : Prop where
  gC : mg x = some (.ref C)
  base : ∃ B nw ini T, BaseX B nw ini T ∧ (∃ nm q N bs bm sn sub ab col dd k0 k1 k2 k3 k5, K.lookup C = some (excClassObj nm q C N bs bm true sn sub ab col dd k0 k1 k2 k3 k5 nw) ∧ refsT T bm = true) ∧
    subIn K (.ref C) (.type B) = some true ∧ ks_superIn K C C "__init__" = some (some (.builtin ini)) ∧ excInitIn K C T nw = true
  sa : findIn K (.ref C) "__setattr__" = some (some (.builtin "object.__setattr__"))
  ga : findIn K (.ref C) "__getattribute__" = some (some (.builtin "BaseException.__getattribute__"))
  gg : findIn K (.ref C) "__getattr__" = some none
  noN : findIn K (.ref C) fld = some none
  iC : findIn K (.ref C) "__init__" = some (some (.ref fI))
  tC : typeIn K (.ref fI) = some (.type "function")
  kC : keepIn K (.ref C) = true
  exC : subIn K (.ref C) (.type "BaseException") = some true
  tyC : typeIn K (.ref C) = some (.type "type")
  hdC : hasDictIn K C = true
  self : mroIn K C (.ref C) = some true
  third : nsIn K cStatics "thirdparty.any" = some none
  noS : nsIn K mainGlobals "super" = some none
  fn : ∃ (oc : Value) (od : Option Addr) (doc pm : Value) (an : Option Addr) (cda : Addr) (ct : Value) (osl : Array (Option Value)) (cc : Addr) (txt : Str) (k : Nat) (p : Nat → Pos) (p1 p2 : Pos),
    K.lookup fI = some ⟨oc, od, .func (ksFn "__init__" q (xArgs fld p1 p2) (xBody fld txt k p) (xScope fld) .none .none doc pm an (.ref cda) ct cc), osl⟩ ∧ codeIn K (.ref cda) q = true ∧
    (∃ ccl cdd vs ccs file tf, K.lookup cda = some ⟨ccl, cdd, .fields vs, ccs⟩ ∧ vs[2]? = some (.str file tf) ∧ ((P.main.file : Str) == file) = true) ∧
    ((p 2).endLine == (p 4).line) = true ∧
    (∃ cl cld csl, K.lookup cc = some ⟨cl, cld, .cell (some (.ref C)), csl⟩) ∧
    (∀ a b : Value, bindArgs (ksFn "__init__" q (xArgs fld p1 p2) (xBody fld txt k p) (xScope fld) .none .none doc pm an (.ref cda) ct cc) ⟨[a, b], []⟩ = pure [(("self" : Str), a), (fld, b)])
  fldOk : (fld == ("self" : Str)) = false ∧ (("self" : Str) == fld) = false ∧ (fld == ("__class__" : Str)) = false ∧ (("__class__" : Str) == fld) = false ∧ (fld == ("super" : Str)) = false ∧ (("super" : Str) == fld) = false ∧ (fld == ("__debug__" : Str)) = false
  topS : (P.main.scope.names.lookup ("super" : Str)).isSome = false
/-- what __init__ leaves of a fresh exception at x -/
structure XEnd (h h' : Heap) (x C dx : Addr) (fld : Str) (v : Value) : Prop where
  keep : ∀ b o, b ≠ x → h.get? b = some o → h'.get? b = some o
  obj : ∃ t1, h'.get? x = some { cls := .ref C, dict := some dx, data := .fields #[.ref t1, .none, .none, .none, .bool false, .none] }
  dbig : h.objs.size ≤ dx
  dne : dx ≠ x
  ns : h'.Ns1 dx (fun y => if y = fld then some v else none)
/-- a made exception -/
structure XMade (h h' : Heap) (e C d : Addr) (fld : Str) (v : Value) : Prop where
  keep : ∀ b o, h.get? b = some o → h'.get? b = some o
  new : h.objs.size ≤ e
  obj : ∃ oe vs, h'.get? e = some oe ∧ oe.cls = .ref C ∧ oe.dict = some d ∧ oe.data = .fields vs ∧ vs[1]? = some .none
  dbig : h.objs.size ≤ d
  dne : d ≠ e
  ns : h'.Ns1 d (fun y => if y = fld then some v else none)
theorem one_le_line (v : Value) : [v].length ≤ sizeLine := by
  rw [sizeLine_eq]
  exact (by decide : 1 ≤ 16777216)
section
variable {prog : Program} {w : World} {A : Around} {R : Result → Shared → Prop} {s : Shared} {K : Frag} {mg : Str → Option Value} {C fI : Addr} {nx q fld : Str}
theorem x_init (T : ExcTxt prog K mg nx q fld C fI) {x t0 : Addr} {v : Value} {mb : Str → Option Value} (X : K.In s.heap) (G : s.heap.Ns mainGlobals mg) (Gb : s.heap.Ns builtinsNs mb) (hb : ∀ y : Str, y ≠ "__name__" → mb y = bootBuiltins y) (hlim : s.heap.NoLimit)
    (hx : s.heap.get? x = some (excO C t0)) (hnx : K.lookup x = none) (hroom : A.depth < recursionLimit)
    (hq : ∀ h' tk dx, XEnd s.heap h' x C dx fld v → R (.ok (.ret .none)) { s with heap := h', toks := tk }) :
    codeAny (model prog w) A (.call (.ref fI) ⟨[.ref x, v], []⟩) R s := by
  obtain ⟨oc, od, doc, pm, an, cda, ct, osl, cc, txt, k, p, p1, p2, ho, hcd, ⟨ccl, cdd, vs, ccs, file, tf, hcode, hvs, hfile⟩, hline, ⟨cl, cld, csl, hcell⟩, hbd⟩ := T.fn
  obtain ⟨B, nw, ini, tl, bX, ⟨nm, qq, N, bs, bm, sn, sub, ab, col, dd, k0, k1, k2, k3, k5, hC, hbm⟩, veC, sup, inI⟩ := T.base
  have hcl : clsIn K C = some { name := nm, bases := bs, mro := .ref C :: bm, ns := N, qualname := qq, hasDict := true, slotNames := sn, subclasses := sub, abstract := ab, collection := col, hasDel := false } := by unfold clsIn; rw [hC] <;> rfl
  obtain ⟨f1, f2, f3, f4, f5, f6, f7⟩ := T.fldOk
  have l1 : (xScope fld).names.lookup ("self" : Str) = some .local := rfl
  have l2 : (xScope fld).names.lookup fld = some .local := by simp [xScope, List.lookup, f1]
  have l3 : (xScope fld).names.lookup ("__class__" : Str) = some .free := by
    have g0 : (PySem.Str.ofString "__class__" == PySem.Str.ofString "self") = false := by decide +kernel
    simp [xScope, List.lookup, f4, g0]
  have l4 : (xScope fld).names.lookup ("super" : Str) = some .globalImplicit := by
    have g0 : (PySem.Str.ofString "super" == PySem.Str.ofString "self") = false := by decide +kernel
    have g1 : (PySem.Str.ofString "super" == PySem.Str.ofString "__class__") = false := by decide +kernel
    simp [xScope, List.lookup, f6, g0, g1]
  have hloc : ∀ y ∈ [(("self" : Str), Value.ref x), (fld, v)], (xScope fld).names.lookup y.1 = some .local := by
    intro y hy
    rcases List.mem_cons.mp hy with rfl | hy
    · exact l1
    · rcases List.mem_cons.mp hy with rfl | hy
      · exact l2
      · cases hy
  refine ks_codeAny_call_defAt (fd := ksFn "__init__" q (xArgs fld p1 p2) (xBody fld txt k p) (xScope fld) .none .none doc pm an (.ref cda) ct cc) (body := xBody fld txt k p) (binds := [("self", .ref x), (fld, v)])
    hroom (X _ _ ho) rfl hlim (codeRec_of X hcd) rfl (BindsTo.of_eq (hbd _ _)) ?_ hloc (fun h₁ hns hk₁ => ?_)
  · intro y hy
    have hy' : y ∈ [(PySem.Str.ofString "self", NameKind.local), (fld, .local), (PySem.Str.ofString "__class__", .free), (PySem.Str.ofString "super", .globalImplicit)] := hy
    simp only [List.mem_cons, List.not_mem_nil, or_false] at hy'
    rcases hy' with rfl | rfl | rfl | rfl <;> exact (fun z => nomatch z)
  · have X₁ : K.In h₁ := X.keeps hk₁
    have hx₁ := hk₁ _ _ hx
    have xC : x ≠ C := fun z => by rw [z, hC] at hnx; cases hnx
    have mself : (fun z => List.lookup z [(PySem.Str.ofString "self", Value.ref x), (fld, v)].reverse) ("self" : Str) = some (.ref x) := by
      show List.lookup ("self" : Str) [(fld, v), (PySem.Str.ofString "self", Value.ref x)] = _
      simp [List.lookup, f2]
    have mfld : (fun z => List.lookup z [(PySem.Str.ofString "self", Value.ref x), (fld, v)].reverse) fld = some v := by
      show List.lookup fld [(fld, v), (PySem.Str.ofString "self", Value.ref x)] = _
      simp [List.lookup]
    have F : Fr s.heap s.heap.objs.size h₁ (fun z => List.lookup z [(PySem.Str.ofString "self", Value.ref x), (fld, v)].reverse) := ⟨hns, hk₁, Nat.le_refl _⟩
    show _root_.PySem.wpAt _ _ (.func (xBody fld txt k p) (ksEnv q (xScope fld) s.heap.objs.size fI (.ref cda) cc)) (execs _ (ksEnv q (xScope fld) s.heap.objs.size fI (.ref cda) cc)) _ _ _
    have he : eval (.Call (.Attribute (.Call (.Name "super" (p 0)) [] [] (p 1)) "__init__" (p 2)) [.Constant (.str txt) k (p 3)] [] (p 4)) (ksEnv q (xScope fld) s.heap.objs.size fI (.ref cda) cc) = (do
        let ov ← attributeBase (.Call (.Name "super" (p 0)) [] [] (p 1)) "__init__" (ksEnv q (xScope fld) s.heap.objs.size fI (.ref cda) cc) (eval (.Call (.Name "super" (p 0)) [] [] (p 1)) (ksEnv q (xScope fld) s.heap.objs.size fI (.ref cda) cc))
        standAt (p 2).atName
        let (f, first) ← holding [ov] (getMethod ov "__init__" (L2.plainOf (.Call (.Name "super" (p 0)) [] [] (p 1)) (ksEnv q (xScope fld) s.heap.objs.size fI (.ref cda) cc)))
        callWith (p 4) f first (backTo (p 4) (starEach [.Constant (.str txt) k (p 3)] (ksEnv q (xScope fld) s.heap.objs.size fI (.ref cda) cc))) []) := by
      show (attributeBase _ _ _ _ >>= fun ov => standAt _ >>= fun _ => methodCall _ _ _ _ _ ov _ _ _) = _
      congr 1
      funext ov
      congr 1
      funext _
      exact L2.mcall_line (by rfl) hline
    refine ks_wpAt_execs_cons (ks_wpAt_Expr_any (ks_wpAt_MethodCall ?_ he))
    obtain ⟨oD, hD1, hD2⟩ : ∃ oD, h₁.get? C = some oD ∧ oD.data = .cls _ := ⟨_, X₁ _ _ hC, rfl⟩
    refine ks_wpAt_super_base (env := ksEnv q (xScope fld) s.heap.objs.size fI (.ref cda) cc) l4 l3 (by decide) rfl (X₁ _ _ ho) rfl rfl rfl (X₁ _ _ hcode) rfl hvs hfile T.topS ?_
    refine ks_loadName_global rfl l4 (loadGlobal_builtin (env := ksEnv q (xScope fld) s.heap.objs.size fI (.ref cda) cc) (G.keeps hk₁) (mg_none_of X G T.noS) (Gb.keeps hk₁) ((hb _ (by decide +kernel)).trans (show bootBuiltins ("super" : Str) = some (.type "super") by first | boot_by_name | rfl | kernel_rfl)) ⟨rfl, ?_⟩)
    refine wpAny_loadName_free rfl l3 rfl ⟨_, X₁ _ _ hcell, rfl⟩ ?_
    refine wpAny_loadName_local rfl l1 F.ns mself ?_
    refine ks_wpAny_isType_cls hD1 hD2 ⟨rfl, ?_⟩
    have I₁ : InstAt h₁ x (excObj C t0 none .none) C none := ⟨hx₁, rfl, rfl, trivial⟩
    refine ks_wpAny_call_super hD1 hD2 I₁.at_ I₁.cls (fun c e => nomatch e) (looks_mroIn X₁ T.self) (fun h₂ e2 k2 => ?_)
    -- the bound wrapper, by the heap without x
    have nl1 : h₁.objs.size ≠ s.heap.objs.size := Nat.ne_of_gt F.ns.lt
    have xs : x < s.heap.objs.size := Heap.lt_size hx
    have x1 : x < h₁.objs.size := Heap.lt_size hx₁
    have hx₂ : h₂.get? x = some (excObj C t0 none .none) := k2 _ _ hx₁
    have X₀ : K.In (hideAll s.heap [x]) := fun b o e => hideAll_get _ (X b o e) (fun hb => by
      rw [List.mem_singleton.mp hb, hnx] at e
      cases e)
    have keep₀ : ∀ b o, (hideAll s.heap [x]).get? b = some o → h₁.get? b = some o := fun b o e => hk₁ b o (of_hideAll _ e)
    have F₂ : Fr (hideAll s.heap [x]) s.heap.objs.size h₂ (fun z => List.lookup z [(PySem.Str.ofString "self", Value.ref x), (fld, v)].reverse) :=
      ⟨hns.keeps k2, fun b o e => k2 b o (keep₀ b o e), Nat.le_of_eq (hideAll_size _ _)⟩
    have n0 : (hideAll s.heap [x]).get? h₁.objs.size = none := by
      cases z : (hideAll s.heap [x]).get? h₁.objs.size with
      | none => rfl
      | some o => exact absurd (Heap.lt_size (keep₀ _ _ z)) (Nat.lt_irrefl _)
    have N₂ : News (hideAll s.heap [x]) s.heap.objs.size h₂ [(h₁.objs.size, ks_superObj C x C), (x, excObj C t0 none .none)] := by
      intro r hr
      rcases List.mem_cons.mp hr with rfl | hr
      · exact ⟨e2, nl1, n0⟩
      · rcases List.mem_cons.mp hr with rfl | hr
        · exact ⟨hx₂, Nat.ne_of_lt xs, hideAll_none _ List.mem_cons_self⟩
        · cases hr
    have I₂ : InstAt h₂ x (excObj C t0 none .none) C none := ⟨hx₂, rfl, rfl, trivial⟩
    refine kxs_method bX.kx F₂ X₀ N₂ List.mem_cons_self I₂ T.third sup veC (by decide) (fun u h₃ F₃ N₃ lt3 => ?_)
    refine kxs_callWith1 N₃ List.mem_cons_self (Calls.spliced_cons (show wpAny _ _ (eval (.Constant (.str txt) k (p 3)) _) _ _ _ from Calls.Constant_str (Calls.spliced_nil ⟨kxs_at N₃ List.mem_cons_self, ?_⟩)))
    have hux : u ≠ x := Nat.ne_of_gt (lt3 (x, excObj C t0 none .none) (List.mem_cons_of_mem _ List.mem_cons_self))
    have hsx : h₁.objs.size ≠ x := Nat.ne_of_gt x1
    refine bX.sup F₃ X₀ N₃ inI List.mem_cons_self (.tail hux (.tail hsx (.head (fun _ h => nomatch h)))) (one_le_line _) (fun t1 h₄ F₄ N₄ lt4 => ?_)
    have hx₄ : h₄.get? x = some (excO C t1) := (N₄ (x, excObj C t1 none .none) (by simp)).1
    have X₄ : K.In h₄ := X₀.keeps F₄.keep
    refine ks_wpAt_execs_cons (ks_wpAt_Assign_Attr (wpAt_of_wpAny (wpAny_Name (wpAny_loadName_local rfl l2 F₄.ns mfld (wpAny_Name (wpAny_loadName_local rfl l1 F₄.ns mself ?_) (by decide))) f7)))
    refine set_plain X₄ (ox := excO C t1) (od := none) ⟨hx₄, rfl, rfl, trivial⟩ T.sa ?_
    refine exc_osaT bX X₄ hx₄ hcl (show (refsT tl bm || _) = true by rw [hbm]; rfl) rfl T.noN (fun h₅ tk₅ dx k₅ dn dne hx₅ hn₅ => ?_)
    refine wpAt_of_wpAny (wpAny_execs_nil (hq h₅ tk₅ dx ⟨fun b o hb e => k₅ b o hb (F₄.keep b o (hideAll_get _ e (fun z => hb (List.mem_singleton.mp z)))), ⟨t1, hx₅⟩, Nat.le_trans (Nat.le_of_lt F₄.ns.lt) dn, dne, hn₅⟩))
theorem x_made (T : ExcTxt prog K mg nx q fld C fI) {v : Value} {mb : Str → Option Value} (X : K.In s.heap) (G : s.heap.Ns mainGlobals mg) (Gb : s.heap.Ns builtinsNs mb) (hb : ∀ y : Str, y ≠ "__name__" → mb y = bootBuiltins y) (hlim : s.heap.NoLimit) (hroom : A.depth + 1 < recursionLimit)
    (hq : ∀ h' tk e d, XMade s.heap h' e C d fld v → R (.ok (.ret (.ref e))) { s with heap := h', toks := tk }) :
    codeAny (model prog w) A (.call (.ref C) ⟨[v], []⟩) R s := by
  obtain ⟨B, nw, ini, tl, bX, ⟨nm, qq, N, bs, bm, sn, sub, ab, col, dd, k0, k1, k2, k3, k5, hC, hbm⟩, veC, sup, inI⟩ := T.base
  obtain ⟨hp, g, dr, tk, os⟩ := s
  have k : ∀ b o, hp.get? b = some o → ((hp.push (kdv_tup [v])).push (excO C hp.objs.size)).get? b = some o := fun b o e => Heap.get?_push_of_some _ (Heap.get?_push_of_some _ e)
  have hget : ((hp.push (kdv_tup [v])).push (excO C hp.objs.size)).get? (hp.objs.size + 1) = some (excO C hp.objs.size) := by heap_get
  have hnx : K.lookup (hp.objs.size + 1) = none := by
    cases e : K.lookup (hp.objs.size + 1) with
    | none => rfl
    | some o => exact absurd (Nat.lt_of_succ_lt (Heap.lt_size (show hp.get? (hp.objs.size + 1) = some o from X _ _ e))) (Nat.lt_irrefl _)
  refine bX.own (fun X => bX.contains X bm hbm) (X _ _ hC) (looks_findIn X T.iC) (fun self => bind_fn X self T.tC) (one_le_line v) ?_
  refine x_init (s := ⟨(hp.push (kdv_tup [v])).push (excO C hp.objs.size), g, dr, tk, os⟩) T (X.keeps k) (G.keeps k) (Gb.keeps k) hb (hlim.keeps k) hget hnx hroom fun h' tk' dx ⟨k', ⟨t1, hx⟩, dn, dne, hns⟩ => ?_
  have old : ∀ b o, hp.get? b = some o → h'.get? b = some o := fun b o e => k' b o (Nat.ne_of_lt (Nat.lt_succ_of_lt (Heap.lt_size e))) (k b o e)
  have z : hp.objs.size + 1 + 1 ≤ dx := by
    have q := dn
    rw [Heap.size_push, Heap.size_push] at q
    exact q
  exact ⟨rfl, hq h' tk' (hp.objs.size + 1) dx ⟨old, Nat.le_succ _, ⟨_, _, hx, rfl, rfl, rfl, rfl⟩, Nat.le_trans (Nat.le_trans (Nat.le_succ _) (Nat.le_succ _)) z, dne, hns⟩⟩
end
end EXV
end PySem

namespace L2
open PySem PySem.Spec PyProof.Rows
theorem relO_x {v : V} {v' : Value} (r : RelV v v') (fld f : Str) : RelO (List.lookup f [(fld, v)]) (if f = fld then some v' else none) := by
  by_cases hw : f = fld
  · subst hw
    rw [if_pos rfl, show List.lookup f [(f, v)] = some v by simp [List.lookup]]
    exact r
  · rw [if_neg hw, show List.lookup f [(fld, v)] = none by simp [List.lookup, show (f == fld) = false by simpa using hw]]
    trivial
section
variable {X : Cx} {C fI : Addr} {x q fld : Str}
/-- X(e), raised -/
def tMkX (C : Addr) (fld : Str) (ta : TA) : St → Hp → XK → Prop := fun σ H Q => ta σ H fun vs H1 => ∃ v, vs = [v] ∧ ∀ d, H1 d = none → Q (.ref C) (some d) (upd H1 d (.xd [(fld, v)]))
theorem pmk_x {a : Expr} {ta : TA} {p pos : Pos} {k : Nat} (T : PySem.EXV.ExcTxt X.prog X.K X.mg x q fld C fI) (hr : Room k X.A) (ha : PA X [a] ta) (hg : Gl X x := by rfl)
    (hdb : (x == ("__debug__" : Str)) = false := by decide)
    (he : starEach (a :: []) X.env = (false, eval a X.env) :: starEach [] X.env := by rfl) (hpl : (backTo pos (starEach [] X.env)).any (·.1) = false := by rfl) :
    PMk X (.Call (.Name x p) [a] [] pos) (tMkX C fld ta) := by
  intro pins s σ H Q I h
  refine wpAny_Call_Name_kw (ld_glob I hg T.gC ?_ hdb)
  refine PySem.W.callWith_K (h₀ := X.base) I.ok.mod.kin T.kC (thn (ha.run pos pins s σ H _ I h) fun us s1 hh => ?_) he hpl
  obtain ⟨vs, H1, I1, r1, v, ev, q1⟩ := hh
  subst ev
  refine ⟨I1.kIn, ?_⟩
  cases r1 with
  | cons rv rn =>
    rename_i v' us'
    cases rn
    show wpAny _ _ (call (.ref C) [v']) _ _ _
    have hlim := I1.nolimit
    obtain ⟨mb, hb1, hb2⟩ := I1.mod.blt
    have hG := I1.mod.glob.keeps I1.bk
    have hGb := hb1.keeps I1.bk
    obtain ⟨hp, g, dr, tk, os⟩ := s1
    refine wpAny_call (PySem.EXV.x_made T I1.kIn hG hGb hb2 hlim (by have := hr.dp; omega) fun h' tk' e d M => ?_)
    show MkP X pins σ Q (.ref e) ⟨h', g, dr, tk', os⟩
    obtain ⟨oe, fv, hoe, hc, hd, hdat, h1⟩ := M.obj
    have hns := M.ns
    obtain ⟨G', g1, g2⟩ := restrict h' fun b => decide (b ≠ e)
    have gk : ∀ b, b ≠ e → G'.get? b = h'.get? b := fun b hb => g1 b (decide_eq_true hb)
    have ge : G'.get? e = none := g2 e (by simp)
    have old : ∀ b o, hp.get? b = some o → G'.get? b = some o := fun b o z => (gk b (Nat.ne_of_lt (Nat.lt_of_lt_of_le (Heap.lt_size z) M.new))).trans (M.keep b o z)
    have ob : ObjOk X.prog X.w (upd H1 d (.xd [(fld, v)])) G' d (.xd [(fld, v)]) :=
      ⟨_, hns.at (fun o z => (gk d M.dne).trans z), fun f => relO_x rv fld f⟩
    have J : Inv X pins σ (upd H1 d (.xd [(fld, v)])) ⟨G', g, dr, tk', os⟩ := I1.laid (t' := tk') old M.dbig ob
    refine ⟨e, oe, fv, ⟨G', g, dr, tk', os⟩, _, .ref C, some d, rfl, J, fun b o z => ?_, ge, hoe, ⟨hc, hd⟩, hdat, h1, ?_, rfl, I1.bare, raises_own T.exC T.tyC, q1 d (I1.hok.fresh M.dbig)⟩
    · by_cases hb : b = e
      · have z' : G'.get? b = some o := z
        rw [hb, ge] at z'; cases z'
      · exact (gk b hb).symm.trans z
    · rw [upd_ne (Ne.symm M.dne)]
      exact I1.hok.fresh M.new
/-- raise X(e) -/
def tRaiseX (C : Addr) (fld : Str) (W : WX) (ta : TA) : TS := fun _ σ H => tMkX C fld ta σ H fun cls d H' => W cls d σ H'
theorem ps_raiseX {a : Expr} {ta : TA} {W : WX} {p pos pos2 : Pos} {k : Nat} (hc : X.calm = true) (T : PySem.EXV.ExcTxt X.prog X.K X.mg x q fld C fI) (hr : Room k X.A) (tk : Takes X W) (ha : PA X [a] ta) (hg : Gl X x := by rfl)
    (hdb : (x == ("__debug__" : Str)) = false := by decide)
    (he : starEach (a :: []) X.env = (false, eval a X.env) :: starEach [] X.env := by rfl) (hpl : (backTo pos (starEach [] X.env)).any (·.1) = false := by rfl) :
    PS X (.Raise (some (.Call (.Name x p) [a] [] pos)) none pos2) (tRaiseX C fld W ta) := ps_raise hc tk (pmk_x T hr ha hg hdb he hpl)
/-- err.FLD, err the exception that the suite holds (at a; its class cls, its dict d) -/
def tFldX (C : Addr) (fld : Str) (a : Addr) (cls : Value) (d : Option Addr) (te : TE) : TE := fun σ H Q => te σ H fun y H1 => y = .ref a ∧ cls = .ref C ∧ ∃ (dd : Addr) (v : V), d = some dd ∧ H1 dd = some (.xd [(fld, v)]) ∧ Q v H1
theorem pe_fldX {a : Addr} {oe : Obj} {cls : Value} {d : Option Addr} {pn : List (Addr × Obj)} {e : Expr} {te : TE} {pos : Pos} (T : PySem.EXV.ExcTxt X.prog X.K X.mg x q fld C fI) (hz : Zc cls d oe) (hf : ∃ vs, oe.data = .fields vs) (he : PE (X.suite a ((a, oe) :: pn)) e te)
    (hb : attributeBase e fld X.env (eval e X.env) = eval e X.env := by rfl) :
    PE (X.suite a ((a, oe) :: pn)) (.Attribute e fld pos) (tFldX C fld a cls d te) := by
  refine ⟨fun pins s σ H Q I h => ?_⟩
  refine attr_of hb (thn (he.run pins s σ H _ I h) fun u s1 hh => ?_)
  obtain ⟨y, H1, I1, rx, ex, ec, dd, v, ed, ea, q⟩ := hh
  subst ex
  obtain rfl : u = Value.ref a := rx
  subst ec
  subst ed
  obtain ⟨ha, _⟩ := I1.pin (a, oe) (List.mem_append_left _ List.mem_cons_self)
  obtain ⟨vs, hd⟩ := hf
  have hx : ObjOk X.prog X.w H1 s1.heap dd (.xd [(fld, v)]) := I1.hok dd _ ea
  obtain ⟨mA, hns, hr⟩ := hx
  obtain ⟨od, ho, hl⟩ := lookIn_ns hns
  have l : List.lookup fld [(fld, v)] = some v := by simp [List.lookup]
  obtain ⟨u, hu, ru⟩ := RelO.some_of (v := v) (o := mA fld) (by rw [← l]; exact hr fld)
  have J : PySem.W.InstAt s1.heap a oe C (some od) := ⟨ha, hz.1, by unfold PySem.W.notCls; rw [hd] <;> rfl, by rw [hz.2]; exact ho⟩
  exact HandSPX.exc_get I1.kIn J T.ga T.gg T.exC (PySem.W.findObj_own T.hdC T.noN rfl (by rw [hl, hu])) (handed_of ru) ⟨v, H1, I1.tok _, ru, q⟩
end
end L2

/-! An own error class whose __init__(self) says super().__init__(a text) and nothing more. -/
namespace PySem
namespace EXV
open PySem.W PySem.Calls PyProof.Rows PySem.HandSPX
def xBody0 (txt : Str) (k : Nat) (p : Nat → Pos) : List Stmt :=
  [.Expr (.Call (.Attribute (.Call (.Name "super" (p 0)) [] [] (p 1)) "__init__" (p 2)) [.Constant (.str txt) k (p 3)] [] (p 4)) (p 5)]
def xArgs0 (p1 : Pos) : Arguments := { posonlyargs := [], args := [{ arg := "self", annotation := none, pos := p1 }], vararg := none, kwonlyargs := [], kw_defaults := [], kwarg := none, defaults := [] }
def xScope0 : Scope := { kind := .function, names := [(PySem.Str.ofString "self", .local), (PySem.Str.ofString "__class__", .free), (PySem.Str.ofString "super", .globalImplicit)], isGenerator := false, isCoroutine := false }
/-- what the written part says of the class at C and its __init__ at fI -/
structure ExcTxt0 (P : Program) (K : Frag) (mg : Str → Option Value) (x q : Str) (C fI : Addr) : Prop where
  gC : mg x = some (.ref C)
  base : ∃ B nw ini T, BaseX B nw ini T ∧ (∃ nm q N bs bm sn sub ab col dd k0 k1 k2 k3 k5, K.lookup C = some (excClassObj nm q C N bs bm true sn sub ab col dd k0 k1 k2 k3 k5 nw) ∧ refsT T bm = true) ∧
    subIn K (.ref C) (.type B) = some true ∧ ks_superIn K C C "__init__" = some (some (.builtin ini)) ∧ excInitIn K C T nw = true
  sa : findIn K (.ref C) "__setattr__" = some (some (.builtin "object.__setattr__"))
  ga : findIn K (.ref C) "__getattribute__" = some (some (.builtin "BaseException.__getattribute__"))
  gg : findIn K (.ref C) "__getattr__" = some none
  iC : findIn K (.ref C) "__init__" = some (some (.ref fI))
  tC : typeIn K (.ref fI) = some (.type "function")
  kC : keepIn K (.ref C) = true
  exC : subIn K (.ref C) (.type "BaseException") = some true
  tyC : typeIn K (.ref C) = some (.type "type")
  hdC : hasDictIn K C = true
  self : mroIn K C (.ref C) = some true
  third : nsIn K cStatics "thirdparty.any" = some none
  noS : nsIn K mainGlobals "super" = some none
  fn : ∃ (oc : Value) (od : Option Addr) (doc pm : Value) (an : Option Addr) (cda : Addr) (ct : Value) (osl : Array (Option Value)) (cc : Addr) (txt : Str) (k : Nat) (p : Nat → Pos) (p1 : Pos),
    K.lookup fI = some ⟨oc, od, .func (ksFn "__init__" q (xArgs0 p1) (xBody0 txt k p) xScope0 .none .none doc pm an (.ref cda) ct cc), osl⟩ ∧ codeIn K (.ref cda) q = true ∧
    (∃ ccl cdd vs ccs file tf, K.lookup cda = some ⟨ccl, cdd, .fields vs, ccs⟩ ∧ vs[2]? = some (.str file tf) ∧ ((P.main.file : Str) == file) = true) ∧
    ((p 2).endLine == (p 4).line) = true ∧
    (∃ cl cld csl, K.lookup cc = some ⟨cl, cld, .cell (some (.ref C)), csl⟩) ∧
    (∀ a : Value, bindArgs (ksFn "__init__" q (xArgs0 p1) (xBody0 txt k p) xScope0 .none .none doc pm an (.ref cda) ct cc) ⟨[a], []⟩ = pure [(("self" : Str), a)])
  topS : (P.main.scope.names.lookup ("super" : Str)).isSome = false
section
variable {prog : Program} {w : World} {A : Around} {R : Result → Shared → Prop} {s : Shared} {K : Frag} {mg : Str → Option Value} {C fI : Addr} {nx q : Str}
theorem x_init0 (T : ExcTxt0 prog K mg nx q C fI) {x t0 : Addr} {mb : Str → Option Value} (X : K.In s.heap) (G : s.heap.Ns mainGlobals mg) (Gb : s.heap.Ns builtinsNs mb) (hb : ∀ y : Str, y ≠ "__name__" → mb y = bootBuiltins y) (hlim : s.heap.NoLimit)
    (hx : s.heap.get? x = some (excO C t0)) (hnx : K.lookup x = none) (hroom : A.depth < recursionLimit)
    (hq : ∀ h' tk t1, (∀ b o, b ≠ x → s.heap.get? b = some o → h'.get? b = some o) → h'.get? x = some (excO C t1) → R (.ok (.ret .none)) { s with heap := h', toks := tk }) :
    codeAny (model prog w) A (.call (.ref fI) ⟨[.ref x], []⟩) R s := by
  obtain ⟨oc, od, doc, pm, an, cda, ct, osl, cc, txt, k, p, p1, ho, hcd, ⟨ccl, cdd, vs, ccs, file, tf, hcode, hvs, hfile⟩, hline, ⟨cl, cld, csl, hcell⟩, hbd⟩ := T.fn
  obtain ⟨B, nw, ini, tl, bX, ⟨nm, qq, N, bs, bm, sn, sub, ab, col, dd, k0, k1, k2, k3, k5, hC, hbm⟩, veC, sup, inI⟩ := T.base
  have hcl : clsIn K C = some { name := nm, bases := bs, mro := .ref C :: bm, ns := N, qualname := qq, hasDict := true, slotNames := sn, subclasses := sub, abstract := ab, collection := col, hasDel := false } := by unfold clsIn; rw [hC] <;> rfl
  have l1 : xScope0.names.lookup ("self" : Str) = some .local := rfl
  have l3 : xScope0.names.lookup ("__class__" : Str) = some .free := by decide +kernel
  have l4 : xScope0.names.lookup ("super" : Str) = some .globalImplicit := by decide +kernel
  have hloc : ∀ y ∈ [(("self" : Str), Value.ref x)], xScope0.names.lookup y.1 = some .local := fun y hy => by
    rw [List.mem_singleton.mp hy]; exact l1
  refine ks_codeAny_call_defAt (fd := ksFn "__init__" q (xArgs0 p1) (xBody0 txt k p) xScope0 .none .none doc pm an (.ref cda) ct cc) (body := xBody0 txt k p) (binds := [("self", .ref x)])
    hroom (X _ _ ho) rfl hlim (codeRec_of X hcd) rfl (BindsTo.of_eq (hbd _)) ?_ hloc (fun h₁ hns hk₁ => ?_)
  · intro y hy
    have hy' : y ∈ [(PySem.Str.ofString "self", NameKind.local), (PySem.Str.ofString "__class__", .free), (PySem.Str.ofString "super", .globalImplicit)] := hy
    simp only [List.mem_cons, List.not_mem_nil, or_false] at hy'
    rcases hy' with rfl | rfl | rfl <;> exact (fun z => nomatch z)
  · have X₁ : K.In h₁ := X.keeps hk₁
    have hx₁ := hk₁ _ _ hx
    have xC : x ≠ C := fun z => by rw [z, hC] at hnx; cases hnx
    have mself : (fun z => List.lookup z [(PySem.Str.ofString "self", Value.ref x)].reverse) ("self" : Str) = some (.ref x) := by
      simp [List.lookup]
    have F : Fr s.heap s.heap.objs.size h₁ (fun z => List.lookup z [(PySem.Str.ofString "self", Value.ref x)].reverse) := ⟨hns, hk₁, Nat.le_refl _⟩
    show _root_.PySem.wpAt _ _ (.func (xBody0 txt k p) (ksEnv q xScope0 s.heap.objs.size fI (.ref cda) cc)) (execs _ (ksEnv q xScope0 s.heap.objs.size fI (.ref cda) cc)) _ _ _
    have he : eval (.Call (.Attribute (.Call (.Name "super" (p 0)) [] [] (p 1)) "__init__" (p 2)) [.Constant (.str txt) k (p 3)] [] (p 4)) (ksEnv q xScope0 s.heap.objs.size fI (.ref cda) cc) = (do
        let ov ← attributeBase (.Call (.Name "super" (p 0)) [] [] (p 1)) "__init__" (ksEnv q xScope0 s.heap.objs.size fI (.ref cda) cc) (eval (.Call (.Name "super" (p 0)) [] [] (p 1)) (ksEnv q xScope0 s.heap.objs.size fI (.ref cda) cc))
        standAt (p 2).atName
        let (f, first) ← holding [ov] (getMethod ov "__init__" (L2.plainOf (.Call (.Name "super" (p 0)) [] [] (p 1)) (ksEnv q xScope0 s.heap.objs.size fI (.ref cda) cc)))
        callWith (p 4) f first (backTo (p 4) (starEach [.Constant (.str txt) k (p 3)] (ksEnv q xScope0 s.heap.objs.size fI (.ref cda) cc))) []) := by
      show (attributeBase _ _ _ _ >>= fun ov => standAt _ >>= fun _ => methodCall _ _ _ _ _ ov _ _ _) = _
      congr 1
      funext ov
      congr 1
      funext _
      exact L2.mcall_line (by rfl) hline
    refine ks_wpAt_execs_cons (ks_wpAt_Expr_any (ks_wpAt_MethodCall ?_ he))
    obtain ⟨oD, hD1, hD2⟩ : ∃ oD, h₁.get? C = some oD ∧ oD.data = .cls _ := ⟨_, X₁ _ _ hC, rfl⟩
    refine ks_wpAt_super_base (env := ksEnv q xScope0 s.heap.objs.size fI (.ref cda) cc) l4 l3 (by decide) rfl (X₁ _ _ ho) rfl rfl rfl (X₁ _ _ hcode) rfl hvs hfile T.topS ?_
    refine ks_loadName_global rfl l4 (loadGlobal_builtin (env := ksEnv q xScope0 s.heap.objs.size fI (.ref cda) cc) (G.keeps hk₁) (mg_none_of X G T.noS) (Gb.keeps hk₁) ((hb _ (by decide +kernel)).trans (show bootBuiltins ("super" : Str) = some (.type "super") by first | boot_by_name | rfl | kernel_rfl)) ⟨rfl, ?_⟩)
    refine wpAny_loadName_free rfl l3 rfl ⟨_, X₁ _ _ hcell, rfl⟩ ?_
    refine wpAny_loadName_local rfl l1 F.ns mself ?_
    refine ks_wpAny_isType_cls hD1 hD2 ⟨rfl, ?_⟩
    have I₁ : InstAt h₁ x (excObj C t0 none .none) C none := ⟨hx₁, rfl, rfl, trivial⟩
    refine ks_wpAny_call_super hD1 hD2 I₁.at_ I₁.cls (fun c e => nomatch e) (looks_mroIn X₁ T.self) (fun h₂ e2 k2 => ?_)
    -- the bound wrapper, by the heap without x
    have nl1 : h₁.objs.size ≠ s.heap.objs.size := Nat.ne_of_gt F.ns.lt
    have xs : x < s.heap.objs.size := Heap.lt_size hx
    have x1 : x < h₁.objs.size := Heap.lt_size hx₁
    have hx₂ : h₂.get? x = some (excObj C t0 none .none) := k2 _ _ hx₁
    have X₀ : K.In (hideAll s.heap [x]) := fun b o e => hideAll_get _ (X b o e) (fun hb => by
      rw [List.mem_singleton.mp hb, hnx] at e
      cases e)
    have keep₀ : ∀ b o, (hideAll s.heap [x]).get? b = some o → h₁.get? b = some o := fun b o e => hk₁ b o (of_hideAll _ e)
    have F₂ : Fr (hideAll s.heap [x]) s.heap.objs.size h₂ (fun z => List.lookup z [(PySem.Str.ofString "self", Value.ref x)].reverse) :=
      ⟨hns.keeps k2, fun b o e => k2 b o (keep₀ b o e), Nat.le_of_eq (hideAll_size _ _)⟩
    have n0 : (hideAll s.heap [x]).get? h₁.objs.size = none := by
      cases z : (hideAll s.heap [x]).get? h₁.objs.size with
      | none => rfl
      | some o => exact absurd (Heap.lt_size (keep₀ _ _ z)) (Nat.lt_irrefl _)
    have N₂ : News (hideAll s.heap [x]) s.heap.objs.size h₂ [(h₁.objs.size, ks_superObj C x C), (x, excObj C t0 none .none)] := by
      intro r hr
      rcases List.mem_cons.mp hr with rfl | hr
      · exact ⟨e2, nl1, n0⟩
      · rcases List.mem_cons.mp hr with rfl | hr
        · exact ⟨hx₂, Nat.ne_of_lt xs, hideAll_none _ List.mem_cons_self⟩
        · cases hr
    have I₂ : InstAt h₂ x (excObj C t0 none .none) C none := ⟨hx₂, rfl, rfl, trivial⟩
    refine kxs_method bX.kx F₂ X₀ N₂ List.mem_cons_self I₂ T.third sup veC (by decide) (fun u h₃ F₃ N₃ lt3 => ?_)
    refine kxs_callWith1 N₃ List.mem_cons_self (Calls.spliced_cons (show wpAny _ _ (eval (.Constant (.str txt) k (p 3)) _) _ _ _ from Calls.Constant_str (Calls.spliced_nil ⟨kxs_at N₃ List.mem_cons_self, ?_⟩)))
    have hux : u ≠ x := Nat.ne_of_gt (lt3 (x, excObj C t0 none .none) (List.mem_cons_of_mem _ List.mem_cons_self))
    have hsx : h₁.objs.size ≠ x := Nat.ne_of_gt x1
    refine bX.sup F₃ X₀ N₃ inI List.mem_cons_self (.tail hux (.tail hsx (.head (fun _ h => nomatch h)))) (one_le_line _) (fun t1 h₄ F₄ N₄ lt4 => ?_)
    have hx₄ : h₄.get? x = some (excO C t1) := (N₄ (x, excObj C t1 none .none) (by simp)).1
    refine wpAt_of_wpAny (wpAny_execs_nil (hq h₄ _ t1 (fun b o hb e => F₄.keep b o (hideAll_get _ e (fun z => hb (List.mem_singleton.mp z)))) hx₄))
/-- a made one -/
structure XMade0 (h h' : Heap) (e C : Addr) : Prop where
  keep : ∀ b o, h.get? b = some o → h'.get? b = some o
  new : h.objs.size ≤ e
  obj : ∃ oe vs, h'.get? e = some oe ∧ oe.cls = .ref C ∧ oe.dict = none ∧ oe.data = .fields vs ∧ vs[1]? = some .none
theorem x_made0 (T : ExcTxt0 prog K mg nx q C fI) {mb : Str → Option Value} (X : K.In s.heap) (G : s.heap.Ns mainGlobals mg) (Gb : s.heap.Ns builtinsNs mb) (hb : ∀ y : Str, y ≠ "__name__" → mb y = bootBuiltins y) (hlim : s.heap.NoLimit) (hroom : A.depth + 1 < recursionLimit)
    (hq : ∀ h' tk e, XMade0 s.heap h' e C → R (.ok (.ret (.ref e))) { s with heap := h', toks := tk }) :
    codeAny (model prog w) A (.call (.ref C) ⟨[], []⟩) R s := by
  obtain ⟨B, nw, ini, tl, bX, ⟨nm, qq, N, bs, bm, sn, sub, ab, col, dd, k0, k1, k2, k3, k5, hC, hbm⟩, veC, sup, inI⟩ := T.base
  obtain ⟨hp, g, dr, tk, os⟩ := s
  have k : ∀ b o, hp.get? b = some o → ((hp.push (kdv_tup [])).push (excO C hp.objs.size)).get? b = some o := fun b o e => Heap.get?_push_of_some _ (Heap.get?_push_of_some _ e)
  have hget : ((hp.push (kdv_tup [])).push (excO C hp.objs.size)).get? (hp.objs.size + 1) = some (excO C hp.objs.size) := by heap_get
  have hnx : K.lookup (hp.objs.size + 1) = none := by
    cases e : K.lookup (hp.objs.size + 1) with
    | none => rfl
    | some o => exact absurd (Nat.lt_of_succ_lt (Heap.lt_size (show hp.get? (hp.objs.size + 1) = some o from X _ _ e))) (Nat.lt_irrefl _)
  refine bX.own (fun X => bX.contains X bm hbm) (X _ _ hC) (looks_findIn X T.iC) (fun self => bind_fn X self T.tC) (Nat.zero_le _) ?_
  refine x_init0 (s := ⟨(hp.push (kdv_tup [])).push (excO C hp.objs.size), g, dr, tk, os⟩) T (X.keeps k) (G.keeps k) (Gb.keeps k) hb (hlim.keeps k) hget hnx hroom fun h' tk' t1 k' hx => ?_
  exact ⟨rfl, hq h' tk' (hp.objs.size + 1) ⟨fun b o e => k' b o (Nat.ne_of_lt (Nat.lt_succ_of_lt (Heap.lt_size e))) (k b o e), Nat.le_succ _, ⟨_, _, hx, rfl, rfl, rfl, rfl⟩⟩⟩
end
end EXV
end PySem

namespace L2
open PySem PySem.Spec PyProof.Rows
section
variable {X : Cx} {C fI : Addr} {x q : Str}
/-- X(), raised: an own error without arguments -/
theorem pmk_x0 {p pos : Pos} {k : Nat} (T : PySem.EXV.ExcTxt0 X.prog X.K X.mg x q C fI) (hr : Room k X.A) (hg : Gl X x := by rfl) (hdb : (x == ("__debug__" : Str)) = false := by decide) :
    PMk X (.Call (.Name x p) [] [] pos) (fun _ H Q => Q (.ref C) none H) := by
  intro pins s σ H Q I h
  refine wpAny_Call_Name_kw (ld_glob I hg T.gC ?_ hdb)
  refine PySem.W.callWith_K0 I.kIn T.kC ?_
  have hlim := I.nolimit
  obtain ⟨mb, hb1, hb2⟩ := I.mod.blt
  have hG := I.mod.glob.keeps I.bk
  have hGb := hb1.keeps I.bk
  have I0 := I
  obtain ⟨hp, g, dr, tk, os⟩ := s
  refine wpAny_call (PySem.EXV.x_made0 T I.kIn hG hGb hb2 hlim (by have := hr.dp; omega) fun h' tk' e M => ?_)
  show MkP X pins σ Q (.ref e) ⟨h', g, dr, tk', os⟩
  obtain ⟨oe, fv, hoe, hc, hd, hdat, h1⟩ := M.obj
  obtain ⟨G', g1, g2⟩ := restrict h' fun b => decide (b ≠ e)
  have gk : ∀ b, b ≠ e → G'.get? b = h'.get? b := fun b hb => g1 b (decide_eq_true hb)
  have ge : G'.get? e = none := g2 e (by simp)
  have old : ∀ b o, hp.get? b = some o → G'.get? b = some o := fun b o z => (gk b (Nat.ne_of_lt (Nat.lt_of_lt_of_le (Heap.lt_size z) M.new))).trans (M.keep b o z)
  have J : Inv X pins σ H ⟨G', g, dr, tk', os⟩ := I0.kept (t' := tk') old
  refine ⟨e, oe, fv, ⟨G', g, dr, tk', os⟩, _, .ref C, none, rfl, J, fun b o z => ?_, ge, hoe, ⟨hc, hd⟩, hdat, h1, I0.hok.fresh M.new, rfl, I0.bare, raises_own T.exC T.tyC, h⟩
  by_cases hb : b = e
  · have z' : G'.get? b = some o := z
    rw [hb, ge] at z'; cases z'
  · exact (gk b hb).symm.trans z
theorem ps_raiseX0 {W : WX} {p pos pos2 : Pos} {k : Nat} (hc : X.calm = true) (T : PySem.EXV.ExcTxt0 X.prog X.K X.mg x q C fI) (hr : Room k X.A) (tk : Takes X W) (hg : Gl X x := by rfl) (hdb : (x == ("__debug__" : Str)) = false := by decide) :
    PS X (.Raise (some (.Call (.Name x p) [] [] pos)) none pos2) (fun _ σ H => W (.ref C) none σ H) := ps_raise hc tk (pmk_x0 T hr hg hdb)
end
end L2

/-! Own error classes over KeyError: it has no maker of its own, LookupError's serves. -/
namespace PySem
namespace EXV
open PySem.W PySem.Calls PyProof.Rows PySem.HandSPX Builtin Builtin.ObjectAttr
abbrev keT : List Value := [.type "KeyError", .type "LookupError", .type "Exception", .type "BaseException", .type "object"]
theorem kxs_keyE : KxsFacts "KeyError" "KeyError.__init__" where
  typ := by
    show builtinType _ = _
    rw [builtinType_eq_fast]
    kernel_rfl
  nac := by
    first
    | kernel_rfl
    | rfl
theorem keyE_pass (self : Value) : refuseLoop self "__setattr__" keT = pure () := by
  kernel_rfl
section
variable {M : Model} {A : Around} {E : Value → Shared → Prop} {hp : Heap} {gs : Array GenState} {dr : Drawn} {tk : Nat} {os : OsState} {nm qn : Str} {C N : Addr} {bs bm sub : List Value} {hdct ab : Bool} {sn : List Str} {col : Option Bool}
  {dd : Option Addr} {k0 k1 k2 k3 k5 : Option Value}
theorem lk_checked {more : List Value} {Q : Unit → Shared → Prop} (cL : (Value.ref C :: bm).contains (.type "LookupError") = true)
    (cls : hp.get? C = some (excClassObj nm qn C N bs bm hdct sn sub ab col dd k0 k1 k2 k3 k5 "LookupError.__new__")) (q : Q () ⟨hp, gs, dr, tk, os⟩) : wpAny M A (checkBuiltinCall "LookupError.__new__" ⟨.ref C :: more, []⟩) Q E ⟨hp, gs, dr, tk, os⟩ := by
  have lf := PySem.F.excBase_LookupError
  have ns := lf.noStar
  simp only [checkBuiltinCall, lf.newSplit, lf.newKind, lf.newRow]
  repeat (first
    | refine wpAny_madeBy_exc cls ?_
    | refine wpAny_staticBase_exc cls ?_
    | refine wpAny_loadPart_at cls ?_
    | (refine wpAny_isSubtype_exc cls ?_; rw [cL])
    | simp only [bne_self_eq_false, if_false, Bool.false_eq_true]
    | wp_step)
  exact q
theorem ke_checked {e : Addr} {oe : Obj} {more : List Value} {Q : Unit → Shared → Prop} (cls : hp.get? C = some (excClassObj nm qn C N bs bm hdct sn sub ab col dd k0 k1 k2 k3 k5 "LookupError.__new__")) (he : hp.get? e = some oe) (oc : oe.cls = .ref C)
    (q : Q () ⟨hp, gs, dr, tk, os⟩) : wpAny M A (checkBoundCall "KeyError.__init__" ⟨.ref e :: more, []⟩) Q E ⟨hp, gs, dr, tk, os⟩ := by
  have kc := excClass_KeyError
  have ns := kc.notStar
  simp only [checkBoundCall, kc.initSig, kc.initKind]
  repeat (first
    | (with_reducible refine wpAny_loadPart_at cls ?_)
    | (with_reducible refine wpAny_loadPart_at he ?_
       rw [oc])
    | wp_step)
  refine wpAny_onRaise ?_
  have st : ∀ (a b : String) (n : Nat), Bind.check ⟨.positional, "*", "KeyError", .self, [⟨"args", .varPos, false⟩]⟩ a b n (List.map (fun x => x.fst) ({ pos := Value.ref e :: more } : Args).kw) = pure () := fun a b n => check_star_args _ _ _ _ _ _
  rw [st]
  exact wpAny_pure q
end
section
variable {prog : Program} {w : World} {A : Around} {R : Result → Shared → Prop} {hp : Heap} {gs : Array GenState} {dr : Drawn} {tk : Nat} {os : OsState} {nm qn : Str} {C N fI : Addr} {bs bm sub rest : List Value}
  {hdct ab : Bool} {sn : List Str} {col : Option Bool} {dd : Option Addr} {k0 k1 k2 k3 k5 : Option Value}
theorem lk_made (cL : (Value.ref C :: bm).contains (.type "LookupError") = true) (cA : (Value.ref C :: bm).contains (.type "AttributeError") = false) (cN : (Value.ref C :: bm).contains (.type "NameError") = false)
    (cls : hp.get? C = some (excClassObj nm qn C N bs bm hdct sn sub ab col dd k0 k1 k2 k3 k5 "LookupError.__new__")) (lr : rest.length ≤ sizeLine)
    (q : R (.ok (.ret (.ref (hp.objs.size + 1)))) ⟨(hp.push (W.kdv_tup rest)).push (excO C hp.objs.size), gs, dr, tk, os⟩) : codeAny (model prog w) A (.builtin "LookupError.__new__" ⟨.ref C :: rest, []⟩) R ⟨hp, gs, dr, tk, os⟩ := by
  have lf := PySem.F.excBase_LookupError
  have en := lf.ends
  refine codeAny_builtinAt lf.entry ?_
  unfold Builtin.«BaseException.__new__»
  refine wpAt_bind ?_
  show wpAt _ _ _ (stack >>= fun _ => _) _ _ _
  refine wpAt_bind (wpAt_stack fun p b => wpAt_of_wpAny ?_)
  wp_walk
  refine wpAt_of_wpAny ?_
  rw [lf.owner]
  repeat (first
    | with_reducible refine wpAny_loadPart_at cls ?_
    | with_reducible refine wpAny_madeHere_exc lf.canon cls ?_
    | (with_reducible refine wpAny_isSubtype_exc cls ?_
       first
       | rw [cL]
       | rw [cA]
       | rw [cN])
    | wp_step)
  show R _ _
  rw [Heap.size_push]
  exact q
theorem lk_call {E : Value → Shared → Prop} {Q : Fin → Shared → Prop} (cL : (Value.ref C :: bm).contains (.type "LookupError") = true) (cA : (Value.ref C :: bm).contains (.type "AttributeError") = false) (cN : (Value.ref C :: bm).contains (.type "NameError") = false)
    (cls : hp.get? C = some (excClassObj nm qn C N bs bm hdct sn sub ab col dd k0 k1 k2 k3 k5 "LookupError.__new__")) (li : W.Looks (model prog w) hp (typeLookup (.ref C) "__init__") (some (.ref fI)))
    (lb : ∀ self, W.Looks (model prog w) hp (bindSpecial (.ref fI) self) (.ref fI, [self])) (lr : rest.length ≤ sizeLine)
    (q : codeAny (model prog w) A (.call (.ref fI) ⟨.ref (hp.objs.size + 1) :: rest, []⟩) (fun r s' => match r with
      | .ok (.ret v) => v = .none ∧ Q (.done (.ret (.ref (hp.objs.size + 1)))) s'
      | .ok _ => False
      | .error e => E e s') ⟨(hp.push (W.kdv_tup rest)).push (excO C hp.objs.size), gs, dr, tk, os⟩) :
    wpAny (model prog w) A (Builtin.«type.__call__» ⟨.ref C :: rest, []⟩) Q E ⟨hp, gs, dr, tk, os⟩ := by
  repeat (first
    | with_reducible refine wpAny_madeBy_exc cls ?_
    | with_reducible refine wpAny_loadPart_at cls ?_
    | wp_step)
  refine codeAny_call_builtin_code (Code.quiet_builtin _ PySem.F.excBase_LookupError.quiet) (lk_checked cL cls (lk_made cL cA cN cls lr ?_))
  show wpAny _ _ _ _ _ _
  have old : ∀ b o, hp.get? b = some o → ((hp.push (W.kdv_tup rest)).push (excO C hp.objs.size)).get? b = some o := fun b o z => Heap.get?_push_of_some _ (Heap.get?_push_of_some _ z)
  have cls2 := old _ _ cls
  have new : ((hp.push (W.kdv_tup rest)).push (excO C hp.objs.size)).get? (hp.objs.size + 1) = some (excO C hp.objs.size) := by
    heap_get
  have cC : (Value.ref C :: bm).contains (.ref C) = true := by
    simp
  have li2 := li.keeps old
  have lb2 := (lb (.ref (hp.objs.size + 1))).keeps old
  unfold isInstance
  repeat (first
    | with_reducible refine wpAny_loadPart_at new ?_
    | (with_reducible refine wpAny_isSubtype_exc cls2 ?_
       rw [cC])
    | wp_step)
  show wpAny _ _ (typeLookup (.ref C) _) _ _ _
  refine li2.at (wpAny_holding (wpAny_bind (lb2.at (wpAny_bind (wpAny_call (codeAny_mono q fun r s' z => ?_))))))
  match r, z with
  | .error _, z => exact z
  | .ok .next, z => exact z.elim
  | .ok .brk, z => exact z.elim
  | .ok .cont, z => exact z.elim
  | .ok (.ret v), z =>
    obtain ⟨rfl, z⟩ := z
    first
    | exact wpAny_pure (wpAny_pure z)
    | (wp_walk
       exact z)
theorem ke_own (hT : ∀ X : String, bm.contains (.type X) = keT.contains (.type X))
    (cls : hp.get? C = some (excClassObj nm qn C N bs bm hdct sn sub ab col dd k0 k1 k2 k3 k5 "LookupError.__new__")) (li : W.Looks (model prog w) hp (typeLookup (.ref C) "__init__") (some (.ref fI)))
    (lb : ∀ self, W.Looks (model prog w) hp (bindSpecial (.ref fI) self) (.ref fI, [self])) (lr : rest.length ≤ sizeLine)
    (q : codeAny (model prog w) (A.under (.builtin "type.__call__" ⟨.ref C :: rest, []⟩)) (.call (.ref fI) ⟨.ref (hp.objs.size + 1) :: rest, []⟩) (W.InitBack (hp.objs.size + 1) R) ⟨(hp.push (W.kdv_tup rest)).push (excO C hp.objs.size), gs, dr, tk, os⟩) :
    codeAny (model prog w) A (.call (.ref C) ⟨rest, []⟩) R ⟨hp, gs, dr, tk, os⟩ := by
  have cX : ∀ X : String, (Value.ref C :: bm).contains (.type X) = keT.contains (.type X) := fun X => by
    rw [List.contains_cons, hT]
    rfl
  have t1 := tc_lookup
  have t2 := tc_bind (.ref C)
  have ty : (⟨hp, gs, dr, tk, os⟩ : Shared).TypeIs (.ref C) "type" := ⟨_, cls, rfl⟩
  refine codeAny_of_tree ?_
  show wpAny _ _ (callAny (.ref C) ⟨rest, []⟩) _ _ _
  repeat (any_goals (first
    | with_reducible refine wpAny_loadPart_at cls ?_
    | assumption
    | wp_step))
  refine ⟨rfl, codeAny_call_builtin_at (Code.quiet_builtin _ (by decide +kernel)) entry_typeCall (wpAny_check_type_call_sub cls (lk_call ((cX _).trans (by decide +kernel)) ((cX _).trans (by decide +kernel)) ((cX _).trans (by decide +kernel)) cls li lb lr ?_))⟩
  refine codeAny_mono q fun r s' z => ?_
  match r, z with
  | .error _, z => exact z
  | .ok .next, z => exact z
  | .ok .brk, z => exact z
  | .ok .cont, z => exact z
  | .ok (.ret v), z => exact z
end
section
variable {prog : Program} {w : World} {A : Around} {E : Value → Shared → Prop} {s : Shared} {h₀ : Heap} {L : Addr} {m : Str → Option Value} {news : List (Addr × Obj)} {K : Frag} {x C u t : Addr} {dv : Option Addr} {c2 : Value} {rest : List Value} {nws : Obj → List (Addr × Obj)}
theorem ke_sup {Q : Value → Shared → Prop} (f : Fr h₀ L s.heap m) (X : K.In h₀) (n : News h₀ L s.heap news) (ei : excInitIn K C keT "LookupError.__new__" = true) (hu : (u, kxs_mw "KeyError.__init__" x) ∈ news) (up : UpdF x (excObj C t dv c2) news nws)
    (lr : rest.length ≤ sizeLine) (q : ∀ t' h', Fr h₀ L h' m → News h₀ L h' ((t', excTup rest) :: nws (excObj C t' dv c2)) → (∀ p ∈ news, p.1 < t') → Q .none { s with heap := h' }) : wpAny (model prog w) A (call (.ref u) rest) Q E s := by
  obtain ⟨nm, N', qn, bs, bm, hdct, sn, sub, ab, col, dd, k0, k1, k2, k3, k5, cls, _⟩ := excInit_of (X.keeps f.keep) ei
  have gu := (n _ hu).1
  obtain ⟨pre, post, rfl, un, l1, l2⟩ := up.split
  have gx := (n (x, excObj C t dv c2) (List.mem_append_right _ List.mem_cons_self)).1
  have lt : ∀ p ∈ pre ++ (x, excObj C t dv c2) :: post, p.1 < s.heap.objs.size := fun p hp => Heap.lt_size (n p hp).1
  have fin : ∀ h', (∀ b o, b ≠ x → s.heap.get? b = some o → h'.get? b = some o) → h'.get? x = some (excObj C s.heap.objs.size dv c2) → h'.get? s.heap.objs.size = some (excTup rest) → Q .none { s with heap := h' } := by
    intro h' keep gx' gt'
    obtain ⟨oL, es, ep, gL, nsr⟩ := f.ns
    have nx := (n (x, excObj C t dv c2) (List.mem_append_right _ List.mem_cons_self)).2
    have keep0 : ∀ b o, h₀.get? b = some o → h'.get? b = some o := fun b o z => keep b o (fun y => by
      rw [y, nx.2] at z
      cases z) (f.keep b o z)
    refine q s.heap.objs.size h' ⟨⟨oL, es, ep, keep _ _ (fun z => nx.1 z.symm) gL, nsr⟩, keep0, f.above⟩ ?_ lt
    rw [un]
    intro p hp
    have lL := Heap.lt_size (show s.heap.get? L = some oL from gL)
    rcases List.mem_cons.mp hp with rfl | hp
    · refine ⟨gt', fun z => absurd (show s.heap.objs.size < s.heap.objs.size by rw [show s.heap.objs.size = L from z] at lL ⊢; exact lL) (Nat.lt_irrefl _), ?_⟩
      cases z : h₀.get? s.heap.objs.size with
      | none => rfl
      | some o => exact absurd (Heap.lt_size (f.keep _ _ z)) (Nat.lt_irrefl _)
    · rcases List.mem_append.mp hp with hp | hp
      · have y := n p (List.mem_append_left _ hp)
        exact ⟨keep _ _ (l1 p hp) y.1, y.2⟩
      · rcases List.mem_cons.mp hp with rfl | hp
        · exact ⟨gx', nx⟩
        · have y := n p (List.mem_append_right _ (List.mem_cons_of_mem _ hp))
          exact ⟨keep _ _ (l2 p hp) y.1, y.2⟩
  obtain ⟨hp, gs, dr, tk, os⟩ := s
  refine wpAny_call (codeAny_of_tree ?_)
  show wpAny _ A.in1 (callAny (.ref u) ⟨rest, []⟩) _ _ _
  simp only [callAny]
  refine wpAny_bind (wpAny_load gu ?_)
  have mw : (Value.type "method-wrapper" == Value.type "method" || Value.type "method-wrapper" == Value.type "builtin_function_or_method" || Value.type "method-wrapper" == Value.type "method-wrapper") = true := by decide
  simp only [kxs_mw, mw, if_true]
  refine KFB.if_so (by decide) (wpAny_bind (ke_checked cls gx rfl (wpAny_bind (wpAny_pure (wpAny_pure ?_)))))
  exact ⟨plainId_quiet excClass_KeyError.init.plain _, codeAny_builtin excClass_KeyError.initEntry (exc_init_tree (cls := .ref C) (t0 := t) (dv := dv) (c2 := c2) (c3 := .none) (b4 := .bool false) gx lr fin)⟩
end
theorem base_KeyError : BaseX "KeyError" "LookupError.__new__" "KeyError.__init__" keT :=
  ⟨fun hT c li lb lr q => ke_own hT c li lb lr q, fun f X n ei hu up lr q => ke_sup f X n ei hu up lr q, kxs_keyE, keyE_pass, by decide +kernel, (fun _ _ h => nomatch h), (fun h => nomatch h)⟩
end EXV
end PySem

/-! Own layer: repr of nested data. repr asks that no repr is under way around it, so such defs promise only there (FnG). -/
namespace L2
open PySem PySem.Spec PyProof.Rows
/-! ### defs that are called where no repr is under way -/
structure FnG (P : Program) (w : World) (K : PySem.W.Frag) (mg : Str → Option Value) (base : Heap) (CX : CXT) (k : Nat) (f : Addr) (fd : FuncData) (ps : List Str) (sp : Sp) : Prop where
  len : ∀ vs H Q E, sp vs H Q E → vs.length = ps.length
  run : ∀ (A : Around) (outer : List Env) (s : Shared) (H : Hp) (args : Args) (us : List Value) (vs : List V) (Q : VK) (E : XK), Room k A → A.guards = some [] → Env0 P w K mg base A outer s H → BindsTo s fd args (ps.zip us) → Vals vs us → sp vs H Q E →
    codeAny (model P w) A (.call (.ref f) args) (CR CX outer P w H s Q E) s
section
variable {P : Program} {w : World} {K : PySem.W.Frag} {mg : Str → Option Value} {base : Heap} {CX : CXT} {k : Nat} {f : Addr} {fd : FuncData} {ps : List Str} {sp : Sp}
theorem FnOk.toG (F : FnOk P w K mg base CX k f fd ps sp) : FnG P w K mg base CX k f fd ps sp :=
  ⟨F.len, fun A outer s H args us vs Q E hr _ => F.run A outer s H args us vs Q E hr⟩
theorem FnG.mono {j : Nat} (F : FnG P w K mg base CX j f fd ps sp) (h : j ≤ k) : FnG P w K mg base CX k f fd ps sp :=
  ⟨F.len, fun A outer s H args us vs Q E hr => F.run A outer s H args us vs Q E (hr.mono h)⟩
/-- a def, by its body -/
theorem FunD.okG {x qual : Str} {params : Arguments} {body : List Stmt} {scope : Scope} {dvs : List V} {kws : List (Str × V)} {N : List Str} (F : FunD K x qual params body scope dvs kws f fd) (S : FnScope N ps scope) (len : ∀ vs H Q E, sp vs H Q E → vs.length = ps.length)
    (hbody : ∀ (cdv : Value) (A : Around) (outer : List Env) (s : Shared) (H : Hp) (vs : List V) (Q : VK) (E : XK), Room k (A.deeper (envOfC qual scope s.heap.objs.size f cdv)) → A.guards = some [] → sp vs H Q E →
      ∃ t, PSs (cxOf CX P w K mg base N qual scope f cdv A outer s H E) body t ∧ t { nx := fun _ H' => Q .non H', rt := Q } (start N vs) H) : FnG P w K mg base CX (k + 1) f fd ps sp := by
  obtain ⟨oc, od, dV, kV, doc, pm, an, cdv, ct, osl, rfl, lk, hcd, _, _⟩ := F.ex
  refine ⟨len, fun A outer s H args us vs Q E hr hg e0 hb r hsp => ?_⟩
  have hl := len _ _ _ _ hsp
  have KX : K.In s.heap := e0.mod.kin.keeps fun b o e => (e0.bs b o e).1
  have lim : s.heap.NoLimit := e0.mod.nolimit.keeps fun b o e => (e0.bs b o e).1
  refine codeAny_call_function hr.depth (KX _ _ lk) rfl S.co S.gen rfl (PySem.W.codeRec_of KX hcd) (hb _ _ _ _ ?_)
  refine wpAny_newFunctionEnv_cells S.kind (fun ⟨n, v⟩ hy => (S.par n (List.of_mem_zip hy).1).elim .inl fun q => .inr ⟨q, PySem.W.cellsFrom_some _ _ _ (.inl q)⟩) fun env he s1 x => ?_
  subst he
  refine ⟨lim.keeps x.toInCall.keep, codeAny_func ?_⟩
  obtain ⟨t, ht, hq⟩ := hbody cdv A outer s H vs Q E (hr.deeper _) hg hsp
  have I : Inv (cxOf CX P w K mg base N qual scope f cdv A outer s H E) [] (start N vs) H s1 := inv_start S hr.hd e0 hl r x
  refine wpAny_mono (ht.run [] s1 (start N vs) H _ I hq) (fun fl s' hs => ?_) fun e s' hs => hs
  cases fl with
  | ret u =>
    obtain ⟨v, σ', H', J, rv, q⟩ := hs
    exact ⟨v, H', J.os, J.bare, J.base, J.hok, rv, q⟩
  | next =>
    obtain ⟨σ', H', J, q⟩ := hs
    exact ⟨V.non, H', J.os, J.bare, J.base, J.hok, rfl, q⟩
  | brk => exact hs.elim fun _ h => h.elim fun _ h => h.2.elim
  | cont => exact hs.elim fun _ h => h.elim fun _ h => h.2.elim
end
section
variable {X : Cx} {CX : CXT} {k n : Nat} {f : Addr} {fd : FuncData} {ps ks : List Str} {sp : Sp} {dvs : List V} {ds : List Value} {E : XK} {x : Str} {p pos : Pos} {e : Expr} {es : List Expr} {kws : List Keyword} {t tk : TA} {g : List Value → List Value → List Value} {gV : List V → List V → List V}
theorem run_fnG {pins : List (Addr × Obj)} {σ : St} {H : Hp} {s : Shared} {Q : VK} {us : List Value} {vs : List V} (hA : X.A.guards = some []) (F : FnG X.prog X.w X.K X.mg X.base CX k f fd ps sp) (hr : Room k X.A) (hb : Binds X.K fd ps ds) (hd : Vals dvs ds) (hx : Passes CX X E)
    (I : Inv X pins σ H s) (r : Vals vs us) (h : sp (vs ++ dvs) H Q E) : wpAny (model X.prog X.w) X.A (call (.ref f) us) (EP X pins σ Q) X.xe s := by
  have r2 : Vals (vs ++ dvs) (us ++ ds) := r.append hd
  have hl : (us ++ ds).length = ps.length := by rw [← r2.length]; exact F.len _ _ _ _ h
  refine wpAny_call (codeAny_mono (F.run X.A X.stack s H ⟨us, []⟩ (us ++ ds) (vs ++ dvs) Q E hr hA I.env0 (hb s us I.kIn hl) r2 h) fun r s' hq => ?_)
  match r, hq with
  | .error e, hq => exact hx pins σ H s e s' I hq
  | .ok (.ret u), hq => exact I.after hq
  | .ok .next, hq => exact hq.elim
  | .ok .brk, hq => exact hq.elim
  | .ok .cont, hq => exact hq.elim
theorem pe_callG (hA : X.A.guards = some []) (F : FnG X.prog X.w X.K X.mg X.base CX k f fd ps sp) (hr : Room k X.A) (hg : Gl X x) (hm : X.mg x = some (.ref f)) (hk : PySem.W.keepIn X.K (.ref f) = true) (hb : Binds X.K fd ps ds) (hd : Vals dvs ds) (hx : Passes CX X E)
    (ha : PA X (e :: es) t) (hdb : (x == ("__debug__" : Str)) = false := by decide) (he : starEach (e :: es) X.env = (false, eval e X.env) :: starEach es X.env := by rfl) (hpl : (backTo pos (starEach es X.env)).any (·.1) = false := by rfl) :
    PE X (.Call (.Name x p) (e :: es) [] pos) (tCall sp dvs E t) := by
  refine ⟨fun pins s σ H Q I h => wpAny_Call_Name_kw (ld_glob I hg hm ?_ hdb)⟩
  exact PySem.W.callWith_K (h₀ := X.base) I.ok.mod.kin hk (thn (ha.run pos pins s σ H _ I h) fun us s1 ⟨vs, H1, I1, r, q⟩ => ⟨I1.kIn, run_fnG hA F hr hb hd hx I1 r q⟩) he hpl
theorem pe_callG0 (hA : X.A.guards = some []) (F : FnG X.prog X.w X.K X.mg X.base CX k f fd ps sp) (hr : Room k X.A) (hg : Gl X x) (hm : X.mg x = some (.ref f)) (hk : PySem.W.keepIn X.K (.ref f) = true) (hb : Binds X.K fd ps ds) (hd : Vals dvs ds) (hx : Passes CX X E)
    (hdb : (x == ("__debug__" : Str)) = false := by decide) : PE X (.Call (.Name x p) [] [] pos) (tCall sp dvs E tNil) := by
  refine ⟨fun pins s σ H Q I h => wpAny_Call_Name_kw (ld_glob I hg hm ?_ hdb)⟩
  exact PySem.W.callWith_K0 I.kIn hk (run_fnG (us := []) hA F hr hb hd hx I .nil h)
end
/-! ### data with dicts, as repr reads it -/
def keyD : Key → PyData
  | .inl i => .int i
  | .inr x => .str x
mutual
inductive Dx (K : PySem.W.Frag) (H : Hp) : V → PyData → Prop
  | non : Dx K H .non .none
  | bl (b : Bool) : Dx K H (.bl b) (.bool b)
  | int (i : Int) : Dx K H (.int i) (.int i)
  | str (x : Str) : Dx K H (.str x) (.str x)
  | lst {a : Addr} {xs : List V} {ds : List PyData} : SqL K H a xs → DxAll K H xs ds → Dx K H (.ref a) (.list ds)
  | tup {a : Addr} {xs : List V} {ds : List PyData} : SqT K H a xs → DxAll K H xs ds → Dx K H (.ref a) (.tuple ds)
  | dic {a : Addr} {ks : List (Key × V)} {kvs : List (PyData × PyData)} : Rd H a (.dK ks) → kvs.map (·.1) = ks.map (fun p => keyD p.1) → DxAll K H (ks.map (·.2)) (kvs.map (·.2)) → Dx K H (.ref a) (.dict kvs)
inductive DxAll (K : PySem.W.Frag) (H : Hp) : List V → List PyData → Prop
  | nil : DxAll K H [] []
  | cons {v : V} {vs : List V} {d : PyData} {ds : List PyData} : Dx K H v d → DxAll K H vs ds → DxAll K H (v :: vs) (d :: ds)
end
section
variable {X : Cx} {pins : List (Addr × Obj)} {σ : St} {H : Hp} {s : Shared}
theorem keys_read {h : Heap} : ∀ {es : List DictEntry} {vs : List (Key × Value)} {knd : PySem.KeyKind X.prog X.w Key}, knd.is = keyIs → Pairs knd es vs → ReadsAll h (es.map (·.key)) (vs.map fun q => keyD q.1) []
  | _, _, _, _, .nil => .nil
  | e :: es, q :: qs, knd, hk, .cons h1 h2 h3 => by
    have r := keys_read (h := h) hk h3
    rw [hk] at h1
    rcases keyIs_shape h1 with ⟨i, t, e1, e2⟩ | ⟨x, t, e1, e2⟩
    · rw [List.map_cons, List.map_cons, e1, e2]
      exact .cons (as := []) (.int i t) r
    · rw [List.map_cons, List.map_cons, e1, e2]
      exact .cons (as := []) (.str x t) r
theorem pairs_vals {es : List DictEntry} {vs : List (Key × Value)} {knd : PySem.KeyKind X.prog X.w Key} (h : Pairs knd es vs) : es.map (·.val) = vs.map (·.2) := by
  induction h with
  | nil => rfl
  | cons h1 h2 h3 ih => rw [List.map_cons, List.map_cons, h2, ih]
theorem kv_keys {ks : List (Key × V)} {vs : List (Key × Value)} (h : KV ks vs) : vs.map (fun q => keyD q.1) = ks.map (fun p => keyD p.1) := by
  unfold KV at h
  induction h with
  | nil => rfl
  | cons h1 h2 ih => rw [List.map_cons, List.map_cons, ih, h1.1]
theorem kv_vals {ks : List (Key × V)} {vs : List (Key × Value)} (h : KV ks vs) : Vals (ks.map (·.2)) (vs.map (·.2)) := by
  unfold KV at h
  induction h with
  | nil => exact .nil
  | cons h1 h2 ih => exact .cons h1.2 ih
end
end L2

namespace L2
open PySem PySem.Spec PyProof.Rows
section
variable {X : Cx} {pins : List (Addr × Obj)} {σ : St} {H : Hp} {s : Shared}
/-- the module's dict of modules is among the written part's objects -/
def HasSm (K : PySem.W.Frag) : Prop := ∃ o, K.lookup sysModules = some o ∧ o.cls = .type "dict"
mutual
theorem Dx.reads (I : Inv X pins σ H s) (sm : HasSm X.K) : ∀ (d : PyData) (v : V) (u : Value), Dx X.K H v d → RelV v u → ∃ as, Reads s.heap u d as ∧ sysModules ∉ as
  | .none, _, _, h, r => by cases h; cases r; exact ⟨_, Reads.none, by simp⟩
  | .bool b, _, _, h, r => by cases h; cases r; exact ⟨_, Reads.bool b, by simp⟩
  | .int i, _, _, h, r => by cases h; obtain ⟨t, rfl⟩ := r; exact ⟨_, Reads.int i t, by simp⟩
  | .str x, _, _, h, r => by cases h; obtain ⟨t, rfl⟩ := r; exact ⟨_, Reads.str x t, by simp⟩
  | .list ds, _, _, h, r => by
    cases h with
    | lst hs ha =>
      cases r
      obtain ⟨its, rv, ⟨o, n, ho, hc, _, hd⟩, _⟩ := I.list hs
      obtain ⟨as, hr, hn⟩ := Dx.readsAll I sm ds _ its ha rv
      refine ⟨_, Reads.list ho hc hd hr, fun hm => ?_⟩
      rcases List.mem_cons.mp hm with e | hm
      · obtain ⟨o', k1, k2⟩ := sm
        have q := I.kIn _ _ k1
        rw [e, ho] at q
        cases q
        rw [hc] at k2
        exact absurd k2 (by decide)
      · exact hn hm
  | .tuple ds, _, _, h, r => by
    cases h with
    | tup hs ha =>
      cases r
      obtain ⟨its, rv, ⟨o, ho, hc, n, hd⟩, _⟩ := I.tuple hs
      obtain ⟨as, hr, hn⟩ := Dx.readsAll I sm ds _ its ha rv
      exact ⟨_, Reads.tuple ho hc hd hr, hn⟩
  | .dict kvs, _, _, h, r => by
    cases h with
    | dic hs hk ha =>
      cases r
      obtain ⟨_, hsm, vs, rel, o, es, ep, ho, hx, hd, _, hp, _⟩ := dk_rd I.hok hs
      obtain ⟨bs, hr, hn⟩ := Dx.readsKv I sm kvs _ (vs.map (·.2)) ha (kv_vals rel)
      have r1 : ReadsAll s.heap (es.toList.map (·.key)) (kvs.map (·.1)) [] := by
        rw [hk, ← kv_keys rel]
        exact keys_read (X := X) rfl hp
      rw [← pairs_vals hp] at hr
      refine ⟨_, Reads.dict ho hx.1 hd r1 hr, fun hm => ?_⟩
      rcases List.mem_append.mp hm with hm | hm
      · rw [List.mem_singleton.mp hm] at hsm
        simp at hsm
      · exact hn hm
theorem Dx.readsAll (I : Inv X pins σ H s) (sm : HasSm X.K) : ∀ (ds : List PyData) (vs : List V) (us : List Value), DxAll X.K H vs ds → Vals vs us → ∃ as, ReadsAll s.heap us ds as ∧ sysModules ∉ as
  | [], _, _, h, r => by cases h; cases r; exact ⟨_, ReadsAll.nil, by simp⟩
  | d :: ds, _, _, h, r => by
    cases h with
    | cons h1 h2 =>
      cases r with
      | cons r1 r2 =>
        obtain ⟨as, q1, n1⟩ := Dx.reads I sm d _ _ h1 r1
        obtain ⟨bs, q2, n2⟩ := Dx.readsAll I sm ds _ _ h2 r2
        exact ⟨_, ReadsAll.cons q1 q2, fun hm => (List.mem_append.mp hm).elim n1 n2⟩
theorem Dx.readsKv (I : Inv X pins σ H s) (sm : HasSm X.K) : ∀ (kvs : List (PyData × PyData)) (vs : List V) (us : List Value), DxAll X.K H vs (kvs.map (·.2)) → Vals vs us → ∃ as, ReadsAll s.heap us (kvs.map (·.2)) as ∧ sysModules ∉ as
  | [], _, _, h, r => by cases h; cases r; exact ⟨_, ReadsAll.nil, by simp⟩
  | (k, d) :: ds, _, _, h, r => by
    rw [List.map_cons] at h ⊢
    cases h with
    | cons h1 h2 =>
      cases r with
      | cons r1 r2 =>
        obtain ⟨as, q1, n1⟩ := Dx.reads I sm d _ _ h1 r1
        obtain ⟨bs, q2, n2⟩ := Dx.readsKv I sm ds _ _ h2 r2
        exact ⟨_, ReadsAll.cons q1 q2, fun hm => (List.mem_append.mp hm).elim n1 n2⟩
end
/-- what repr may be asked of: ints of less than 1920 bits, nested at most 60 deep, a text that fits -/
def Fine (d : PyData) : Prop := d.showable = true ∧ d.depth ≤ 60 ∧ d.shown.length ≤ sizeLine
def rReprD (K : PySem.W.Frag) : List V → Hp → VK → Prop := fun xs H Q => ∃ x d, xs = [x] ∧ Dx K H x d ∧ Fine d ∧ Q (.str d.shown) H
theorem call_reprD (hA : X.A.guards = some []) (hu : X.A.units + 64 < cLine) (sm : HasSm X.K) : CallR X (.builtin "repr") (rReprD X.K) := by
  intro pins s σ H xs us Q I r h
  obtain ⟨x, d, rfl, hd, ⟨h1, h2, h3⟩, q⟩ := h
  obtain ⟨u, rfl, ru⟩ := vals1 r
  obtain ⟨as, hr, hn⟩ := Dx.reads I sm d x u hd ru
  have fin : ∀ (h' : Heap) (t : Tok) (tk : Nat), (∀ b o, s.heap.get? b = some o → h'.get? b = some o) → EP X pins σ Q (.str d.shown t) { s with heap := h', toks := tk } := fun h' t tk hk =>
    ⟨.str _, H, I.kept (t' := tk) hk, ⟨t, rfl⟩, q⟩
  cases hr with
  | none => exact PySem.P.repr_of_none (fin s.heap _ _ fun _ _ e => e)
  | bool b => exact PySem.P.repr_of_bool (fin s.heap _ _ fun _ _ e => e)
  | int i t => exact PySem.P.repr_of_int (by simpa [PyData.showable] using h1) (fin s.heap _ _ fun _ _ e => e)
  | str y t => exact PySem.P.repr_of_str (fin s.heap _ _ fun _ _ e => e) h3
  | list a1 a2 a3 a4 => exact repr_of_reads' (.list a1 a2 a3 a4) h1 (fun _ => hn) hA (by omega) (fun _ _ e => e) (fun h' u tk hk => fin h' u tk hk) h3
  | tuple a1 a2 a3 a4 => exact repr_of_reads' (.tuple a1 a2 a3 a4) h1 (fun _ => hn) hA (by omega) (fun _ _ e => e) (fun h' u tk hk => fin h' u tk hk) h3
  | dict a1 a2 a3 a4 a5 => exact repr_of_reads' (.dict a1 a2 a3 a4 a5) h1 (fun _ => hn) hA (by omega) (fun _ _ e => e) (fun h' u tk hk => fin h' u tk hk) h3
end
end L2

namespace L2
open PySem PySem.Spec PyProof.Rows
section
variable {P : Program} {w : World} {K : PySem.W.Frag} {mg mb : Str → Option Value} {s₁ : Shared}
/-- the state behind the top, seen with the objects of H tracked: none of them holds names, none is the written part's -/
theorem top_env0 (KX : K.In s₁.heap) (hns : s₁.heap.Ns mainGlobals mg) (hb : s₁.heap.Ns builtinsNs mb) (hbb : ∀ x : Str, x ≠ "__name__" → mb x = bootBuiltins x) (hlim : s₁.heap.NoLimit) (hg : s₁.gens = #[])
    {H : Hp} (hok : HOk P w H s₁.heap) (hA : ∀ b o, H b ≠ none → s₁.heap.get? b = some o → ∀ es ep, o.data ≠ .dict es ep) (hK : ∀ b, H b ≠ none → K.lookup b = none) :
    Env0 P w K mg (hidT s₁.heap H) callerA [] s₁ H ∧ K.In (hidT s₁.heap H) ∧ (hidT s₁.heap H).Ns mainGlobals mg := by
  have keepN : ∀ {b : Addr} {m : Str → Option Value}, s₁.heap.Ns b m → (hidT s₁.heap H).Ns b m := fun {b m} ⟨o, es, ep, e, d, r⟩ =>
    ⟨o, es, ep, hidT_get e (Classical.byContradiction fun z => hA b o z e es ep d), d, r⟩
  have keepK : K.In (hidT s₁.heap H) := fun b o e => hidT_get (KX b o e) (Classical.byContradiction fun z => by rw [hK b z] at e; cases e)
  refine ⟨⟨rfl, ⟨keepK, keepN hns, ⟨mb, keepN hb, hbb⟩, ?_⟩, fun b o e => of_hidT e, Nat.le_of_eq (hidT_size _ _), trivial, fun b hb => ?_, hok, .of_eq hg⟩, keepK, keepN hns⟩
  · obtain ⟨mc, h1, h2⟩ := hlim
    exact ⟨mc, keepN h1, h2⟩
  · exact absurd (show b ∈ ([] : List Addr) from hb) (List.not_mem_nil)
/-- the law's call: its def promises where no repr is under way -/
theorem law_callG {CX : CXT} {k : Nat} {fa a : Addr} {fd : FuncData} {x : Str} {sp : Sp} {vs : List Value} {ns : List Int}
    (KX : K.In s₁.heap) (hns : s₁.heap.Ns mainGlobals mg) (hb : s₁.heap.Ns builtinsNs mb) (hbb : ∀ x : Str, x ≠ "__name__" → mb x = bootBuiltins x) (hlim : s₁.heap.NoLimit) (hg : s₁.gens = #[])
    (ha : s₁.heap.get? a = some { cls := .type "list", data := .seq vs.toArray }) (hi : IntsAre vs ns) (hl : ns.length ≤ sizeLine) (hr : Room k callerA)
    (F : ∀ base : Heap, K.In base → base.Ns mainGlobals mg → FnG P w K mg base CX k fa fd [x] sp) (hbind : ∀ (s : Shared) (u : Value), BindsTo s fd ⟨[u], []⟩ [(x, u)])
    (hsp : ∀ H : Hp, Only H → SqL K H a (ns.map V.int) → sp [.ref a] H (fun v _ => v = .bl true) fun _ _ _ => False)
    (hCX : ∀ H e s', CX [] H s₁ (fun _ _ _ => False) e s' → False) :
    codeAny (model P w) callerA (.call (.ref fa) ⟨[.ref a], []⟩) (fun r s' => r = .ok (.ret (.bool true)) ∧ OldK s₁.heap s'.heap ∧ s'.os = s₁.os ∧ AllBare s'.gens) s₁ := by
  have rv := vals_ints hi
  -- once H is chosen
  have go : ∀ H : Hp, Only H → SqL K H a (ns.map V.int) → HOk P w H s₁.heap → (∀ b, H b ≠ none → b = a ∧ K.lookup b = none) →
      codeAny (model P w) callerA (.call (.ref fa) ⟨[.ref a], []⟩) (fun r s' => r = .ok (.ret (.bool true)) ∧ OldK s₁.heap s'.heap ∧ s'.os = s₁.os ∧ AllBare s'.gens) s₁ := by
    intro H hO hS hok hA
    obtain ⟨e0, b1, b2⟩ := top_env0 (P := P) (w := w) KX hns hb hbb hlim hg hok (fun b o z e es ep d => by
      rw [(hA b z).1, ha] at e
      cases e
      exact Data.noConfusion d) fun b z => (hA b z).2
    refine codeAny_mono ((F _ b1 b2).run callerA [] s₁ H ⟨[.ref a], []⟩ [.ref a] [.ref a] _ _ hr rfl e0 (hbind s₁ (.ref a)) (.cons rfl .nil) (hsp H hO hS)) fun r s' h => ?_
    match r, h with
    | .error e, h => exact (hCX H e s' h).elim
    | .ok .next, h => exact h.elim
    | .ok .brk, h => exact h.elim
    | .ok .cont, h => exact h.elim
    | .ok (.ret u), h =>
      obtain ⟨v, H', os, bare, un, hok', r', q⟩ := h
      have q2 : v = .bl true := q
      subst q2
      obtain rfl : u = Value.bool true := r'
      refine ⟨rfl, OldK.of_keep fun b o e => ?_, os, bare⟩
      rcases hO b with z | ⟨ob, xs, z⟩
      · exact un.keep b o e z (List.not_mem_nil) (List.not_mem_nil)
      · have e1 := (hok b _ z).1
        have e2 := (hok' b _ (un.frzs b ob _ z)).1
        rw [e] at e1
        cases e1
        exact e2
  cases hk : K.lookup a with
  | some o =>
    have e := KX a o hk
    rw [ha] at e
    cases e
    refine go (fun _ => none) (fun _ => .inl rfl) (.inr ⟨_, vs.toArray, _, hk, rfl, rfl, rfl, ?_, by simpa using rv⟩) (fun b u z => nomatch (show (none : Option HO) = some u from z)) fun b z => absurd rfl z
    rw [List.size_toArray, hi.length]
    exact hl
  | none =>
    have at_a : ∀ {b : Addr} {u : HO}, (if b = a then some (HO.frz { cls := .type "list", data := .seq vs.toArray } (.lst (ns.map V.int))) else none) = some u → b = a ∧ u = .frz { cls := .type "list", data := .seq vs.toArray } (.lst (ns.map V.int)) := fun {b u} z => by
      split at z
      · rename_i hb
        cases z
        exact ⟨hb, rfl⟩
      · cases z
    refine go (fun b => if b = a then some (.frz { cls := .type "list", data := .seq vs.toArray } (.lst (ns.map V.int))) else none) (fun b => ?_) (.inl (.inr ⟨{ cls := .type "list", data := .seq vs.toArray }, if_pos rfl⟩)) (fun b u z => ?_) fun b z => ?_
    · by_cases hb : b = a
      · exact .inr ⟨_, _, if_pos hb⟩
      · exact .inl (if_neg hb)
    · obtain ⟨rfl, rfl⟩ := at_a z
      exact ⟨ha, by rw [List.length_map]; exact hl, vs, _, rv, ha⟩
    · obtain ⟨u, hu⟩ := Option.ne_none_iff_exists'.mp z
      obtain ⟨rfl, _⟩ := at_a hu
      exact ⟨rfl, hk⟩
end
/-- a law over a head by facts, its def under no repr -/
theorem walk_ofG {l : PySem.W.OpenLaw} {n k : Nat} {q : Program} {loose : List Str} {XP : (Str → Option Value) → Heap → Prop} {YP : World → Heap → Prop} {d : DefRec} {CX : CXT} {x : Str}
    (hn : l.most = some n) (hn2 : n ≤ sizeLine) (hdf : d.params.defaults = []) (hr : Room k callerA)
    (F : ∀ (w : World) (mg : Str → Option Value) (fa : Addr) (h : Heap), YP w h → h.Ns mainGlobals mg → mg d.name = some (.ref fa) →
      ∃ (K : PySem.W.Frag) (fd : FuncData) (sp : Sp), K.In h ∧ (∀ (s : Shared) (u : Value), BindsTo s fd ⟨[u], []⟩ [(x, u)]) ∧
        (∀ (H : Hp) (a : Addr) (ns : List Int), ns.length ≤ n → Only H → SqL K H a (ns.map V.int) → sp [.ref a] H (fun v _ => v = .bl true) fun _ _ _ => False) ∧
        ∀ base : Heap, K.In base → base.Ns mainGlobals mg → FnG l.prog w K mg base CX k fa fd [x] sp)
    (hCX : ∀ (H : Hp) (s : Shared) (e : Value) (s' : Shared), CX [] H s (fun _ _ _ => False) e s' → False) :
    PySem.W.WalkO q loose XP YP l.row.toRowW d [] (fun f vs => PySem.call f vs) := by
  refine Att.attach_call hn hdf fun w s₀ s₁ mg mb fa o pm cd doc a vs ns G Y ho hd hcd hmg hobj hints hlen hg => ?_
  obtain ⟨K, fd, sp, KX, hb, hsp, hF⟩ := F w mg fa _ Y G.T.g hmg
  exact law_callG KX G.T.g G.T.b G.T.builtins G.T.nolimit hg hobj hints (Nat.le_trans hlen hn2) hr hF hb (fun H => hsp H a ns hlen) fun H e s' => hCX H s₁ e s'
end L2

namespace PySem
namespace EXV
open PySem.W PySem.Calls PyProof.Rows PySem.HandSPX He L2
/-! ### a Hook: facts, defs, any tests of the written part, own error classes -/
abbrev FnC : Type := Option (Str × Str × Arguments × FuncBody × Scope × Addr × List Str × Value × Value × Addr)
def fnC (K : Frag) (a : Addr) : FnC := match K.lookup a with
  | some ⟨_, _, .func fd, _⟩ => some (fd.name, fd.qualname, fd.params, fd.body, fd.scope, fd.globals, fd.closure.map (·.1), fd.defaults, fd.kwdefaults, fd.builtins)
  | _ => none
/-- the text of an own error class: its name, its __init__'s qualified name, the field, the message, the places -/
structure ExD where
  x : Str
  q : Str
  fld : Str
  txt : Str
  k : Nat
  p : Nat → Pos
  p1 : Pos
  p2 : Pos
  b : Nat := 0
  /-- an __init__ without arguments -/
  z : Bool := false
/-- the bases: 0 ValueError, 1 LookupError, 2 KeyError -/
def bNm : Nat → String
  | 0 => "ValueError"
  | 1 => "LookupError"
  | _ => "KeyError"
def bNw : Nat → String
  | 0 => "ValueError.__new__"
  | _ => "LookupError.__new__"
def bIn : Nat → String
  | 0 => "ValueError.__init__"
  | 1 => "LookupError.__init__"
  | _ => "KeyError.__init__"
def bTl : Nat → List Value
  | 0 => [.type "ValueError", .type "Exception", .type "BaseException", .type "object"]
  | 1 => [.type "LookupError", .type "Exception", .type "BaseException", .type "object"]
  | _ => keT
theorem b_base : ∀ b : Nat, BaseX (bNm b) (bNw b) (bIn b) (bTl b)
  | 0 => base_ValueError
  | 1 => base_LookupError
  | _ + 2 => base_KeyError
def ExD.val (d : ExD) : FnC := match d.z with
  | false => some ("__init__", d.q, xArgs d.fld d.p1 d.p2, .stmts (xBody d.fld d.txt d.k d.p), xScope d.fld, mainGlobals, ["__class__"], .none, .none, builtinsNs)
  | true => some ("__init__", d.q, xArgs0 d.p1, .stmts (xBody0 d.txt d.k d.p), xScope0, mainGlobals, ["__class__"], .none, .none, builtinsNs)
def clsB (nw : String) (T : List Value) (K : Frag) (C : Addr) : Bool := match K.lookup C with
  | some ⟨.type "type", _, .cls cd, sl⟩ => (match cd.mro, sl.toList with
    | .ref C' :: bm, [_, _, _, _, some (.builtin n), _] => C' == C && n == nw && !cd.hasDel && cd.hasDict && refsT T bm
    | _, _ => false)
  | _ => false
theorem clsB_ok {nw : String} {T : List Value} {K : Frag} {C : Addr} (h : clsB nw T K C = true) :
    ∃ nm q N bs bm sn sub ab col dd k0 k1 k2 k3 k5, K.lookup C = some (excClassObj nm q C N bs bm true sn sub ab col dd k0 k1 k2 k3 k5 nw) ∧ refsT T bm = true := by
  unfold clsB at h
  split at h
  · rename_i dd cd sl ho
    split at h
    · rename_i C' bm k0 k1 k2 k3 n k5 hm hs
      simp only [Bool.and_eq_true, beq_iff_eq, Bool.not_eq_true'] at h
      obtain ⟨⟨⟨⟨rfl, rfl⟩, h1⟩, h2⟩, h3⟩ := h
      obtain ⟨nm, bs, mro, ns, qn, hd, sn, sub, ab, col, del⟩ := cd
      dsimp only at hm h1 h2
      subst hm h1 h2
      obtain ⟨l⟩ := sl
      have hl : l = [k0, k1, k2, k3, some (.builtin n), k5] := hs
      subst hl
      exact ⟨nm, qn, ns, bs, bm, sn, sub, ab, col, dd, k0, k1, k2, k3, k5, ho, h3⟩
    · cases h
  · cases h
def fileB (K : Frag) (cd : Value) (file : Str) : Bool := match cd with
  | .ref c => (match K.lookup c with
    | some (⟨_, _, .fields vs, _⟩ : Obj) => (match (vs[2]? : Option Value) with
      | some (.str f _) => file == f
      | _ => false)
    | _ => false)
  | _ => false
theorem fileB_ok {K : Frag} {c : Addr} {file : Str} (h : fileB K (.ref c) file = true) :
    ∃ ccl cdd vs ccs f tf, K.lookup c = some ⟨ccl, cdd, .fields vs, ccs⟩ ∧ vs[2]? = some (.str f tf) ∧ (file == f) = true := by
  have h1 : (match K.lookup c with
    | some (⟨_, _, .fields vs, _⟩ : Obj) => (match (vs[2]? : Option Value) with
      | some (.str f _) => file == f
      | _ => false)
    | _ => false) = true := h
  split at h1
  · rename_i a b vs d e
    split at h1
    · rename_i f t e2
      exact ⟨_, _, _, _, _, _, e, e2, h1⟩
    · cases h1
  · cases h1
def cellB (K : Frag) (C : Addr) (l : List (Str × Addr)) : Bool := match l with
  | [(_, cc)] => (match K.lookup cc with
    | some ⟨_, _, .cell (some (.ref D)), _⟩ => D == C
    | _ => false)
  | _ => false
theorem cellB_ok {K : Frag} {C cc : Addr} {y : Str} (h : cellB K C [(y, cc)] = true) : ∃ cl cld csl, K.lookup cc = some ⟨cl, cld, .cell (some (.ref C)), csl⟩ := by
  have h1 : (match K.lookup cc with
    | some ⟨_, _, .cell (some (.ref D)), _⟩ => D == C
    | _ => false) = true := h
  split at h1
  · rename_i a b D d e
    rw [beq_iff_eq] at h1
    rw [← h1]
    exact ⟨_, _, _, e⟩
  · cases h1
def initB (K : Frag) (C fI : Addr) (q file : Str) : Bool := match K.lookup fI with
  | some ⟨_, _, .func fd, _⟩ => codeIn K fd.code q && fileB K fd.code file && cellB K C fd.closure
  | _ => false
def fldB (fld : Str) : Bool := (fld == ("self" : Str)) == false && ((("self" : Str) == fld) == false && ((fld == ("__class__" : Str)) == false && ((("__class__" : Str) == fld) == false && ((fld == ("super" : Str)) == false && ((("super" : Str) == fld) == false && (fld == ("__debug__" : Str)) == false)))))
def ExD.ok (file : Str) (K : Frag) (d : ExD) : Bool :=
  let C := ga K d.x
  let fI := ma K C "__init__"
  eqO (nsIn K mainGlobals d.x) (some (some (.ref C))) && (clsB (bNw d.b) (bTl d.b) K C && (eqO (findIn K (.ref C) "__setattr__") (some (some (.builtin "object.__setattr__"))) && (eqO (findIn K (.ref C) "__getattribute__") (some (some (.builtin "BaseException.__getattribute__"))) &&
  (eqO (findIn K (.ref C) "__getattr__") (some none) && (eqO (findIn K (.ref C) d.fld) (some none) && (eqO (findIn K (.ref C) "__init__") (some (some (.ref fI))) && (decide (typeIn K (.ref fI) = some (.type "function")) && (keepIn K (.ref C) &&
  (decide (subIn K (.ref C) (.type "BaseException") = some true) && (decide (subIn K (.ref C) (.type (bNm d.b)) = some true) && (decide (typeIn K (.ref C) = some (.type "type")) && (hasDictIn K C && (eqO (ks_superIn K C C "__init__") (some (some (.builtin (bIn d.b)))) &&
  (excInitIn K C (bTl d.b) (bNw d.b) && (decide (mroIn K C (.ref C) = some true) && (eqO (nsIn K cStatics "thirdparty.any") (some none) && (eqO (nsIn K mainGlobals "super") (some none) &&
  (initB K C fI d.q file && (((d.p 2).endLine == (d.p 4).line) && fldB d.fld)))))))))))))))))))
theorem ExD.toTxt {P : Program} {K : Frag} {h : Heap} {mg : Str → Option Value} {d : ExD} {file : Str} (X : K.In h) (G : h.Ns mainGlobals mg) (e : fnC K (ma K (ga K d.x) "__init__") = d.val) (c : d.ok file K = true) (hf : P.main.file = file) (hz : d.z = false)
    (topS : (P.main.scope.names.lookup ("super" : Str)).isSome = false)
    (hb : ∀ (doc pm : Value) (an : Option Addr) (cdv ct : Value) (cc : Addr) (a b : Value), bindArgs (ksFn "__init__" d.q (xArgs d.fld d.p1 d.p2) (xBody d.fld d.txt d.k d.p) (xScope d.fld) .none .none doc pm an cdv ct cc) ⟨[a, b], []⟩ = pure [(("self" : Str), a), (d.fld, b)]) :
    ExcTxt P K mg d.x d.q d.fld (ga K d.x) (ma K (ga K d.x) "__init__") := by
  unfold ExD.ok at c
  simp only [Bool.and_eq_true] at c
  obtain ⟨c1, c2, c3, c4, c5, c6, c7, c8, c9, c10, c11, c12, c13, c14, c15, c16, c17, c18, c19, c20, c21⟩ := c
  refine { gC := mg_of X G (eqO_ok c1), base := ⟨_, _, _, _, b_base d.b, clsB_ok c2, of_decide_eq_true c11, eqO_ok c14, c15⟩, sa := eqO_ok c3, ga := eqO_ok c4, gg := eqO_ok c5, noN := eqO_ok c6, iC := eqO_ok c7, tC := of_decide_eq_true c8, kC := c9, exC := of_decide_eq_true c10,
           tyC := of_decide_eq_true c12, hdC := c13, self := of_decide_eq_true c16, third := eqO_ok c17, noS := eqO_ok c18, fn := ?_, fldOk := ?_, topS := topS }
  · unfold initB at c19
    unfold fnC at e
    split at c19
    · rename_i oc od fd osl ho
      rw [ho] at e
      obtain ⟨n1, n2, n3, n4, n5, n6, n7, n8, n9, n10, n11, n12, n13, n14, n15⟩ := fd
      have e2 : (some (n1, n2, n3, n4, n5, n6, n7.map (·.1), n8, n9, n15) : FnC) = d.val := e
      unfold ExD.val at e2
      rw [hz] at e2
      simp only [Option.some.injEq, Prod.mk.injEq] at e2
      obtain ⟨h1, h2, h3, h4, h5, h6, h7, h8, h9, h10⟩ := e2
      subst h1 h2 h3 h4 h5 h6 h8 h9 h10
      match n7, h7 with
      | [(y, cc)], h7 =>
        obtain rfl : y = "__class__" := (List.cons.inj h7).1
        simp only [Bool.and_eq_true] at c19
        obtain ⟨⟨k1, k2⟩, k3⟩ := c19
        have k1' : codeIn K n13 d.q = true := k1
        obtain ⟨cda, rfl⟩ : ∃ c, n13 = .ref c := by
          cases n13 with
          | ref c => exact ⟨c, rfl⟩
          | _ => cases k1'
        refine ⟨oc, od, n10, n11, n12, cda, n14, osl, cc, d.txt, d.k, d.p, d.p1, d.p2, ho, k1', ?_, c20, cellB_ok k3, fun a b => hb _ _ _ _ _ _ _ _⟩
        rw [hf]
        exact fileB_ok k2
    · cases c19
  · unfold fldB at c21
    simp only [Bool.and_eq_true, beq_iff_eq] at c21
    exact c21
theorem ExD.toTxt0 {P : Program} {K : Frag} {h : Heap} {mg : Str → Option Value} {d : ExD} {file : Str} (X : K.In h) (G : h.Ns mainGlobals mg) (e : fnC K (ma K (ga K d.x) "__init__") = d.val) (c : d.ok file K = true) (hf : P.main.file = file) (hz : d.z = true)
    (topS : (P.main.scope.names.lookup ("super" : Str)).isSome = false)
    (hb : ∀ (doc pm : Value) (an : Option Addr) (cdv ct : Value) (cc : Addr) (a : Value), bindArgs (ksFn "__init__" d.q (xArgs0 d.p1) (xBody0 d.txt d.k d.p) xScope0 .none .none doc pm an cdv ct cc) ⟨[a], []⟩ = pure [(("self" : Str), a)]) :
    ExcTxt0 P K mg d.x d.q (ga K d.x) (ma K (ga K d.x) "__init__") := by
  unfold ExD.ok at c
  simp only [Bool.and_eq_true] at c
  obtain ⟨c1, c2, c3, c4, c5, c6, c7, c8, c9, c10, c11, c12, c13, c14, c15, c16, c17, c18, c19, c20, c21⟩ := c
  refine { gC := mg_of X G (eqO_ok c1), base := ⟨_, _, _, _, b_base d.b, clsB_ok c2, of_decide_eq_true c11, eqO_ok c14, c15⟩, sa := eqO_ok c3, ga := eqO_ok c4, gg := eqO_ok c5, iC := eqO_ok c7, tC := of_decide_eq_true c8, kC := c9, exC := of_decide_eq_true c10,
           tyC := of_decide_eq_true c12, hdC := c13, self := of_decide_eq_true c16, third := eqO_ok c17, noS := eqO_ok c18, fn := ?_, topS := topS }
  · unfold initB at c19
    unfold fnC at e
    split at c19
    · rename_i oc od fd osl ho
      rw [ho] at e
      obtain ⟨n1, n2, n3, n4, n5, n6, n7, n8, n9, n10, n11, n12, n13, n14, n15⟩ := fd
      have e2 : (some (n1, n2, n3, n4, n5, n6, n7.map (·.1), n8, n9, n15) : FnC) = d.val := e
      unfold ExD.val at e2
      rw [hz] at e2
      simp only [Option.some.injEq, Prod.mk.injEq] at e2
      obtain ⟨h1, h2, h3, h4, h5, h6, h7, h8, h9, h10⟩ := e2
      subst h1 h2 h3 h4 h5 h6 h8 h9 h10
      match n7, h7 with
      | [(y, cc)], h7 =>
        obtain rfl : y = "__class__" := (List.cons.inj h7).1
        simp only [Bool.and_eq_true] at c19
        obtain ⟨⟨k1, k2⟩, k3⟩ := c19
        have k1' : codeIn K n13 d.q = true := k1
        obtain ⟨cda, rfl⟩ : ∃ c, n13 = .ref c := by
          cases n13 with
          | ref c => exact ⟨c, rfl⟩
          | _ => cases k1'
        refine ⟨oc, od, n10, n11, n12, cda, n14, osl, cc, d.txt, d.k, d.p, d.p1, ho, k1', ?_, c20, cellB_ok k3, fun a => hb _ _ _ _ _ _ _⟩
        rw [hf]
        exact fileB_ok k2
    · cases c19
/-! the Hook -/
abbrev AlX : Type := Bool × List FnW × List FnC
def obsX (file : Str) (bs : List (Frag → Bool)) (fa : List Fa) (fn : List DefD) (ex : List ExD) (K : Frag) : AlX :=
  ((fa.all fun f => f.ok K) && ((fn.all fun d => d.ok K) && ((bs.all fun b => b K) && ex.all fun d => d.ok file K)), fn.map fun d => fnW K d.at_, ex.map fun d => fnC K (ma K (ga K d.x) "__init__"))
def valX (fn : List DefD) (ex : List ExD) : AlX := (true, fn.map DefD.val, ex.map ExD.val)
def SaysX (file : Str) (bs : List (Frag → Bool)) (fa : List Fa) (fn : List DefD) (ex : List ExD) (K : Frag) : Prop := obsX file bs fa fn ex K = valX fn ex
def obsXG (n : Nat) (file : Str) (bs : List (Frag → Bool)) (fa : List Fa) (fn : List DefD) (ex : List ExD) (g : Addr → Option Obj) : AlX := obsX file bs fa fn ex (frG g (asD g n ++ [cStatics, sysModules]))
def hookX (n : Nat) (file : Str) (bs : List (Frag → Bool)) (fa : List Fa) (fn : List DefD) (ex : List ExD) : Hook where
  α := AlX
  obs := fun s => obsXG n file bs fa fn ex s.heap.get?
  val := fun _ => valX fn ex
  says := fun _ h => ∃ K : Frag, K.In h ∧ SaysX file bs fa fn ex K
  of := fun _ _ e => ⟨_, frG_in, e⟩
  keeps := fun _ _ _ ⟨K, hK, c⟩ k => ⟨K, Frag.In.keeps hK k, c⟩
/-- the same over given addresses: no walk through the heap to find them -/
def obsYG (as : List Addr) (file : Str) (bs : List (Frag → Bool)) (fa : List Fa) (fn : List DefD) (ex : List ExD) (g : Addr → Option Obj) : AlX := obsX file bs fa fn ex (frG g as)
def hookY (as : List Addr) (file : Str) (bs : List (Frag → Bool)) (fa : List Fa) (fn : List DefD) (ex : List ExD) : Hook where
  α := AlX
  obs := fun s => obsYG as file bs fa fn ex s.heap.get?
  val := fun _ => valX fn ex
  says := fun _ h => ∃ K : Frag, K.In h ∧ SaysX file bs fa fn ex K
  of := fun _ _ e => ⟨_, frG_in, e⟩
  keeps := fun _ _ _ ⟨K, hK, c⟩ k => ⟨K, Frag.In.keeps hK k, c⟩
theorem obsYG_eq {as : List Addr} {file : Str} {bs : List (Frag → Bool)} {fa : List Fa} {fn : List DefD} {ex : List ExD} {g : Addr → Option Obj} {s : Shared} (h : ∀ a, g a = s.heap.get? a) : obsYG as file bs fa fn ex g = (hookY as file bs fa fn ex).obs s := by
  have e : g = s.heap.get? := funext h
  rw [e] <;> rfl
theorem obsXG_eq {n : Nat} {file : Str} {bs : List (Frag → Bool)} {fa : List Fa} {fn : List DefD} {ex : List ExD} {g : Addr → Option Obj} {s : Shared} (h : ∀ a, g a = s.heap.get? a) : obsXG n file bs fa fn ex g = (hookX n file bs fa fn ex).obs s := by
  have e : g = s.heap.get? := funext h
  rw [e] <;> rfl
section
variable {file : Str} {bs : List (Frag → Bool)} {fa : List Fa} {fn : List DefD} {ex : List ExD} {K : Frag}
theorem SaysX.all (c : SaysX file bs fa fn ex K) : ((fa.all fun f => f.ok K) && ((fn.all fun d => d.ok K) && ((bs.all fun b => b K) && ex.all fun d => d.ok file K))) = true := congrArg (fun z : AlX => z.1) c
theorem SaysX.fact (c : SaysX file bs fa fn ex K) (i : Nat) {f : Fa} (h : fa[i]? = some f := by rfl) : f.ok K = true := List.all_eq_true.mp (ba c.all).1 f (List.mem_of_getElem? h)
theorem SaysX.test (c : SaysX file bs fa fn ex K) (i : Nat) {b : Frag → Bool} (h : bs[i]? = some b := by rfl) : b K = true := List.all_eq_true.mp (ba (ba (ba c.all).2).2).1 b (List.mem_of_getElem? h)
theorem SaysX.def_ (c : SaysX file bs fa fn ex K) (i : Nat) {d : DefD} (h : fn[i]? = some d := by rfl) : ∃ fd, FunD K d.name d.qual d.params d.body d.scope (d.dvs K) (d.kws K) (fAd K d.at_) fd := by
  have c2 := (ba (ba c.all).2).1
  have e : fn.map (fun d => fnW K d.at_) = fn.map DefD.val := congrArg (fun z : AlX => z.2.1) c
  have e2 : (fn.map fun d => fnW K d.at_)[i]? = (fn.map DefD.val)[i]? := by rw [e]
  rw [List.getElem?_map, List.getElem?_map, h] at e2
  exact DefD.funD (Option.some.inj e2) (List.all_eq_true.mp c2 d (List.mem_of_getElem? h))
theorem SaysX.exc (c : SaysX file bs fa fn ex K) {P : Program} {h : Heap} {mg : Str → Option Value} (X : K.In h) (G : h.Ns mainGlobals mg) (hf : P.main.file = file) (topS : (P.main.scope.names.lookup ("super" : Str)).isSome = false) (i : Nat) {d : ExD} (hd : ex[i]? = some d := by rfl)
    (hb : ∀ (doc pm : Value) (an : Option Addr) (cdv ct : Value) (cc : Addr) (a b : Value), bindArgs (ksFn "__init__" d.q (xArgs d.fld d.p1 d.p2) (xBody d.fld d.txt d.k d.p) (xScope d.fld) .none .none doc pm an cdv ct cc) ⟨[a, b], []⟩ = pure [(("self" : Str), a), (d.fld, b)]) (hz : d.z = false := by rfl) :
    ExcTxt P K mg d.x d.q d.fld (ga K d.x) (ma K (ga K d.x) "__init__") := by
  have c2 := (ba (ba (ba c.all).2).2).2
  have e : ex.map (fun d => fnC K (ma K (ga K d.x) "__init__")) = ex.map ExD.val := congrArg (fun z : AlX => z.2.2) c
  have e2 : (ex.map fun d => fnC K (ma K (ga K d.x) "__init__"))[i]? = (ex.map ExD.val)[i]? := by rw [e]
  rw [List.getElem?_map, List.getElem?_map, hd] at e2
  exact ExD.toTxt X G (Option.some.inj e2) (List.all_eq_true.mp c2 d (List.mem_of_getElem? hd)) hf hz topS hb
theorem SaysX.exc0 (c : SaysX file bs fa fn ex K) {P : Program} {h : Heap} {mg : Str → Option Value} (X : K.In h) (G : h.Ns mainGlobals mg) (hf : P.main.file = file) (topS : (P.main.scope.names.lookup ("super" : Str)).isSome = false) (i : Nat) {d : ExD} (hd : ex[i]? = some d := by rfl)
    (hb : ∀ (doc pm : Value) (an : Option Addr) (cdv ct : Value) (cc : Addr) (a : Value), bindArgs (ksFn "__init__" d.q (xArgs0 d.p1) (xBody0 d.txt d.k d.p) xScope0 .none .none doc pm an cdv ct cc) ⟨[a], []⟩ = pure [(("self" : Str), a)]) (hz : d.z = true := by rfl) :
    ExcTxt0 P K mg d.x d.q (ga K d.x) (ma K (ga K d.x) "__init__") := by
  have c2 := (ba (ba (ba c.all).2).2).2
  have e : ex.map (fun d => fnC K (ma K (ga K d.x) "__init__")) = ex.map ExD.val := congrArg (fun z : AlX => z.2.2) c
  have e2 : (ex.map fun d => fnC K (ma K (ga K d.x) "__init__"))[i]? = (ex.map ExD.val)[i]? := by rw [e]
  rw [List.getElem?_map, List.getElem?_map, hd] at e2
  exact ExD.toTxt0 X G (Option.some.inj e2) (List.all_eq_true.mp c2 d (List.mem_of_getElem? hd)) hf hz topS hb
end
def smB (K : Frag) : Bool := match K.lookup sysModules with
  | some ⟨.type c, _, _, _⟩ => c == "dict"
  | _ => false
theorem smB_ok {K : Frag} (h : smB K = true) : L2.HasSm K := by
  unfold smB at h
  split at h
  · rename_i c a b d e
    rw [beq_iff_eq] at h
    subst h
    exact ⟨_, e, rfl⟩
  · cases h
end EXV
end PySem

namespace L2
open PySem PySem.Spec PyProof.Rows
/-! ### try with several clauses, each by one name, with or without 'as'; clauses that are never reached may be of any form -/
inductive Cl where
  | one (c : Value) (ts : Addr → Value → Option Addr → TS)
  | as_ (c : Value) (i : Nat) (ts : Addr → Value → Option Addr → TS)
/-- the ends of a suite whose name goes at its end -/
abbrev goneE (i : Nat) (D : Ends) : Ends := { nx := fun σ' H' => D.nx (σ'.set i none) H', rt := D.rt, bk := fun σ' H' => D.bk (σ'.set i none) H', ct := fun σ' H' => D.ct (σ'.set i none) H' }
def wG (K : PySem.W.Frag) (D : Ends) : List Cl → WX
  | [] => fun _ _ _ _ => False
  | .one c ts :: r => fun cls d σ H => ∃ b, PySem.W.exmOne K cls c = some b ∧ (b = true → ∀ a, H a = none → ts a cls d D σ H) ∧ (b = false → wG K D r cls d σ H)
  | .as_ c i ts :: r => fun cls d σ H => ∃ b, PySem.W.exmOne K cls c = some b ∧ (b = true → ∀ a, H a = none → ts a cls d (goneE i D) (σ.set i (some (.ref a))) H) ∧ (b = false → wG K D r cls d σ H)
/-- a suite of a clause -/
abbrev SuOk (X : Cx) (suite : List Stmt) (ts : Addr → Value → Option Addr → TS) : Prop :=
  ∀ (a : Addr) (oe : Obj) (cls : Value) (d : Option Addr) (pn : List (Addr × Obj)), Zc cls d oe → (∃ vs, oe.data = .fields vs) → PSs (X.suite a ((a, oe) :: pn)) suite (ts a cls d)
inductive HdsG (X : Cx) : List ExceptHandler → List Cl → Prop
  | stop {hds : List ExceptHandler} : HdsG X hds []
  | one {x : Str} {c : Value} {ts : Addr → Value → Option Addr → TS} {b₀ : Stmt} {suite : List Stmt} {np pos' : Pos} {hds : List ExceptHandler} {l : List Cl} (hc : Names X x c) (hsu : SuOk X (b₀ :: suite) ts) (r : HdsG X hds l) :
      HdsG X (.ExceptHandler (some (.Name x np)) none (b₀ :: suite) pos' :: hds) (.one c ts :: l)
  | as_ {x n : Str} {c : Value} {i : Nat} {ts : Addr → Value → Option Addr → TS} {b₀ : Stmt} {suite : List Stmt} {np pos' : Pos} {hds : List ExceptHandler} {l : List Cl} (hN : X.N.Nodup) (hi : X.N[i]? = some n) (hln : X.env.kindOf n = some .local) (hc : Names X x c)
      (hsu : SuOk X (b₀ :: suite) ts) (r : HdsG X hds l) : HdsG X (.ExceptHandler (some (.Name x np)) (some n) (b₀ :: suite) pos' :: hds) (.as_ c i ts :: l)
section
variable {X : Cx} {body : List Stmt} {h₀ : ExceptHandler} {hds : List ExceptHandler} {l : List Cl} {pos : Pos} {tb : WX → TS}
theorem ps_tryG (hs : X.stack = X.env :: X.outer) (hf : X.env.frame = some X.env.locals)
    (hb : ∀ (W : WX) (pn : List (Addr × Obj)) (xe : Value → Shared → Prop), Takes (X.tr pn xe) W → PassesOwn (model X.prog X.w) X.A X.env xe → PSs (X.tr pn xe) body (tb W))
    (hh : HdsG X (h₀ :: hds) l) : PS X (.Try body (h₀ :: hds) [] [] pos) (fun D σ H => tb (wG X.K D l) D σ H) := by
  refine ⟨fun pins s σ H D I h => ?_⟩
  have ok := I.ok
  have hfr : X.A.frames = some (X.env :: X.outer) := by rw [ok.frames, hs]
  -- an end of the body, of a suite
  have done : ∀ {f : Flow} {s1 : Shared} {pn : List (Addr × Obj)} {xe : Value → Shared → Prop}, SP (X.tr (X.pn ++ pins) xe) pn D f s1 → SP X pins D f s1 := fun {f s1 pn xe} hsp => by
    cases f with
    | next => obtain ⟨σ', H', J', q⟩ := hsp; exact ⟨σ', H', J'.ofTry ok, q⟩
    | brk => obtain ⟨σ', H', J', q⟩ := hsp; exact ⟨σ', H', J'.ofTry ok, q⟩
    | cont => obtain ⟨σ', H', J', q⟩ := hsp; exact ⟨σ', H', J'.ofTry ok, q⟩
    | ret u => obtain ⟨v, σ', H', J', r, q⟩ := hsp; exact ⟨v, σ', H', J'.ofTry ok, r, q⟩
  refine wpAny_Try_except ?_
  refine wpAny_mono ((hb (wG X.K D l) (X.pn ++ pins) (fun e s₁ => wpAny (model X.prog X.w) X.A (noteFrame e X.env) (fun _ s₂ => wpAny (model X.prog X.w) X.A (setFlight e none) (fun _ s₃ =>
    wpAny (model X.prog X.w) X.A (handleBy e X.env (h₀ :: hds)) (SP X pins D) X.xe s₃) X.xe s₂) X.xe s₁) (fun u s' xx => ?_) PassesOwn.looking).run [] s σ H D (I.toTry _) h) (fun f s1 hsp => ?_) (fun e s1 he => he)
  · obtain ⟨a, B, sI, pins', σ', H', cls, d, rfl, J', nb, up, sky, na, os, ag, w⟩ := xx
    have J : Inv X pins σ' H' sI := J'.ofTry ok
    have sky' : Sky B (X.env :: X.outer) a (Zc cls d) X.env.locals s'.heap := by rw [← hs]; exact sky
    show wpAny (model X.prog X.w) X.A (noteFrame (.ref a) X.env) _ _ _
    refine Sky.land Zc.steady hfr hf sky' fun h3 fl3 up3 => ?_
    have J3 : Inv X pins σ' H' { s' with heap := h3 } := J.landed nb fl3.1 (up.trans up3) os ag
    obtain ⟨oe3, vs3, he3, hz3, hd3⟩ := fl3.there
    have nfr : a ∉ frs (X.env :: X.outer) := fun hm => by
      obtain ⟨_, o', e', hnf⟩ := fl3.2.2.1.mem hm
      rw [he3] at e'
      cases e'
      exact hnf _ hd3
    have nL : a ≠ X.env.locals := fun z => nfr (List.mem_filterMap.mpr ⟨X.env, List.mem_cons_self, by rw [hf, z]⟩)
    have nF : a ∉ X.fs := fun hm => by
      obtain ⟨e, he, q⟩ := List.mem_filterMap.mp hm
      exact nfr (List.mem_filterMap.mpr ⟨e, List.mem_cons_of_mem _ he, q⟩)
    have S3 := J3.suite he3 hd3 na nL nF
    have LT : PySem.W.Looks (model X.prog X.w) h3 (typeOf (.ref a)) cls := fun A Q E s k q => wpAny_typeOf_ref (k _ _ he3) (by rw [hz3.1]; exact q)
    have test : ∀ {x : Str} {np : Pos} {c : Value} {Q E : Value → Shared → Prop}, Names X x c → Q c { s' with heap := h3 } → wpAny (model X.prog X.w) (X.A.mark (some (.ref a))) (eval (.Name x np) X.env) Q E { s' with heap := h3 } := fun hc q => by
      obtain ⟨hg, hdbg, hm | ⟨hm, hv, hnn⟩⟩ := hc
      · exact ld_glob (X := X.suite a ((a, oe3) :: (X.pn ++ pins))) S3 hg hm q hdbg
      · exact ld_blt (X := X.suite a ((a, oe3) :: (X.pn ++ pins))) S3 hg hm hv q hnn hdbg
    have go : ∀ {hds' : List ExceptHandler} {l' : List Cl}, HdsG X hds' l' → wG X.K D l' cls d σ' H' → wpAny (model X.prog X.w) X.A (handleBy (.ref a) X.env hds') (SP X pins D) X.xe { s' with heap := h3 } := by
      intro hds' l' hk
      induction hk with
      | stop => exact fun w => False.elim w
      | one hc hsu r ih =>
        intro w
        obtain ⟨b, hb1, hyes, hno⟩ := w
        refine wpAny_handleBy_cons (codeAny_handlers_test ?_) (by intro q; cases q)
        refine test hc ((PySem.W.exm_one (M := model X.prog X.w) J3.kIn LT hb1).here ?_)
        cases b with
        | false => exact ih (hno rfl)
        | true =>
          refine codeAny_handlers_suite (HandSPX.lands_againZ fl3 fun h4 fl4 up4 => ?_)
          have J4 : Inv X pins σ' H' { s' with heap := h4 } := J.landed nb fl4.1 ((up.trans up3).trans up4) os ag
          obtain ⟨oe4, vs4, he4, hz4, hd4⟩ := fl4.there
          refine wpAny_mono ((hsu a oe4 cls d (X.pn ++ pins) hz4 ⟨_, hd4⟩).run [] _ _ H' _ (J4.suite he4 hd4 na nL nF) (hyes rfl a na)) (fun f s6 hsp => ?_) (fun _ _ z => False.elim z)
          cases f with
          | next => obtain ⟨σ6, H6, S6, q6⟩ := hsp; exact ⟨_, _, S6.unsuite ok, q6⟩
          | brk => obtain ⟨σ6, H6, S6, q6⟩ := hsp; exact ⟨_, _, S6.unsuite ok, q6⟩
          | cont => obtain ⟨σ6, H6, S6, q6⟩ := hsp; exact ⟨_, _, S6.unsuite ok, q6⟩
          | ret u => obtain ⟨v6, σ6, H6, S6, r6, q6⟩ := hsp; exact ⟨_, _, _, S6.unsuite ok, r6, q6⟩
      | as_ hN hi hln hc hsu r ih =>
        intro w
        obtain ⟨b, hb1, hyes, hno⟩ := w
        refine wpAny_handleBy_cons (codeAny_handlers_test ?_) (by intro q; cases q)
        refine test hc ((PySem.W.exm_one (M := model X.prog X.w) J3.kIn LT hb1).here ?_)
        cases b with
        | false => exact ih (hno rfl)
        | true =>
          refine codeAny_handlers_suite_as (HandSPX.lands_againZ fl3 fun h4 fl4 up4 => ?_)
          have J4 : Inv X pins σ' H' { s' with heap := h4 } := J.landed nb fl4.1 ((up.trans up3).trans up4) os ag
          obtain ⟨oe4, vs4, he4, hz4, hd4⟩ := fl4.there
          refine store_ok (X := X.suite a ((a, oe4) :: (X.pn ++ pins))) (v := .ref a) (J4.suite he4 hd4 na nL nF) hN hi (.inl hln) rfl (fun s5 S5 => ?_) (.inr hln)
          refine wpAny_mono ((hsu a oe4 cls d (X.pn ++ pins) hz4 ⟨_, hd4⟩).run [] s5 _ H' _ S5 (hyes rfl a na)) (fun f s6 hsp => ?_) (fun _ _ z => False.elim z)
          cases f with
          | next => obtain ⟨σ6, H6, S6, q6⟩ := hsp; exact gone_ok (S6.unsuite ok) hN hi hln fun s7 J7 => ⟨_, _, J7, q6⟩
          | brk => obtain ⟨σ6, H6, S6, q6⟩ := hsp; exact gone_ok (S6.unsuite ok) hN hi hln fun s7 J7 => ⟨_, _, J7, q6⟩
          | cont => obtain ⟨σ6, H6, S6, q6⟩ := hsp; exact gone_ok (S6.unsuite ok) hN hi hln fun s7 J7 => ⟨_, _, J7, q6⟩
          | ret u => obtain ⟨v6, σ6, H6, S6, r6, q6⟩ := hsp; exact gone_ok (S6.unsuite ok) hN hi hln fun s7 J7 => ⟨_, _, _, J7, r6, q6⟩
    exact go hh w
  · have r := done hsp
    cases f with
    | next => exact wpAny_execs_nil r
    | brk => exact r
    | cont => exact r
    | ret u => exact r
end
end L2

namespace PySem
namespace EXV
open PySem.W PySem.Calls PyProof.Rows PySem.Spec
section
variable {prog : Program} {w : World} {M : Model} {A : Around} {E : Value → Shared → Prop} {s : Shared} {K : Frag} {x C f : Addr} {ox : Obj} {od : Option Obj}
theorem ifBound_B {name : Str} {id : String} {args : List Value} {Q : Option Value → Shared → Prop} (X : K.In s.heap) (I : InstAt s.heap x ox C od) (hs : findIn K (.ref C) name = some (some (.builtin id)))
    (hb : ∀ self, bindSpecial (.builtin id) self = pure (.builtin id, [self])) (h : wpAny M A (call (.builtin id) (.ref x :: args)) (fun v => Q (some v)) E s) : wpAny M A (callSpecialIfBound? (.ref x) name args) Q E s := by
  simp only [callSpecialIfBound?, bindSpecialIfBound?]
  refine wpAny_holding (wpAny_bind (wpAny_bind (wpAny_bind (I.type.here ((looks_findIn X hs).here ?_)))))
  refine wpAny_bind (wpAny_askSetting (wpAny_ite ?_))
  have fin : wpAny M A (call (.builtin id) ([.ref x] ++ args) >>= fun v => pure (some v)) Q E s := wpAny_bind (wpAny_mono h (fun v s' h' => wpAny_pure h') fun _ _ h' => h')
  split
  · exact wpAny_bind ((Looks.of_pure (hb _)).here (wpAny_pure (by exact fin)))
  · exact wpAny_tryCatch (wpAny_bind ((Looks.of_pure (hb _)).here (wpAny_pure (by exact fin))))
open Builtin in
/-- x != b, x's class has its own __eq__, object's __ne__ -/
theorem ne_K {b tb : Value} {Q : Value → Shared → Prop} (hu : A.units + 1 < cLine) (X : K.In s.heap) (I : InstAt s.heap x ox C od) (hb : Looks (model prog w) s.heap (typeOf b) tb) (hn : notFirst K C tb = true)
    (hne : findIn K (.ref C) "__ne__" = some (some (.builtin "object.__ne__"))) (hm : mroIn K C (.type "object") = some true) (hs : findIn K (.ref C) "__eq__" = some (some (.ref f))) (hf : isFn K (.ref f) = true)
    (h : wpAny (model prog w) A.in1 (call (.ref f) [.ref x, b]) (fun v s' => ∃ r, v = .bool r ∧ Q (.bool (!r)) s') E s) : wpAny (model prog w) A (richCompare .NotEq (.ref x) b) Q E s := by
  have entry : wpAny (model prog w) A.in1 (Builtin.«object.__ne__» ⟨[.ref x, b], []⟩) (fun fin s' => ∃ v, fin = .done (.ret v) ∧ ∃ r, v = .bool (!r) ∧ Q (.bool (!r)) s') E s := by
    unfold Builtin.«object.__ne__»
    repeat (first
      | with_reducible refine wpAny_cRoomFor (by show A.units + 1 < cLine; exact hu) ?_
      | (refine wpAny_bind (m := callSpecialIfBound? (.ref x) (Str.ofString "__eq__") [b])
          (ifBound_K X I hs hf (wpAny_mono h (fun r s' hr => by
            obtain ⟨r, rfl, hq⟩ := hr
            repeat (first | exact ⟨_, rfl, _, rfl, hq⟩ | exact wpAny_pure ⟨_, rfl, _, rfl, hq⟩ | exact wpAny_truthy_bool ⟨_, rfl, _, rfl, hq⟩ | (refine wpAny_bind (m := truthy (.bool _)) (wpAny_truthy_bool ?_)) | wp_step)) fun _ _ e => e)))
      | wp_step)
  have one : wpAny (model prog w) A (tryCompare (.ref x) "__ne__" b) (fun r s' => ∃ v, r = some v ∧ Q v s') E s := by
    unfold tryCompare
    refine wpAny_bind (ifBound_B X I hne PySem.F.slot_object_ne.bind (wpAny_call (codeAny_call_builtin PySem.F.slot_object_ne.plain PySem.F.entry_object_ne
      (check_slot (i := "object.__ne__") (owner := "object") (n := "__ne__") (by decide +kernel) (by decide +kernel) (I.type.andThen (looks_mroIn X hm)) (PySem.F.args_object_ne_2 _ _) (wpAny_mono entry (fun fin s' z => ?_) fun _ _ z => z)))))
    obtain ⟨v, rfl, r, rfl, q⟩ := z
    first | exact wpAny_pure ⟨_, rfl, q⟩ | (show wpAny _ _ _ _ _ _; exact wpAny_pure ⟨_, rfl, q⟩)
  unfold richCompare
  simp only [oneThing_ref]
  refine wpAny_holding (wpAny_bind (wpAny_cRoomFor (Nat.lt_of_succ_lt hu) ?_))
  rw [cmpInfo_NotEq]
  dsimp only
  refine wpAny_bind (I.type.here (wpAny_bind (hb.here ?_)))
  split
  · rename_i q
    have e : subIn K tb (.ref C) = some false := by
      rcases Bool.or_eq_true_iff.mp hn with e | e
      · rw [beq_iff_eq.mp e] at q; simp at q
      · exact beq_iff_eq.mp e
    refine wpAny_bind ((looks_subIn X e).here ?_)
    simp only [Bool.false_eq_true, if_false]
    refine wpAny_bind (wpAny_mono one (fun r s' z => ?_) fun _ _ e => e)
    obtain ⟨v, rfl, hq⟩ := z
    exact wpAny_pure hq
  · refine wpAny_bind (wpAny_pure ?_)
    simp only [Bool.false_eq_true, if_false]
    refine wpAny_bind (wpAny_mono one (fun r s' z => ?_) fun _ _ e => e)
    obtain ⟨v, rfl, hq⟩ := z
    exact wpAny_pure hq
end
end EXV
end PySem
namespace L2
open PySem PySem.Spec PyProof.Rows
section
variable {X : Cx} {CX : CXT} {k : Nat} {C f : Addr} {fd : FuncData} {ps : List Str} {sp : Sp} {E : XK}
/-- the callee runs at another depth of the same frames -/
theorem run_fnAt {A' : Around} {pins : List (Addr × Obj)} {σ : St} {H : Hp} {s : Shared} {Q : VK} {us : List Value} {vs : List V} (hfr : A'.frames = X.A.frames) (F : FnOk X.prog X.w X.K X.mg X.base CX k f fd ps sp) (hr : Room k A') (hb : Binds X.K fd ps []) (hx : Passes CX X E)
    (I : Inv X pins σ H s) (r : Vals vs us) (h : sp vs H Q E) : wpAny (model X.prog X.w) A' (call (.ref f) us) (EP X pins σ Q) X.xe s := by
  have e := I.env0
  have e0 : Env0 X.prog X.w X.K X.mg X.base A' X.stack s H := ⟨by rw [hfr]; exact e.frames, e.mod, e.bs, e.bsz, e.funs, e.frf, e.hok, e.bare⟩
  have b := hb s us I.kIn (by rw [List.append_nil, ← r.length]; exact F.len _ _ _ _ h)
  rw [List.append_nil] at b
  refine wpAny_call (codeAny_mono (F.run A' X.stack s H ⟨us, []⟩ us vs Q E hr e0 b r h) fun r s' hq => ?_)
  match r, hq with
  | .error e, hq => exact hx pins σ H s e s' I hq
  | .ok (.ret u), hq => exact I.after hq
  | .ok .next, hq => exact hq.elim
  | .ok .brk, hq => exact hq.elim
  | .ok .cont, hq => exact hq.elim
/-! ### own ==, != and str, with both answers, the other operand of any type -/
def rEqX (K : PySem.W.Frag) (C : Addr) (sp : Sp) (E : XK) : R2 := fun x y H Q => ∃ a dx fs t, x = .ref a ∧ H a = some (.ins C dx fs) ∧ TyX K H y t ∧ PySem.W.notFirst K C t = true ∧ sp [x, y] H (fun v H' => ∃ b, v = .bl b ∧ Q (.bl b) H') E
def rNeX (K : PySem.W.Frag) (C : Addr) (sp : Sp) (E : XK) : R2 := fun x y H Q => ∃ a dx fs t, x = .ref a ∧ H a = some (.ins C dx fs) ∧ TyX K H y t ∧ PySem.W.notFirst K C t = true ∧ sp [x, y] H (fun v H' => ∃ b, v = .bl b ∧ Q (.bl (!b)) H') E
def rStrX (C : Addr) (sp : Sp) (E : XK) : List V → Hp → VK → Prop := fun xs H Q => ∃ a dx fs, xs = [.ref a] ∧ H a = some (.ins C dx fs) ∧ sp [.ref a] H (fun v H' => ∃ b, v = .str b ∧ Q (.str b) H') E
theorem op_eqX (F : FnOk X.prog X.w X.K X.mg X.base CX k f fd ps sp) (hr : Room k X.A) (hb : Binds X.K fd ps []) (hx : Passes CX X E) (hs : PySem.W.findIn X.K (.ref C) "__eq__" = some (some (.ref f))) (hf : PySem.W.isFn X.K (.ref f) = true) :
    OpR X (compareOp .Eq) (rEqX X.K C sp E) := by
  intro pins s σ H x y v u Q I rx ry h
  obtain ⟨a, dx, fs, t, rfl, ha, ty, hn, hsp⟩ := h
  cases rx
  obtain ⟨mA, J, _⟩ := ins_get I.hok ha
  obtain ⟨od, J, _⟩ := J.look
  obtain ⟨m, hF⟩ := I.fr
  obtain ⟨P, Z, p, _⟩ := kit_of I ry ty
  refine PySem.W.cmp_K (op := .Eq) (tb := t) hr.units0 hF I.ok.mod.kin J (Z.ty _ _ I.kIn p) hn hs hf ?_
  refine wpAny_mono (run_fnAt (vs := [.ref a, y]) rfl F hr hb hx I (.cons rfl (.cons ry .nil)) hsp) (fun w s' z => ?_) fun _ _ z => z
  obtain ⟨v', H', I', rv, b, rfl, q⟩ := z
  obtain rfl : w = .bool b := rv
  exact ⟨.bl b, H', I', rfl, q⟩
theorem op_neX (F : FnOk X.prog X.w X.K X.mg X.base CX k f fd ps sp) (hr : Room (k + 1) X.A) (hb : Binds X.K fd ps []) (hx : Passes CX X E) (hne : PySem.W.findIn X.K (.ref C) "__ne__" = some (some (.builtin "object.__ne__"))) (hm : PySem.W.mroIn X.K C (.type "object") = some true)
    (hs : PySem.W.findIn X.K (.ref C) "__eq__" = some (some (.ref f))) (hf : PySem.W.isFn X.K (.ref f) = true) : OpR X (compareOp .NotEq) (rNeX X.K C sp E) := by
  intro pins s σ H x y v u Q I rx ry h
  obtain ⟨a, dx, fs, t, rfl, ha, ty, hn, hsp⟩ := h
  cases rx
  obtain ⟨mA, J, _⟩ := ins_get I.hok ha
  obtain ⟨od, J, _⟩ := J.look
  obtain ⟨P, Z, p, _⟩ := kit_of I ry ty
  refine PySem.EXV.ne_K (by have := hr.un; omega) I.kIn J (Z.ty _ _ I.kIn p) hn hne hm hs hf ?_
  refine wpAny_mono (run_fnAt (vs := [.ref a, y]) rfl F hr.in1 hb hx I (.cons rfl (.cons ry .nil)) hsp) (fun w s' z => ?_) fun _ _ z => z
  obtain ⟨v', H', I', rv, b, rfl, q⟩ := z
  obtain rfl : w = .bool b := rv
  exact ⟨b, rfl, .bl (!b), H', I', rfl, q⟩
theorem call_strX (F : FnOk X.prog X.w X.K X.mg X.base CX k f fd ps sp) (hr : Room (k + 2) X.A) (hb : Binds X.K fd ps []) (hx : Passes CX X E) (hs : PySem.W.findIn X.K (.ref C) "__str__" = some (some (.ref f))) (hf : PySem.W.isFn X.K (.ref f) = true) :
    CallR X (.type "str") (rStrX C sp E) := by
  intro pins s σ H xs us Q I r h
  obtain ⟨a, dx, fs, rfl, ha, hsp⟩ := h
  obtain ⟨u, rfl, ru⟩ := vals1 r
  cases ru
  obtain ⟨mA, J, _⟩ := ins_get I.hok ha
  obtain ⟨od, J, _⟩ := J.look
  refine PySem.W.kso_call hr.in1.in1.units0 I.kIn J hs hf ?_
  refine wpAny_mono (run_fnAt (vs := [.ref a]) rfl F hr.in1.in1 hb hx I (.cons rfl .nil) hsp) (fun w s' z => ?_) fun _ _ z => z
  obtain ⟨v', H', I', rv, b, rfl, q⟩ := z
  obtain ⟨t, rfl⟩ := rv
  exact ⟨.str b, H', I', ⟨t, rfl⟩, q⟩
end
end L2

namespace PySem
namespace EXV
open L2
/-- an own error class's text, read off its __init__ -/
def exdOf (x q fld txt : Str) (st : Stmt) (b : Nat := 0) : ExD :=
  match defBody st, (defArgs st).args with
  | [.Expr (.Call (.Attribute (.Call (.Name _ a0) _ _ a1) _ a2) [.Constant _ k a3] _ a4) a5, .Assign [.Attribute (.Name _ a6) _ a7] (.Name _ a8) a9], [u, v] =>
    ⟨x, q, fld, txt, k, fun i => [a0, a1, a2, a3, a4, a5, a6, a7, a8, a9].getD i a0, u.pos, v.pos, b, false⟩
  | _, _ => ⟨x, q, fld, txt, 0, fun _ => ⟨0, 0, 0, 0⟩, ⟨0, 0, 0, 0⟩, ⟨0, 0, 0, 0⟩, b, false⟩
/-- .. of an __init__ without arguments -/
def exdOf0 (x q txt : Str) (st : Stmt) (b : Nat := 0) : ExD :=
  match defBody st, (defArgs st).args with
  | [.Expr (.Call (.Attribute (.Call (.Name _ a0) _ _ a1) _ a2) [.Constant _ k a3] _ a4) a5], [u] =>
    ⟨x, q, "", txt, k, fun i => [a0, a1, a2, a3, a4, a5].getD i a0, u.pos, u.pos, b, true⟩
  | _, _ => ⟨x, q, "", txt, 0, fun _ => ⟨0, 0, 0, 0⟩, ⟨0, 0, 0, 0⟩, ⟨0, 0, 0, 0⟩, b, true⟩
end EXV
end PySem
namespace L2
open PySem PySem.Spec PyProof.Rows
/-! ### making an instance, the wish of what is raised at the caller's slots -/
def tMakeS (C : Addr) (sp : Sp) (dvs : List V) (E : St → XK) (t : TA) : TE := fun σ H Q => t σ H fun vs H1 => ∀ x dx, H1 x = none → H1 dx = none → dx ≠ x →
  sp (.ref x :: (vs ++ dvs)) (upd (upd H1 dx (.own x)) x (.ins C dx [])) (fun v H2 => v = .non ∧ Q (.ref x) H2) (E σ)
section
variable {X : Cx} {CX : CXT} {k : Nat} {f C : Addr} {fd : FuncData} {ps : List Str} {sp : Sp} {dvs : List V} {ds : List Value} {E : St → XK} {x : Str} {p pos : Pos} {e : Expr} {es : List Expr} {t : TA}
theorem run_makeS {pins : List (Addr × Obj)} {σ : St} {H : Hp} {s : Shared} {Q : VK} {us : List Value} {vs : List V} (M : Mk X.K C f) (F : FnOk X.prog X.w X.K X.mg X.base CX k f fd ps sp) (hr : Room (k + 1) X.A) (hb : Binds X.K fd ps ds) (hd : Vals dvs ds)
    (hx : PassesAt CX X σ (E σ)) (I : Inv X pins σ H s) (r : Vals vs us)
    (h : ∀ x dx, H x = none → H dx = none → dx ≠ x → sp (.ref x :: (vs ++ dvs)) (upd (upd H dx (.own x)) x (.ins C dx [])) (fun v H2 => v = .non ∧ Q (.ref x) H2) (E σ)) :
    wpAny (model X.prog X.w) X.A (call (.ref C) us) (EP X pins σ Q) X.xe s := by
  have hq := h (s.heap.objs.size + 1) s.heap.objs.size (I.hok.fresh (Nat.le_succ _)) (I.hok.fresh (Nat.le_refl _)) (Nat.ne_of_lt (Nat.lt_succ_self _))
  have I2 := Inv.made (C := C) I
  have r2 : Vals (V.ref (s.heap.objs.size + 1) :: (vs ++ dvs)) (Value.ref (s.heap.objs.size + 1) :: (us ++ ds)) := .cons rfl (r.append hd)
  have hl : (Value.ref (s.heap.objs.size + 1) :: us ++ ds).length = ps.length := (r2.length.symm.trans (F.len _ _ _ _ hq))
  refine wpAny_call (make_map (f := f) I.kIn M.makes M.init (beq_iff_eq.mp M.fn) (codeAny_mono (F.run _ X.stack _ _ ⟨Value.ref (s.heap.objs.size + 1) :: us, []⟩ (Value.ref (s.heap.objs.size + 1) :: (us ++ ds)) _ _ (E σ) (hr.make C us [])
    (I2.env0.make C us []) (hb _ (Value.ref (s.heap.objs.size + 1) :: us) I2.kIn hl) r2 hq) fun r s' hq' => ?_))
  match r, hq' with
  | .error e, hq' => exact hx pins _ _ e s' I2 hq'
  | .ok (.ret u), hq' =>
    obtain ⟨v, H', I3, rv, rfl, q3⟩ := I2.after hq'
    exact ⟨rv, ⟨V.ref (s.heap.objs.size + 1), H', I3, rfl, q3⟩⟩
  | .ok .next, hq' => exact hq'.elim
  | .ok .brk, hq' => exact hq'.elim
  | .ok .cont, hq' => exact hq'.elim
theorem pe_makeS (M : Mk X.K C f) (F : FnOk X.prog X.w X.K X.mg X.base CX k f fd ps sp) (hr : Room (k + 1) X.A) (hg : Gl X x) (hm : X.mg x = some (.ref C)) (hb : Binds X.K fd ps ds) (hd : Vals dvs ds) (hx : ∀ σ, PassesAt CX X σ (E σ))
    (ha : PA X (e :: es) t) (hdb : (x == ("__debug__" : Str)) = false := by decide) (he : starEach (e :: es) X.env = (false, eval e X.env) :: starEach es X.env := by rfl) (hpl : (backTo pos (starEach es X.env)).any (·.1) = false := by rfl) :
    PE X (.Call (.Name x p) (e :: es) [] pos) (tMakeS C sp dvs E t) := by
  refine ⟨fun pins s σ H Q I h => wpAny_Call_Name_kw (ld_glob I hg hm ?_ hdb)⟩
  exact PySem.W.callWith_K (h₀ := X.base) I.ok.mod.kin M.kp (thn (ha.run pos pins s σ H _ I h) fun us s1 ⟨vs, H1, I1, r, q⟩ => ⟨I1.kIn, run_makeS M F hr hb hd (hx σ) I1 r q⟩) he hpl
end
/-- nothing is raised there -/
abbrev E0S : St → XK := fun _ => E0
theorem passS {X : Cx} : ∀ σ, PassesAt (L2.CX X.prog X.w) X σ (E0S σ) := fun _ pins H s e s' I h => passL pins _ H s e s' I h
theorem passS0 {X : Cx} : ∀ σ, PassesAt CX0 X σ (E0S σ) := fun _ _ _ _ _ _ _ h => h.elim
/-! ### an own class among the types -/
def tyNames : List String := ["NoneType", "int", "str", "bool", "list", "tuple", "dict"]
structure OwnC (K : PySem.W.Frag) (C : Addr) : Prop where
  cl : Cls K C
  ia : PySem.W.findIn K (.ref C) "__class__" = some (some (.builtin "object.__class__"))
  ig : PySem.W.specialIn K (.builtin "object.__class__") "__get__" = some (some (.builtin "getset_descriptor.__get__"))
  it : PySem.W.takesIn K (.builtin "object.__class__") = some true
  ob : PySem.W.mroIn K C (.type "object") = some true
  ne : PySem.W.findIn K (.ref C) "__ne__" = some (some (.builtin "object.__ne__"))
  to : ∀ n ∈ ["int", "str", "bool", "list", "tuple", "dict"], PySem.W.kitOne K (.ref C) (.type n) = some false
  fr : ∀ n ∈ tyNames, PySem.W.kitOne K (.type n) (.ref C) = some false
  nf : ∀ n ∈ tyNames, PySem.W.notFirst K C (.type n) = true
  me : PySem.W.kitOne K (.ref C) (.ref C) = some true
  nm : PySem.W.notFirst K C (.ref C) = true
def ownB (K : PySem.W.Frag) (x : Str) : Bool :=
  let C := He.ga K x
  (He.Fa.cls x).ok K && (He.eqO (PySem.W.findIn K (.ref C) "__class__") (some (some (.builtin "object.__class__"))) && (He.eqO (PySem.W.specialIn K (.builtin "object.__class__") "__get__") (some (some (.builtin "getset_descriptor.__get__"))) &&
  (decide (PySem.W.takesIn K (.builtin "object.__class__") = some true) && (decide (PySem.W.mroIn K C (.type "object") = some true) && (He.eqO (PySem.W.findIn K (.ref C) "__ne__") (some (some (.builtin "object.__ne__"))) &&
  ((["int", "str", "bool", "list", "tuple", "dict"].all fun n => decide (PySem.W.kitOne K (.ref C) (.type n) = some false)) && ((tyNames.all fun n => decide (PySem.W.kitOne K (.type n) (.ref C) = some false)) && ((tyNames.all fun n => PySem.W.notFirst K C (.type n)) &&
  (decide (PySem.W.kitOne K (.ref C) (.ref C) = some true) && PySem.W.notFirst K C (.ref C))))))))))
theorem ownB_ok {K : PySem.W.Frag} {x : Str} (h : ownB K x = true) : OwnC K (He.ga K x) := by
  unfold ownB at h
  simp only [Bool.and_eq_true] at h
  obtain ⟨h1, h2, h3, h4, h5, h6, h7, h8, h9, h10, h11⟩ := h
  exact ⟨He.cls_ok h1, He.eqO_ok h2, He.eqO_ok h3, of_decide_eq_true h4, of_decide_eq_true h5, He.eqO_ok h6, fun n hn => of_decide_eq_true (List.all_eq_true.mp h7 n hn), fun n hn => of_decide_eq_true (List.all_eq_true.mp h8 n hn), fun n hn => List.all_eq_true.mp h9 n hn, of_decide_eq_true h10, h11⟩
theorem OwnC.ty {K : PySem.W.Frag} {C : Addr} (O : OwnC K C) {H : Hp} {a dx : Addr} {fs : List (Str × V)} (e : H a = some (.ins C dx fs)) : TyX K H (.ref a) (.ref C) := .base (.ins e O.cl O.ia O.ig O.it O.ob)
theorem Meth.found {X : PySem.W.Frag} {C f : Addr} {m : Str} (h : Meth X C m f) : PySem.W.findIn X (.ref C) m = some (some (.ref f)) := h.1
end L2

/-! module constants, an empty tuple as a default, room for tests of membership -/
namespace PySem
namespace EXV
open PySem.W L2
def conB (x : Str) (i : Int) (K : Frag) : Bool := match nsIn K mainGlobals x with
  | some (some (.int j _)) => decide (j = i)
  | _ => false
theorem conB_ok {K : Frag} {h : Heap} {mg : Str → Option Value} {x : Str} {i : Int} (X : K.In h) (G : h.Ns mainGlobals mg) (c : conB x i K = true) : ∃ t, mg x = some (.int i t) := by
  unfold conB at c
  split at c
  · rename_i j t e
    exact ⟨t, by rw [mg_of X G e, of_decide_eq_true c]⟩
  · cases c
/-- an empty tuple of the written part -/
def IsE (K : Frag) (a : Addr) : Prop := ∃ (o : Obj) (n : Nat), K.lookup a = some o ∧ o.cls = .type "tuple" ∧ o.data = .seq #[] n
theorem IsE.sq {K : Frag} {a : Addr} (h : IsE K a) (H : Hp) : SqT K H a [] := by
  obtain ⟨o, n, h1, h2, h3⟩ := h
  exact .inr ⟨o, #[], n, h1, h2, h3, Nat.zero_le _, .nil⟩
def isEB (K : Frag) (a : Addr) : Bool := match K.lookup a with
  | some ⟨.type c, _, .seq its _, _⟩ => c == "tuple" && its.isEmpty
  | _ => false
theorem isEB_ok {K : Frag} {a : Addr} (h : isEB K a = true) : IsE K a := by
  unfold isEB at h
  split at h
  · rename_i c d its n sl e
    obtain ⟨h1, h2⟩ := Bool.and_eq_true_iff.mp h
    rw [beq_iff_eq] at h1
    have h3 : its = #[] := by simpa using h2
    subst h1 h3
    exact ⟨_, n, e, rfl, rfl⟩
  · cases h
end EXV
end PySem
namespace L2
open PySem
theorem hu65 {A : Around} {k : Nat} (hr : Room k A) : A.units + 65 < cLine := by have := hr.un; omega
def rLenSeq (K : PySem.W.Frag) : List V → Hp → VK → Prop := fun xs H Q => ∃ p ys, xs = [.ref p] ∧ (SqL K H p ys ∨ SqT K H p ys) ∧ Q (.int ys.length) H
def rListOf (K : PySem.W.Frag) : List V → Hp → VK → Prop := fun xs H Q => ∃ p ys, xs = [.ref p] ∧ (SqL K H p ys ∨ SqT K H p ys) ∧ ∀ l, H l = none → Q (.ref l) (upd H l (.lst ys))
def rTupOf (K : PySem.W.Frag) : List V → Hp → VK → Prop := fun xs H Q => ∃ p ys, xs = [.ref p] ∧ ((SqL K H p ys ∧ ∀ l, H l = none → Q (.ref l) (upd H l (.tup ys))) ∨ (SqT K H p ys ∧ Q (.ref p) H))
theorem popP {α : Type} : ∀ {l : List α} {k : Nat} {y : α}, l[k]? = some y → (y :: l.eraseIdx k).Perm l
  | [], _, _, h => by simp at h
  | a :: r, 0, y, h => by
    simp at h
    subst h
    exact List.Perm.refl _
  | a :: r, k + 1, y, h => by
    have h2 := popP (l := r) (k := k) (y := y) (by simpa using h)
    exact (List.Perm.swap a y _).trans (h2.cons a)
end L2

namespace K46
open PySem PySem.Spec PyProof.Rows L2 TL
def top (i : Nat) : Stmt := PySem.Challenge.pw_resampler_k46_graphs_told.main.body.getD i (.Pass ⟨0, 0, 0, 0⟩)
abbrev s_is_list : Stmt := top 16
abbrev N_is_list : List Str := ["value", "low", "high"]
theorem sc_is_list : FnScope N_is_list ["value", "low", "high"] (defScope s_is_list) := ⟨rfl, rfl, rfl, by decide +kernel, rfl, by decide +kernel, by decide +kernel⟩
abbrev s_check_distinct : Stmt := top 17
abbrev N_check_distinct : List Str := ["names", "seen", "name"]
theorem sc_check_distinct : FnScope N_check_distinct ["names"] (defScope s_check_distinct) := ⟨rfl, rfl, rfl, by decide +kernel, rfl, by decide +kernel, by decide +kernel⟩
abbrev s_check_known : Stmt := top 18
abbrev N_check_known : List Str := ["value", "known"]
theorem sc_check_known : FnScope N_check_known ["value", "known"] (defScope s_check_known) := ⟨rfl, rfl, rfl, by decide +kernel, rfl, by decide +kernel, by decide +kernel⟩
abbrev s_is_name : Stmt := top 20
abbrev N_is_name : List Str := ["value", "letter"]
theorem sc_is_name : FnScope N_is_name ["value"] (defScope s_is_name) := ⟨rfl, rfl, rfl, by decide +kernel, rfl, by decide +kernel, by decide +kernel⟩
abbrev s_is_any_integer : Stmt := top 21
abbrev N_is_any_integer : List Str := ["value"]
theorem sc_is_any_integer : FnScope N_is_any_integer ["value"] (defScope s_is_any_integer) := ⟨rfl, rfl, rfl, by decide +kernel, rfl, by decide +kernel, by decide +kernel⟩
abbrev s_is_integer : Stmt := top 22
abbrev N_is_integer : List Str := ["value", "low", "high"]
theorem sc_is_integer : FnScope N_is_integer ["value", "low", "high"] (defScope s_is_integer) := ⟨rfl, rfl, rfl, by decide +kernel, rfl, by decide +kernel, by decide +kernel⟩
abbrev s_Ratio_init : Stmt := inClass (top 24) 0
abbrev N_Ratio_init : List Str := ["self", "numerator", "denominator", "divisor"]
theorem sc_Ratio_init : FnScope N_Ratio_init ["self", "numerator", "denominator"] (defScope s_Ratio_init) := ⟨rfl, rfl, rfl, by decide +kernel, rfl, by decide +kernel, by decide +kernel⟩
abbrev s_Problem_init : Stmt := inClass (top 28) 0
abbrev N_Problem_init : List Str := ["self", "variables", "events", "name", "size", "place", "scope", "bad_tuples", "_"]
theorem sc_Problem_init : FnScope N_Problem_init ["self", "variables", "events"] (defScope s_Problem_init) := ⟨rfl, rfl, rfl, by decide +kernel, rfl, by decide +kernel, by decide +kernel⟩
abbrev s__neighbors_of : Stmt := top 29
abbrev N__neighbors_of : List Str := ["event", "scopes", "found", "other", "scope", "variable"]
theorem sc__neighbors_of : FnScope N__neighbors_of ["event", "scopes"] (defScope s__neighbors_of) := ⟨rfl, rfl, rfl, by decide +kernel, rfl, by decide +kernel, by decide +kernel⟩
abbrev s__are_values : Stmt := top 30
abbrev N__are_values : List Str := ["value", "sizes", "item", "size"]
theorem sc__are_values : FnScope N__are_values ["value", "sizes"] (defScope s__are_values) := ⟨rfl, rfl, rfl, by decide +kernel, rfl, by decide +kernel, by decide +kernel⟩
abbrev s__check_variables : Stmt := top 31
abbrev N__check_variables : List Str := ["variables", "name", "_", "row"]
theorem sc__check_variables : FnScope N__check_variables ["variables"] (defScope s__check_variables) := ⟨rfl, rfl, rfl, by decide +kernel, rfl, by decide +kernel, by decide +kernel⟩
abbrev s__is_variable_row : Stmt := top 32
abbrev N__is_variable_row : List Str := ["row"]
theorem sc__is_variable_row : FnScope N__is_variable_row ["row"] (defScope s__is_variable_row) := ⟨rfl, rfl, rfl, by decide +kernel, rfl, by decide +kernel, by decide +kernel⟩
abbrev s__check_events : Stmt := top 33
abbrev N__check_events : List Str := ["events", "sizes", "names", "name", "scope", "bad_tuples", "row", "variable"]
theorem sc__check_events : FnScope N__check_events ["events", "sizes"] (defScope s__check_events) := ⟨rfl, rfl, rfl, by decide +kernel, rfl, by decide +kernel, by decide +kernel⟩
abbrev s__is_event_row : Stmt := top 34
abbrev N__is_event_row : List Str := ["row"]
theorem sc__is_event_row : FnScope N__is_event_row ["row"] (defScope s__is_event_row) := ⟨rfl, rfl, rfl, by decide +kernel, rfl, by decide +kernel, by decide +kernel⟩
abbrev s__check_scope : Stmt := top 35
abbrev N__check_scope : List Str := ["scope", "sizes", "item"]
theorem sc__check_scope : FnScope N__check_scope ["scope", "sizes"] (defScope s__check_scope) := ⟨rfl, rfl, rfl, by decide +kernel, rfl, by decide +kernel, by decide +kernel⟩
abbrev s__check_variable : Stmt := top 36
abbrev N__check_variable : List Str := ["value", "sizes"]
theorem sc__check_variable : FnScope N__check_variable ["value", "sizes"] (defScope s__check_variable) := ⟨rfl, rfl, rfl, by decide +kernel, rfl, by decide +kernel, by decide +kernel⟩
abbrev s__are_bad_tuples : Stmt := top 37
abbrev N__are_bad_tuples : List Str := ["bad_tuples", "sizes", "known", "values"]
theorem sc__are_bad_tuples : FnScope N__are_bad_tuples ["bad_tuples", "sizes"] (defScope s__are_bad_tuples) := ⟨rfl, rfl, rfl, by decide +kernel, rfl, by decide +kernel, by decide +kernel⟩
abbrev s_Graph_init : Stmt := inClass (top 40) 0
abbrev N_Graph_init : List Str := ["self", "names", "edges", "name", "other"]
theorem sc_Graph_init : FnScope N_Graph_init ["self", "names", "edges"] (defScope s_Graph_init) := ⟨rfl, rfl, rfl, by decide +kernel, rfl, by decide +kernel, by decide +kernel⟩
abbrev s_Graph_eq : Stmt := inClass (top 40) 1
abbrev N_Graph_eq : List Str := ["self", "other"]
theorem sc_Graph_eq : FnScope N_Graph_eq ["self", "other"] (defScope s_Graph_eq) := ⟨rfl, rfl, rfl, by decide +kernel, rfl, by decide +kernel, by decide +kernel⟩
abbrev s_Graph_len : Stmt := inClass (top 40) 2
abbrev N_Graph_len : List Str := ["self"]
theorem sc_Graph_len : FnScope N_Graph_len ["self"] (defScope s_Graph_len) := ⟨rfl, rfl, rfl, by decide +kernel, rfl, by decide +kernel, by decide +kernel⟩
abbrev s_Graph_repr : Stmt := inClass (top 40) 3
abbrev N_Graph_repr : List Str := ["self"]
theorem sc_Graph_repr : FnScope N_Graph_repr ["self"] (defScope s_Graph_repr) := ⟨rfl, rfl, rfl, by decide +kernel, rfl, by decide +kernel, by decide +kernel⟩
abbrev s_Graph_names : Stmt := inClass (top 40) 4
abbrev N_Graph_names : List Str := ["self"]
theorem sc_Graph_names : FnScope N_Graph_names ["self"] (defScope s_Graph_names) := ⟨rfl, rfl, rfl, by decide +kernel, rfl, by decide +kernel, by decide +kernel⟩
abbrev s_Graph_edges : Stmt := inClass (top 40) 5
abbrev N_Graph_edges : List Str := ["self", "names", "place", "one", "other"]
theorem sc_Graph_edges : FnScope N_Graph_edges ["self"] (defScope s_Graph_edges) := ⟨rfl, rfl, rfl, by decide +kernel, rfl, by decide +kernel, by decide +kernel⟩
abbrev s_Graph_are_adjacent : Stmt := inClass (top 40) 6
abbrev N_Graph_are_adjacent : List Str := ["self", "one", "other"]
theorem sc_Graph_are_adjacent : FnScope N_Graph_are_adjacent ["self", "one", "other"] (defScope s_Graph_are_adjacent) := ⟨rfl, rfl, rfl, by decide +kernel, rfl, by decide +kernel, by decide +kernel⟩
abbrev s_Graph_neighbors : Stmt := inClass (top 40) 7
abbrev N_Graph_neighbors : List Str := ["self", "name"]
theorem sc_Graph_neighbors : FnScope N_Graph_neighbors ["self", "name"] (defScope s_Graph_neighbors) := ⟨rfl, rfl, rfl, by decide +kernel, rfl, by decide +kernel, by decide +kernel⟩
abbrev s__check_graph_names : Stmt := top 41
abbrev N__check_graph_names : List Str := ["names", "place", "name"]
theorem sc__check_graph_names : FnScope N__check_graph_names ["names"] (defScope s__check_graph_names) := ⟨rfl, rfl, rfl, by decide +kernel, rfl, by decide +kernel, by decide +kernel⟩
abbrev s__check_edges : Stmt := top 42
abbrev N__check_edges : List Str := ["edges", "names", "place", "edge", "one", "other"]
theorem sc__check_edges : FnScope N__check_edges ["edges", "names"] (defScope s__check_edges) := ⟨rfl, rfl, rfl, by decide +kernel, rfl, by decide +kernel, by decide +kernel⟩
abbrev s_l_cell : Stmt := top 44
abbrev N_l_cell : List Str := ["_law_script", "_law_k"]
theorem sc_l_cell : FnScope N_l_cell ["_law_script", "_law_k"] (defScope s_l_cell) := ⟨rfl, rfl, rfl, by decide +kernel, rfl, by decide +kernel, by decide +kernel⟩
abbrev s_l_box : Stmt := top 45
abbrev N_l_box : List Str := ["_law_cell_here"]
theorem sc_l_box : FnScope N_l_box ["_law_cell_here"] (defScope s_l_box) := ⟨rfl, rfl, rfl, by decide +kernel, rfl, by decide +kernel, by decide +kernel⟩
abbrev s_l_take : Stmt := top 46
abbrev N_l_take : List Str := ["_law_box_here", "_law_many", "_law_digit", "_law_mixed"]
theorem sc_l_take : FnScope N_l_take ["_law_box_here", "_law_many"] (defScope s_l_take) := ⟨rfl, rfl, rfl, by decide +kernel, rfl, by decide +kernel, by decide +kernel⟩
abbrev s_l_names : Stmt := top 47
abbrev N_l_names : List Str := ["_law_box_here", "_law_many", "_law_letters", "_law_names_here", "_law_k", "_law_stem", "_law_word", "_law_spare", "_law_letter", "_law_j"]
theorem sc_l_names : FnScope N_l_names ["_law_box_here", "_law_many"] (defScope s_l_names) := ⟨rfl, rfl, rfl, by decide +kernel, rfl, by decide +kernel, by decide +kernel⟩
abbrev s_l_graph : Stmt := top 48
abbrev N_l_graph : List Str := ["_law_box_here", "_law_many", "_law_names_here", "_law_share", "_law_edges", "_law_at", "_law_other"]
theorem sc_l_graph : FnScope N_l_graph ["_law_box_here", "_law_many"] (defScope s_l_graph) := ⟨rfl, rfl, rfl, by decide +kernel, rfl, by decide +kernel, by decide +kernel⟩
abbrev s_l_handed : Stmt := top 49
abbrev N_l_handed : List Str := ["_law_box_here", "_law_names_here", "_law_edges", "_law_left", "_law_found", "_law_edge", "_law_at", "_law_other"]
theorem sc_l_handed : FnScope N_l_handed ["_law_box_here", "_law_names_here", "_law_edges"] (defScope s_l_handed) := ⟨rfl, rfl, rfl, by decide +kernel, rfl, by decide +kernel, by decide +kernel⟩
abbrev s_l_told_right : Stmt := top 50
abbrev N_l_told_right : List Str := ["_law_graph_here", "_law_names_here", "_law_edges", "_law_turn", "_law_told", "_law_at", "_law_other", "_law_pairs", "_law_name", "_law_near", "_law_found"]
theorem sc_l_told_right : FnScope N_l_told_right ["_law_graph_here", "_law_names_here", "_law_edges"] (defScope s_l_told_right) := ⟨rfl, rfl, rfl, by decide +kernel, rfl, by decide +kernel, by decide +kernel⟩
abbrev s_l_equal_right : Stmt := top 51
abbrev N_l_equal_right : List Str := ["_law_box_here", "_law_graph_here", "_law_names_here", "_law_edges", "_law_spare", "_law_handed_here", "_law_pairs", "_law_at", "_law_other", "_law_pair", "_law_others", "_law_renamed", "_law_turned", "_law_free", "_law_letter", "_law_edge"]
theorem sc_l_equal_right : FnScope N_l_equal_right ["_law_box_here", "_law_graph_here", "_law_names_here", "_law_edges"] (defScope s_l_equal_right) := ⟨rfl, rfl, rfl, by decide +kernel, rfl, by decide +kernel, by decide +kernel⟩
abbrev s_law : Stmt := top 52
abbrev N_law : List Str := ["_law_script", "_law_k", "_law_box_here", "_law_names_here", "_law_edges", "_law_handed_here", "_law_some", "_law_kept", "_law_graph_here", "_law_twin", "_law_thing"]
theorem sc_law : FnScope N_law ["_law_script"] (defScope s_law) := ⟨rfl, rfl, rfl, by decide +kernel, rfl, by decide +kernel, by decide +kernel⟩
structure Txt (P : Program) (K : PySem.W.Frag) (mg : Str → Option Value) where
  e0 : Addr
  t_e0 : PySem.EXV.IsE K e0
  e1 : Addr
  t_e1 : PySem.EXV.IsE K e1
  C_Ratio : Addr
  g_Ratio : mg "Ratio" = some (.ref C_Ratio)
  C_Problem : Addr
  g_Problem : mg "Problem" = some (.ref C_Problem)
  C_Graph : Addr
  g_Graph : mg "Graph" = some (.ref C_Graph)
  f_is_list : Addr
  fd_is_list : FuncData
  F_is_list : FunD K "is_list" "is_list" (defArgs s_is_list) (defBody s_is_list) (defScope s_is_list) [] [] f_is_list fd_is_list
  g_is_list : mg "is_list" = some (.ref f_is_list)
  f_check_distinct : Addr
  fd_check_distinct : FuncData
  F_check_distinct : FunD K "check_distinct" "check_distinct" (defArgs s_check_distinct) (defBody s_check_distinct) (defScope s_check_distinct) [] [] f_check_distinct fd_check_distinct
  g_check_distinct : mg "check_distinct" = some (.ref f_check_distinct)
  f_check_known : Addr
  fd_check_known : FuncData
  F_check_known : FunD K "check_known" "check_known" (defArgs s_check_known) (defBody s_check_known) (defScope s_check_known) [] [] f_check_known fd_check_known
  g_check_known : mg "check_known" = some (.ref f_check_known)
  f_is_name : Addr
  fd_is_name : FuncData
  F_is_name : FunD K "is_name" "is_name" (defArgs s_is_name) (defBody s_is_name) (defScope s_is_name) [] [] f_is_name fd_is_name
  g_is_name : mg "is_name" = some (.ref f_is_name)
  f_is_any_integer : Addr
  fd_is_any_integer : FuncData
  F_is_any_integer : FunD K "is_any_integer" "is_any_integer" (defArgs s_is_any_integer) (defBody s_is_any_integer) (defScope s_is_any_integer) [] [] f_is_any_integer fd_is_any_integer
  g_is_any_integer : mg "is_any_integer" = some (.ref f_is_any_integer)
  f_is_integer : Addr
  fd_is_integer : FuncData
  F_is_integer : FunD K "is_integer" "is_integer" (defArgs s_is_integer) (defBody s_is_integer) (defScope s_is_integer) [] [] f_is_integer fd_is_integer
  g_is_integer : mg "is_integer" = some (.ref f_is_integer)
  f_Ratio_init : Addr
  fd_Ratio_init : FuncData
  F_Ratio_init : FunD K "__init__" "Ratio.__init__" (defArgs s_Ratio_init) (defBody s_Ratio_init) (defScope s_Ratio_init) [.int 1] [] f_Ratio_init fd_Ratio_init
  f_Problem_init : Addr
  fd_Problem_init : FuncData
  F_Problem_init : FunD K "__init__" "Problem.__init__" (defArgs s_Problem_init) (defBody s_Problem_init) (defScope s_Problem_init) [.ref e0] [] f_Problem_init fd_Problem_init
  f__neighbors_of : Addr
  fd__neighbors_of : FuncData
  F__neighbors_of : FunD K "_neighbors_of" "_neighbors_of" (defArgs s__neighbors_of) (defBody s__neighbors_of) (defScope s__neighbors_of) [] [] f__neighbors_of fd__neighbors_of
  g__neighbors_of : mg "_neighbors_of" = some (.ref f__neighbors_of)
  f__are_values : Addr
  fd__are_values : FuncData
  F__are_values : FunD K "_are_values" "_are_values" (defArgs s__are_values) (defBody s__are_values) (defScope s__are_values) [] [] f__are_values fd__are_values
  g__are_values : mg "_are_values" = some (.ref f__are_values)
  f__check_variables : Addr
  fd__check_variables : FuncData
  F__check_variables : FunD K "_check_variables" "_check_variables" (defArgs s__check_variables) (defBody s__check_variables) (defScope s__check_variables) [] [] f__check_variables fd__check_variables
  g__check_variables : mg "_check_variables" = some (.ref f__check_variables)
  f__is_variable_row : Addr
  fd__is_variable_row : FuncData
  F__is_variable_row : FunD K "_is_variable_row" "_is_variable_row" (defArgs s__is_variable_row) (defBody s__is_variable_row) (defScope s__is_variable_row) [] [] f__is_variable_row fd__is_variable_row
  g__is_variable_row : mg "_is_variable_row" = some (.ref f__is_variable_row)
  f__check_events : Addr
  fd__check_events : FuncData
  F__check_events : FunD K "_check_events" "_check_events" (defArgs s__check_events) (defBody s__check_events) (defScope s__check_events) [] [] f__check_events fd__check_events
  g__check_events : mg "_check_events" = some (.ref f__check_events)
  f__is_event_row : Addr
  fd__is_event_row : FuncData
  F__is_event_row : FunD K "_is_event_row" "_is_event_row" (defArgs s__is_event_row) (defBody s__is_event_row) (defScope s__is_event_row) [] [] f__is_event_row fd__is_event_row
  g__is_event_row : mg "_is_event_row" = some (.ref f__is_event_row)
  f__check_scope : Addr
  fd__check_scope : FuncData
  F__check_scope : FunD K "_check_scope" "_check_scope" (defArgs s__check_scope) (defBody s__check_scope) (defScope s__check_scope) [] [] f__check_scope fd__check_scope
  g__check_scope : mg "_check_scope" = some (.ref f__check_scope)
  f__check_variable : Addr
  fd__check_variable : FuncData
  F__check_variable : FunD K "_check_variable" "_check_variable" (defArgs s__check_variable) (defBody s__check_variable) (defScope s__check_variable) [] [] f__check_variable fd__check_variable
  g__check_variable : mg "_check_variable" = some (.ref f__check_variable)
  f__are_bad_tuples : Addr
  fd__are_bad_tuples : FuncData
  F__are_bad_tuples : FunD K "_are_bad_tuples" "_are_bad_tuples" (defArgs s__are_bad_tuples) (defBody s__are_bad_tuples) (defScope s__are_bad_tuples) [] [] f__are_bad_tuples fd__are_bad_tuples
  g__are_bad_tuples : mg "_are_bad_tuples" = some (.ref f__are_bad_tuples)
  f_Graph_init : Addr
  fd_Graph_init : FuncData
  F_Graph_init : FunD K "__init__" "Graph.__init__" (defArgs s_Graph_init) (defBody s_Graph_init) (defScope s_Graph_init) [.ref e1] [] f_Graph_init fd_Graph_init
  f_Graph_eq : Addr
  fd_Graph_eq : FuncData
  F_Graph_eq : FunD K "__eq__" "Graph.__eq__" (defArgs s_Graph_eq) (defBody s_Graph_eq) (defScope s_Graph_eq) [] [] f_Graph_eq fd_Graph_eq
  m_Graph_eq : Meth K C_Graph "__eq__" f_Graph_eq
  f_Graph_len : Addr
  fd_Graph_len : FuncData
  F_Graph_len : FunD K "__len__" "Graph.__len__" (defArgs s_Graph_len) (defBody s_Graph_len) (defScope s_Graph_len) [] [] f_Graph_len fd_Graph_len
  m_Graph_len : Meth K C_Graph "__len__" f_Graph_len
  f_Graph_repr : Addr
  fd_Graph_repr : FuncData
  F_Graph_repr : FunD K "__repr__" "Graph.__repr__" (defArgs s_Graph_repr) (defBody s_Graph_repr) (defScope s_Graph_repr) [] [] f_Graph_repr fd_Graph_repr
  m_Graph_repr : Meth K C_Graph "__repr__" f_Graph_repr
  f_Graph_names : Addr
  fd_Graph_names : FuncData
  F_Graph_names : FunD K "names" "Graph.names" (defArgs s_Graph_names) (defBody s_Graph_names) (defScope s_Graph_names) [] [] f_Graph_names fd_Graph_names
  m_Graph_names : Meth K C_Graph "names" f_Graph_names
  f_Graph_edges : Addr
  fd_Graph_edges : FuncData
  F_Graph_edges : FunD K "edges" "Graph.edges" (defArgs s_Graph_edges) (defBody s_Graph_edges) (defScope s_Graph_edges) [] [] f_Graph_edges fd_Graph_edges
  m_Graph_edges : Meth K C_Graph "edges" f_Graph_edges
  f_Graph_are_adjacent : Addr
  fd_Graph_are_adjacent : FuncData
  F_Graph_are_adjacent : FunD K "are_adjacent" "Graph.are_adjacent" (defArgs s_Graph_are_adjacent) (defBody s_Graph_are_adjacent) (defScope s_Graph_are_adjacent) [] [] f_Graph_are_adjacent fd_Graph_are_adjacent
  m_Graph_are_adjacent : Meth K C_Graph "are_adjacent" f_Graph_are_adjacent
  f_Graph_neighbors : Addr
  fd_Graph_neighbors : FuncData
  F_Graph_neighbors : FunD K "neighbors" "Graph.neighbors" (defArgs s_Graph_neighbors) (defBody s_Graph_neighbors) (defScope s_Graph_neighbors) [] [] f_Graph_neighbors fd_Graph_neighbors
  m_Graph_neighbors : Meth K C_Graph "neighbors" f_Graph_neighbors
  f__check_graph_names : Addr
  fd__check_graph_names : FuncData
  F__check_graph_names : FunD K "_check_graph_names" "_check_graph_names" (defArgs s__check_graph_names) (defBody s__check_graph_names) (defScope s__check_graph_names) [] [] f__check_graph_names fd__check_graph_names
  g__check_graph_names : mg "_check_graph_names" = some (.ref f__check_graph_names)
  f__check_edges : Addr
  fd__check_edges : FuncData
  F__check_edges : FunD K "_check_edges" "_check_edges" (defArgs s__check_edges) (defBody s__check_edges) (defScope s__check_edges) [] [] f__check_edges fd__check_edges
  g__check_edges : mg "_check_edges" = some (.ref f__check_edges)
  f_l_cell : Addr
  fd_l_cell : FuncData
  F_l_cell : FunD K "_law_cell" "_law_cell" (defArgs s_l_cell) (defBody s_l_cell) (defScope s_l_cell) [] [] f_l_cell fd_l_cell
  g_l_cell : mg "_law_cell" = some (.ref f_l_cell)
  f_l_box : Addr
  fd_l_box : FuncData
  F_l_box : FunD K "_law_box" "_law_box" (defArgs s_l_box) (defBody s_l_box) (defScope s_l_box) [] [] f_l_box fd_l_box
  g_l_box : mg "_law_box" = some (.ref f_l_box)
  f_l_take : Addr
  fd_l_take : FuncData
  F_l_take : FunD K "_law_take" "_law_take" (defArgs s_l_take) (defBody s_l_take) (defScope s_l_take) [] [] f_l_take fd_l_take
  g_l_take : mg "_law_take" = some (.ref f_l_take)
  f_l_names : Addr
  fd_l_names : FuncData
  F_l_names : FunD K "_law_names" "_law_names" (defArgs s_l_names) (defBody s_l_names) (defScope s_l_names) [] [] f_l_names fd_l_names
  g_l_names : mg "_law_names" = some (.ref f_l_names)
  f_l_graph : Addr
  fd_l_graph : FuncData
  F_l_graph : FunD K "_law_graph" "_law_graph" (defArgs s_l_graph) (defBody s_l_graph) (defScope s_l_graph) [] [] f_l_graph fd_l_graph
  g_l_graph : mg "_law_graph" = some (.ref f_l_graph)
  f_l_handed : Addr
  fd_l_handed : FuncData
  F_l_handed : FunD K "_law_handed" "_law_handed" (defArgs s_l_handed) (defBody s_l_handed) (defScope s_l_handed) [] [] f_l_handed fd_l_handed
  g_l_handed : mg "_law_handed" = some (.ref f_l_handed)
  f_l_told_right : Addr
  fd_l_told_right : FuncData
  F_l_told_right : FunD K "_law_told_right" "_law_told_right" (defArgs s_l_told_right) (defBody s_l_told_right) (defScope s_l_told_right) [] [] f_l_told_right fd_l_told_right
  g_l_told_right : mg "_law_told_right" = some (.ref f_l_told_right)
  f_l_equal_right : Addr
  fd_l_equal_right : FuncData
  F_l_equal_right : FunD K "_law_equal_right" "_law_equal_right" (defArgs s_l_equal_right) (defBody s_l_equal_right) (defScope s_l_equal_right) [] [] f_l_equal_right fd_l_equal_right
  g_l_equal_right : mg "_law_equal_right" = some (.ref f_l_equal_right)
  f_law : Addr
  fd_law : FuncData
  F_law : FunD K "law" "law" (defArgs s_law) (defBody s_law) (defScope s_law) [] [] f_law fd_law
  g_law : mg "law" = some (.ref f_law)
  cl_Ratio : Cls K C_Ratio
  mk_Ratio : Mk K C_Ratio f_Ratio_init
  na_Ratio__num : NoAttr K C_Ratio "_num"
  na_Ratio__den : NoAttr K C_Ratio "_den"
  cl_Problem : Cls K C_Problem
  mk_Problem : Mk K C_Problem f_Problem_init
  na_Problem__variables : NoAttr K C_Problem "_variables"
  na_Problem__sizes : NoAttr K C_Problem "_sizes"
  na_Problem__places : NoAttr K C_Problem "_places"
  na_Problem__events : NoAttr K C_Problem "_events"
  na_Problem__scopes : NoAttr K C_Problem "_scopes"
  na_Problem__bad_tuples : NoAttr K C_Problem "_bad_tuples"
  na_Problem__neighbors : NoAttr K C_Problem "_neighbors"
  cl_Graph : Cls K C_Graph
  mk_Graph : Mk K C_Graph f_Graph_init
  na_Graph__neighbors : NoAttr K C_Graph "_neighbors"
  ow_Problem : OwnC K C_Problem
  ow_Graph : OwnC K C_Graph
  ow_Ratio : OwnC K C_Ratio
  g_gcd : mg "gcd" = some (.builtin "math.gcd")
  sm : HasSm K
  kit_Ratio_Graph : PySem.W.kitOne K (.ref C_Ratio) (.ref C_Graph) = some false
  nf_Ratio_Graph : PySem.W.notFirst K C_Graph (.ref C_Ratio) = true
  kit_Problem_Graph : PySem.W.kitOne K (.ref C_Problem) (.ref C_Graph) = some false
  nf_Problem_Graph : PySem.W.notFirst K C_Graph (.ref C_Problem) = true
  n_all : mg "all" = none
  n_any : mg "any" = none
  n_bool : mg "bool" = none
  n_enumerate : mg "enumerate" = none
  n_int : mg "int" = none
  n_isinstance : mg "isinstance" = none
  n_len : mg "len" = none
  n_list : mg "list" = none
  n_max : mg "max" = none
  n_min : mg "min" = none
  n_range : mg "range" = none
  n_repr : mg "repr" = none
  n_sorted : mg "sorted" = none
  n_str : mg "str" = none
  n_tuple : mg "tuple" = none
  n_zip : mg "zip" = none
  c_MOST_EVENTS : ∃ t, mg "MOST_EVENTS" = some (.int 8 t)
  c_MOST_VARIABLES : ∃ t, mg "MOST_VARIABLES" = some (.int 8 t)
  c_MOST_NAMES : ∃ t, mg "MOST_NAMES" = some (.int 8 t)
theorem b_is_list {P : Program} {K : PySem.W.Frag} {mg : Str → Option Value} (T : Txt P K mg) : Binds K T.fd_is_list ["value", "low", "high"] [] := T.F_is_list.bindsN fun _ _ _ _ _ _ us hl => match us, hl with | [_, _, _], _ => rfl
theorem b_check_distinct {P : Program} {K : PySem.W.Frag} {mg : Str → Option Value} (T : Txt P K mg) : Binds K T.fd_check_distinct ["names"] [] := T.F_check_distinct.bindsN fun _ _ _ _ _ _ us hl => match us, hl with | [_], _ => rfl
theorem b_check_known {P : Program} {K : PySem.W.Frag} {mg : Str → Option Value} (T : Txt P K mg) : Binds K T.fd_check_known ["value", "known"] [] := T.F_check_known.bindsN fun _ _ _ _ _ _ us hl => match us, hl with | [_, _], _ => rfl
theorem b_is_name {P : Program} {K : PySem.W.Frag} {mg : Str → Option Value} (T : Txt P K mg) : Binds K T.fd_is_name ["value"] [] := T.F_is_name.bindsN fun _ _ _ _ _ _ us hl => match us, hl with | [_], _ => rfl
theorem b_is_any_integer {P : Program} {K : PySem.W.Frag} {mg : Str → Option Value} (T : Txt P K mg) : Binds K T.fd_is_any_integer ["value"] [] := T.F_is_any_integer.bindsN fun _ _ _ _ _ _ us hl => match us, hl with | [_], _ => rfl
theorem b_is_integer {P : Program} {K : PySem.W.Frag} {mg : Str → Option Value} (T : Txt P K mg) : Binds K T.fd_is_integer ["value", "low", "high"] [] := T.F_is_integer.bindsN fun _ _ _ _ _ _ us hl => match us, hl with | [_, _, _], _ => rfl
theorem b_Ratio_init_1 {P : Program} {K : PySem.W.Frag} {mg : Str → Option Value} (T : Txt P K mg) : ∃ ds, Vals (([.int 1] : List V).drop 0) ds ∧ Binds K T.fd_Ratio_init ["self", "numerator", "denominator"] ds := T.F_Ratio_init.binds1 (ps := ["self", "numerator", "denominator"]) 2 0 (by simp) (by rfl) fun _ _ _ _ _ _ _ us its h1 h2 => match us, its, h1, h2 with | [_, _], [_], _, _ => ⟨_, rfl, rfl⟩
theorem b_Ratio_init {P : Program} {K : PySem.W.Frag} {mg : Str → Option Value} (T : Txt P K mg) : Binds K T.fd_Ratio_init ["self", "numerator", "denominator"] [] := by
  obtain ⟨ds, v, b⟩ := T.F_Ratio_init.binds1 (ps := ["self", "numerator", "denominator"]) 3 1 (by simp) (by rfl) fun _ _ _ _ _ _ _ us its h1 h2 => match us, its, h1, h2 with | [_, _, _], [_], _, _ => ⟨_, rfl, rfl⟩
  cases v
  exact b
theorem b_Problem_init_1 {P : Program} {K : PySem.W.Frag} {mg : Str → Option Value} (T : Txt P K mg) : ∃ ds, Vals (([.ref T.e0] : List V).drop 0) ds ∧ Binds K T.fd_Problem_init ["self", "variables", "events"] ds := T.F_Problem_init.binds1 (ps := ["self", "variables", "events"]) 2 0 (by simp) (by rfl) fun _ _ _ _ _ _ _ us its h1 h2 => match us, its, h1, h2 with | [_, _], [_], _, _ => ⟨_, rfl, rfl⟩
theorem b_Problem_init {P : Program} {K : PySem.W.Frag} {mg : Str → Option Value} (T : Txt P K mg) : Binds K T.fd_Problem_init ["self", "variables", "events"] [] := by
  obtain ⟨ds, v, b⟩ := T.F_Problem_init.binds1 (ps := ["self", "variables", "events"]) 3 1 (by simp) (by rfl) fun _ _ _ _ _ _ _ us its h1 h2 => match us, its, h1, h2 with | [_, _, _], [_], _, _ => ⟨_, rfl, rfl⟩
  cases v
  exact b
theorem b__neighbors_of {P : Program} {K : PySem.W.Frag} {mg : Str → Option Value} (T : Txt P K mg) : Binds K T.fd__neighbors_of ["event", "scopes"] [] := T.F__neighbors_of.bindsN fun _ _ _ _ _ _ us hl => match us, hl with | [_, _], _ => rfl
theorem b__are_values {P : Program} {K : PySem.W.Frag} {mg : Str → Option Value} (T : Txt P K mg) : Binds K T.fd__are_values ["value", "sizes"] [] := T.F__are_values.bindsN fun _ _ _ _ _ _ us hl => match us, hl with | [_, _], _ => rfl
theorem b__check_variables {P : Program} {K : PySem.W.Frag} {mg : Str → Option Value} (T : Txt P K mg) : Binds K T.fd__check_variables ["variables"] [] := T.F__check_variables.bindsN fun _ _ _ _ _ _ us hl => match us, hl with | [_], _ => rfl
theorem b__is_variable_row {P : Program} {K : PySem.W.Frag} {mg : Str → Option Value} (T : Txt P K mg) : Binds K T.fd__is_variable_row ["row"] [] := T.F__is_variable_row.bindsN fun _ _ _ _ _ _ us hl => match us, hl with | [_], _ => rfl
theorem b__check_events {P : Program} {K : PySem.W.Frag} {mg : Str → Option Value} (T : Txt P K mg) : Binds K T.fd__check_events ["events", "sizes"] [] := T.F__check_events.bindsN fun _ _ _ _ _ _ us hl => match us, hl with | [_, _], _ => rfl
theorem b__is_event_row {P : Program} {K : PySem.W.Frag} {mg : Str → Option Value} (T : Txt P K mg) : Binds K T.fd__is_event_row ["row"] [] := T.F__is_event_row.bindsN fun _ _ _ _ _ _ us hl => match us, hl with | [_], _ => rfl
theorem b__check_scope {P : Program} {K : PySem.W.Frag} {mg : Str → Option Value} (T : Txt P K mg) : Binds K T.fd__check_scope ["scope", "sizes"] [] := T.F__check_scope.bindsN fun _ _ _ _ _ _ us hl => match us, hl with | [_, _], _ => rfl
theorem b__check_variable {P : Program} {K : PySem.W.Frag} {mg : Str → Option Value} (T : Txt P K mg) : Binds K T.fd__check_variable ["value", "sizes"] [] := T.F__check_variable.bindsN fun _ _ _ _ _ _ us hl => match us, hl with | [_, _], _ => rfl
theorem b__are_bad_tuples {P : Program} {K : PySem.W.Frag} {mg : Str → Option Value} (T : Txt P K mg) : Binds K T.fd__are_bad_tuples ["bad_tuples", "sizes"] [] := T.F__are_bad_tuples.bindsN fun _ _ _ _ _ _ us hl => match us, hl with | [_, _], _ => rfl
theorem b_Graph_init_1 {P : Program} {K : PySem.W.Frag} {mg : Str → Option Value} (T : Txt P K mg) : ∃ ds, Vals (([.ref T.e1] : List V).drop 0) ds ∧ Binds K T.fd_Graph_init ["self", "names", "edges"] ds := T.F_Graph_init.binds1 (ps := ["self", "names", "edges"]) 2 0 (by simp) (by rfl) fun _ _ _ _ _ _ _ us its h1 h2 => match us, its, h1, h2 with | [_, _], [_], _, _ => ⟨_, rfl, rfl⟩
theorem b_Graph_init {P : Program} {K : PySem.W.Frag} {mg : Str → Option Value} (T : Txt P K mg) : Binds K T.fd_Graph_init ["self", "names", "edges"] [] := by
  obtain ⟨ds, v, b⟩ := T.F_Graph_init.binds1 (ps := ["self", "names", "edges"]) 3 1 (by simp) (by rfl) fun _ _ _ _ _ _ _ us its h1 h2 => match us, its, h1, h2 with | [_, _, _], [_], _, _ => ⟨_, rfl, rfl⟩
  cases v
  exact b
theorem b_Graph_eq {P : Program} {K : PySem.W.Frag} {mg : Str → Option Value} (T : Txt P K mg) : Binds K T.fd_Graph_eq ["self", "other"] [] := T.F_Graph_eq.bindsN fun _ _ _ _ _ _ us hl => match us, hl with | [_, _], _ => rfl
theorem b_Graph_len {P : Program} {K : PySem.W.Frag} {mg : Str → Option Value} (T : Txt P K mg) : Binds K T.fd_Graph_len ["self"] [] := T.F_Graph_len.bindsN fun _ _ _ _ _ _ us hl => match us, hl with | [_], _ => rfl
theorem b_Graph_repr {P : Program} {K : PySem.W.Frag} {mg : Str → Option Value} (T : Txt P K mg) : Binds K T.fd_Graph_repr ["self"] [] := T.F_Graph_repr.bindsN fun _ _ _ _ _ _ us hl => match us, hl with | [_], _ => rfl
theorem b_Graph_names {P : Program} {K : PySem.W.Frag} {mg : Str → Option Value} (T : Txt P K mg) : Binds K T.fd_Graph_names ["self"] [] := T.F_Graph_names.bindsN fun _ _ _ _ _ _ us hl => match us, hl with | [_], _ => rfl
theorem b_Graph_edges {P : Program} {K : PySem.W.Frag} {mg : Str → Option Value} (T : Txt P K mg) : Binds K T.fd_Graph_edges ["self"] [] := T.F_Graph_edges.bindsN fun _ _ _ _ _ _ us hl => match us, hl with | [_], _ => rfl
theorem b_Graph_are_adjacent {P : Program} {K : PySem.W.Frag} {mg : Str → Option Value} (T : Txt P K mg) : Binds K T.fd_Graph_are_adjacent ["self", "one", "other"] [] := T.F_Graph_are_adjacent.bindsN fun _ _ _ _ _ _ us hl => match us, hl with | [_, _, _], _ => rfl
theorem b_Graph_neighbors {P : Program} {K : PySem.W.Frag} {mg : Str → Option Value} (T : Txt P K mg) : Binds K T.fd_Graph_neighbors ["self", "name"] [] := T.F_Graph_neighbors.bindsN fun _ _ _ _ _ _ us hl => match us, hl with | [_, _], _ => rfl
theorem b__check_graph_names {P : Program} {K : PySem.W.Frag} {mg : Str → Option Value} (T : Txt P K mg) : Binds K T.fd__check_graph_names ["names"] [] := T.F__check_graph_names.bindsN fun _ _ _ _ _ _ us hl => match us, hl with | [_], _ => rfl
theorem b__check_edges {P : Program} {K : PySem.W.Frag} {mg : Str → Option Value} (T : Txt P K mg) : Binds K T.fd__check_edges ["edges", "names"] [] := T.F__check_edges.bindsN fun _ _ _ _ _ _ us hl => match us, hl with | [_, _], _ => rfl
theorem b_l_cell {P : Program} {K : PySem.W.Frag} {mg : Str → Option Value} (T : Txt P K mg) : Binds K T.fd_l_cell ["_law_script", "_law_k"] [] := T.F_l_cell.bindsN fun _ _ _ _ _ _ us hl => match us, hl with | [_, _], _ => rfl
theorem b_l_box {P : Program} {K : PySem.W.Frag} {mg : Str → Option Value} (T : Txt P K mg) : Binds K T.fd_l_box ["_law_cell_here"] [] := T.F_l_box.bindsN fun _ _ _ _ _ _ us hl => match us, hl with | [_], _ => rfl
theorem b_l_take {P : Program} {K : PySem.W.Frag} {mg : Str → Option Value} (T : Txt P K mg) : Binds K T.fd_l_take ["_law_box_here", "_law_many"] [] := T.F_l_take.bindsN fun _ _ _ _ _ _ us hl => match us, hl with | [_, _], _ => rfl
theorem b_l_names {P : Program} {K : PySem.W.Frag} {mg : Str → Option Value} (T : Txt P K mg) : Binds K T.fd_l_names ["_law_box_here", "_law_many"] [] := T.F_l_names.bindsN fun _ _ _ _ _ _ us hl => match us, hl with | [_, _], _ => rfl
theorem b_l_graph {P : Program} {K : PySem.W.Frag} {mg : Str → Option Value} (T : Txt P K mg) : Binds K T.fd_l_graph ["_law_box_here", "_law_many"] [] := T.F_l_graph.bindsN fun _ _ _ _ _ _ us hl => match us, hl with | [_, _], _ => rfl
theorem b_l_handed {P : Program} {K : PySem.W.Frag} {mg : Str → Option Value} (T : Txt P K mg) : Binds K T.fd_l_handed ["_law_box_here", "_law_names_here", "_law_edges"] [] := T.F_l_handed.bindsN fun _ _ _ _ _ _ us hl => match us, hl with | [_, _, _], _ => rfl
theorem b_l_told_right {P : Program} {K : PySem.W.Frag} {mg : Str → Option Value} (T : Txt P K mg) : Binds K T.fd_l_told_right ["_law_graph_here", "_law_names_here", "_law_edges"] [] := T.F_l_told_right.bindsN fun _ _ _ _ _ _ us hl => match us, hl with | [_, _, _], _ => rfl
theorem b_l_equal_right {P : Program} {K : PySem.W.Frag} {mg : Str → Option Value} (T : Txt P K mg) : Binds K T.fd_l_equal_right ["_law_box_here", "_law_graph_here", "_law_names_here", "_law_edges"] [] := T.F_l_equal_right.bindsN fun _ _ _ _ _ _ us hl => match us, hl with | [_, _, _, _], _ => rfl
theorem b_law {P : Program} {K : PySem.W.Frag} {mg : Str → Option Value} (T : Txt P K mg) : Binds K T.fd_law ["_law_script"] [] := T.F_law.bindsN fun _ _ _ _ _ _ us hl => match us, hl with | [_], _ => rfl

end K46
namespace K46
open PySem PySem.Spec PyProof.Rows L2 TL
def d_is_list : He.DefD := ⟨("is_list", none), "is_list", "is_list", defArgs s_is_list, defBody s_is_list, defScope s_is_list, [], []⟩
def d_check_distinct : He.DefD := ⟨("check_distinct", none), "check_distinct", "check_distinct", defArgs s_check_distinct, defBody s_check_distinct, defScope s_check_distinct, [], []⟩
def d_check_known : He.DefD := ⟨("check_known", none), "check_known", "check_known", defArgs s_check_known, defBody s_check_known, defScope s_check_known, [], []⟩
def d_is_name : He.DefD := ⟨("is_name", none), "is_name", "is_name", defArgs s_is_name, defBody s_is_name, defScope s_is_name, [], []⟩
def d_is_any_integer : He.DefD := ⟨("is_any_integer", none), "is_any_integer", "is_any_integer", defArgs s_is_any_integer, defBody s_is_any_integer, defScope s_is_any_integer, [], []⟩
def d_is_integer : He.DefD := ⟨("is_integer", none), "is_integer", "is_integer", defArgs s_is_integer, defBody s_is_integer, defScope s_is_integer, [], []⟩
def d_Ratio_init : He.DefD := ⟨("Ratio", some "__init__"), "__init__", "Ratio.__init__", defArgs s_Ratio_init, defBody s_Ratio_init, defScope s_Ratio_init, [.int 1], []⟩
def d_Problem_init : He.DefD := ⟨("Problem", some "__init__"), "__init__", "Problem.__init__", defArgs s_Problem_init, defBody s_Problem_init, defScope s_Problem_init, [.adr (He.dflAt ("Problem", some "__init__") 0)], []⟩
def d__neighbors_of : He.DefD := ⟨("_neighbors_of", none), "_neighbors_of", "_neighbors_of", defArgs s__neighbors_of, defBody s__neighbors_of, defScope s__neighbors_of, [], []⟩
def d__are_values : He.DefD := ⟨("_are_values", none), "_are_values", "_are_values", defArgs s__are_values, defBody s__are_values, defScope s__are_values, [], []⟩
def d__check_variables : He.DefD := ⟨("_check_variables", none), "_check_variables", "_check_variables", defArgs s__check_variables, defBody s__check_variables, defScope s__check_variables, [], []⟩
def d__is_variable_row : He.DefD := ⟨("_is_variable_row", none), "_is_variable_row", "_is_variable_row", defArgs s__is_variable_row, defBody s__is_variable_row, defScope s__is_variable_row, [], []⟩
def d__check_events : He.DefD := ⟨("_check_events", none), "_check_events", "_check_events", defArgs s__check_events, defBody s__check_events, defScope s__check_events, [], []⟩
def d__is_event_row : He.DefD := ⟨("_is_event_row", none), "_is_event_row", "_is_event_row", defArgs s__is_event_row, defBody s__is_event_row, defScope s__is_event_row, [], []⟩
def d__check_scope : He.DefD := ⟨("_check_scope", none), "_check_scope", "_check_scope", defArgs s__check_scope, defBody s__check_scope, defScope s__check_scope, [], []⟩
def d__check_variable : He.DefD := ⟨("_check_variable", none), "_check_variable", "_check_variable", defArgs s__check_variable, defBody s__check_variable, defScope s__check_variable, [], []⟩
def d__are_bad_tuples : He.DefD := ⟨("_are_bad_tuples", none), "_are_bad_tuples", "_are_bad_tuples", defArgs s__are_bad_tuples, defBody s__are_bad_tuples, defScope s__are_bad_tuples, [], []⟩
def d_Graph_init : He.DefD := ⟨("Graph", some "__init__"), "__init__", "Graph.__init__", defArgs s_Graph_init, defBody s_Graph_init, defScope s_Graph_init, [.adr (He.dflAt ("Graph", some "__init__") 0)], []⟩
def d_Graph_eq : He.DefD := ⟨("Graph", some "__eq__"), "__eq__", "Graph.__eq__", defArgs s_Graph_eq, defBody s_Graph_eq, defScope s_Graph_eq, [], []⟩
def d_Graph_len : He.DefD := ⟨("Graph", some "__len__"), "__len__", "Graph.__len__", defArgs s_Graph_len, defBody s_Graph_len, defScope s_Graph_len, [], []⟩
def d_Graph_repr : He.DefD := ⟨("Graph", some "__repr__"), "__repr__", "Graph.__repr__", defArgs s_Graph_repr, defBody s_Graph_repr, defScope s_Graph_repr, [], []⟩
def d_Graph_names : He.DefD := ⟨("Graph", some "names"), "names", "Graph.names", defArgs s_Graph_names, defBody s_Graph_names, defScope s_Graph_names, [], []⟩
def d_Graph_edges : He.DefD := ⟨("Graph", some "edges"), "edges", "Graph.edges", defArgs s_Graph_edges, defBody s_Graph_edges, defScope s_Graph_edges, [], []⟩
def d_Graph_are_adjacent : He.DefD := ⟨("Graph", some "are_adjacent"), "are_adjacent", "Graph.are_adjacent", defArgs s_Graph_are_adjacent, defBody s_Graph_are_adjacent, defScope s_Graph_are_adjacent, [], []⟩
def d_Graph_neighbors : He.DefD := ⟨("Graph", some "neighbors"), "neighbors", "Graph.neighbors", defArgs s_Graph_neighbors, defBody s_Graph_neighbors, defScope s_Graph_neighbors, [], []⟩
def d__check_graph_names : He.DefD := ⟨("_check_graph_names", none), "_check_graph_names", "_check_graph_names", defArgs s__check_graph_names, defBody s__check_graph_names, defScope s__check_graph_names, [], []⟩
def d__check_edges : He.DefD := ⟨("_check_edges", none), "_check_edges", "_check_edges", defArgs s__check_edges, defBody s__check_edges, defScope s__check_edges, [], []⟩
def d_l_cell : He.DefD := ⟨("_law_cell", none), "_law_cell", "_law_cell", defArgs s_l_cell, defBody s_l_cell, defScope s_l_cell, [], []⟩
def d_l_box : He.DefD := ⟨("_law_box", none), "_law_box", "_law_box", defArgs s_l_box, defBody s_l_box, defScope s_l_box, [], []⟩
def d_l_take : He.DefD := ⟨("_law_take", none), "_law_take", "_law_take", defArgs s_l_take, defBody s_l_take, defScope s_l_take, [], []⟩
def d_l_names : He.DefD := ⟨("_law_names", none), "_law_names", "_law_names", defArgs s_l_names, defBody s_l_names, defScope s_l_names, [], []⟩
def d_l_graph : He.DefD := ⟨("_law_graph", none), "_law_graph", "_law_graph", defArgs s_l_graph, defBody s_l_graph, defScope s_l_graph, [], []⟩
def d_l_handed : He.DefD := ⟨("_law_handed", none), "_law_handed", "_law_handed", defArgs s_l_handed, defBody s_l_handed, defScope s_l_handed, [], []⟩
def d_l_told_right : He.DefD := ⟨("_law_told_right", none), "_law_told_right", "_law_told_right", defArgs s_l_told_right, defBody s_l_told_right, defScope s_l_told_right, [], []⟩
def d_l_equal_right : He.DefD := ⟨("_law_equal_right", none), "_law_equal_right", "_law_equal_right", defArgs s_l_equal_right, defBody s_l_equal_right, defScope s_l_equal_right, [], []⟩
def d_law : He.DefD := ⟨("law", none), "law", "law", defArgs s_law, defBody s_law, defScope s_law, [], []⟩
def fn : List He.DefD := [d_is_list, d_check_distinct, d_check_known, d_is_name, d_is_any_integer, d_is_integer, d_Ratio_init, d_Problem_init, d__neighbors_of, d__are_values, d__check_variables, d__is_variable_row, d__check_events, d__is_event_row, d__check_scope, d__check_variable, d__are_bad_tuples, d_Graph_init, d_Graph_eq, d_Graph_len, d_Graph_repr, d_Graph_names, d_Graph_edges, d_Graph_are_adjacent, d_Graph_neighbors, d__check_graph_names, d__check_edges, d_l_cell, d_l_box, d_l_take, d_l_names, d_l_graph, d_l_handed, d_l_told_right, d_l_equal_right, d_law]
def fa : List He.Fa := [.glo "is_list", .glo "check_distinct", .glo "check_known", .glo "is_name", .glo "is_any_integer", .glo "is_integer", .glo "_neighbors_of", .glo "_are_values", .glo "_check_variables", .glo "_is_variable_row", .glo "_check_events", .glo "_is_event_row", .glo "_check_scope", .glo "_check_variable", .glo "_are_bad_tuples", .glo "_check_graph_names", .glo "_check_edges", .glo "_law_cell", .glo "_law_box", .glo "_law_take", .glo "_law_names", .glo "_law_graph", .glo "_law_handed", .glo "_law_told_right", .glo "_law_equal_right", .glo "law", .glo "Ratio", .glo "Problem", .glo "Graph", .meth "Graph" "__eq__", .meth "Graph" "__len__", .meth "Graph" "__repr__", .meth "Graph" "names", .meth "Graph" "edges", .meth "Graph" "are_adjacent", .meth "Graph" "neighbors", .free "all", .free "any", .free "bool", .free "enumerate", .free "int", .free "isinstance", .free "len", .free "list", .free "max", .free "min", .free "range", .free "repr", .free "sorted", .free "str", .free "tuple", .free "zip", .cls "Ratio", .mkr "Ratio", .noat "Ratio" "_num", .noat "Ratio" "_den", .cls "Problem", .mkr "Problem", .noat "Problem" "_variables", .noat "Problem" "_sizes", .noat "Problem" "_places", .noat "Problem" "_events", .noat "Problem" "_scopes", .noat "Problem" "_bad_tuples", .noat "Problem" "_neighbors", .cls "Graph", .mkr "Graph", .noat "Graph" "_neighbors"]
abbrev R : PySem.W.OpenRow := PySem.W.OpenLaw.row PySem.Challenge.rw_resampler_k46_graphs_told
def exs : List PySem.EXV.ExD := []
def tests : List (PySem.W.Frag → Bool) := [(fun K => ownB K "Problem"), (fun K => ownB K "Graph"), (fun K => ownB K "Ratio"), (fun K => He.eqO (PySem.W.nsIn K mainGlobals "gcd") (some (some (.builtin "math.gcd")))), PySem.EXV.smB, (fun K => decide (PySem.W.kitOne K (.ref (He.ga K "Ratio")) (.ref (He.ga K "Graph")) = some false)), (fun K => PySem.W.notFirst K (He.ga K "Graph") (.ref (He.ga K "Ratio"))), (fun K => decide (PySem.W.kitOne K (.ref (He.ga K "Problem")) (.ref (He.ga K "Graph")) = some false)), (fun K => PySem.W.notFirst K (He.ga K "Graph") (.ref (He.ga K "Problem"))), (PySem.EXV.conB "MOST_EVENTS" 8), (PySem.EXV.conB "MOST_VARIABLES" 8), (PySem.EXV.conB "MOST_NAMES" 8), (fun K => PySem.EXV.isEB K (He.dflAt ("Problem", some "__init__") 0 K)), (fun K => PySem.EXV.isEB K (He.dflAt ("Graph", some "__init__") 0 K))]
def file : Str := PySem.Challenge.pw_resampler_k46_graphs_told.main.file
def asv : List PySem.Addr := [3, 420, 419, 595, 594, 718, 717, 292, 291, 299, 298, 306, 305, 311, 310, 318, 317, 325, 324, 340, 339, 333, 438, 437, 433, 604, 603, 609, 608, 614, 613, 621, 620, 626, 625, 633, 632, 640, 639, 647, 646, 654, 653, 668, 667, 663, 675, 674, 682, 681, 689, 688, 696, 695, 701, 700, 708, 707, 715, 714, 729, 728, 736, 735, 743, 742, 750, 749, 757, 756, 762, 761, 769, 768, 774, 773, 779, 778, 784, 783, 791, 790, 432, 662, 1, 2]
abbrev hk : PySem.W.Hook := PySem.EXV.hookY asv file tests fa fn exs
def ob (s : PySem.W.SharedT) : PySem.EXV.AlX := PySem.EXV.obsYG asv file tests fa fn exs (HandSHeadRun.getT s)
theorem ob_eq (s : PySem.W.SharedT) : ob s = hk.obs s.abs := PySem.EXV.obsYG_eq (HandSHeadRun.getT_eq s)
def loose : List Str := [("_wall" : Str), ("ResampleError" : Str), ("MissingError" : Str), ("InvalidName" : Str), ("InvalidInteger" : Str), ("InvalidRatio" : Str), ("InvalidVariables" : Str), ("InvalidEvents" : Str), ("InvalidGraph" : Str), ("DuplicateName" : Str), ("UnknownVariable" : Str), ("UnknownEvent" : Str), ("UnknownName" : Str), ("is_list" : Str), ("check_distinct" : Str), ("check_known" : Str), ("is_name" : Str), ("is_any_integer" : Str), ("is_integer" : Str), ("Ratio" : Str), ("Problem" : Str), ("_neighbors_of" : Str), ("_are_values" : Str), ("_check_variables" : Str), ("_is_variable_row" : Str), ("_check_events" : Str), ("_is_event_row" : Str), ("_check_scope" : Str), ("_check_variable" : Str), ("_are_bad_tuples" : Str), ("Graph" : Str), ("_check_graph_names" : Str), ("_check_edges" : Str), ("_law_cell" : Str), ("_law_box" : Str), ("_law_take" : Str), ("_law_names" : Str), ("_law_graph" : Str), ("_law_handed" : Str), ("_law_told_right" : Str), ("_law_equal_right" : Str), ("MOST_VARIABLES" : Str), ("MOST_EVENTS" : Str), ("MOST_NAMES" : Str)]
theorem run (w : World) : HandSHeadRun.RunEqI R (PySem.W.view R.prog [0, 52]) hk ob 8000 loose w := by
  unfold HandSHeadRun.RunEqI
  kernel_rfl


end K46
namespace L2
open PySem PySem.Spec PyProof.Rows
/-! ### data whose repr fits -/
def CpOk (x : Str) : Prop := ∀ c ∈ x.cps.toList, c < 16 ^ 8
theorem cpOk_of (s : String) : CpOk (Str.ofString s) := by
  intro c hc
  rw [Str.ofString_eq_toList] at hc
  obtain ⟨ch, _, rfl⟩ := List.mem_map.mp (show c ∈ s.toList.map Char.toNat by simpa using hc)
  have h : ch.toNat < 4294967296 := ch.val.toNat_lt
  exact h
theorem cpOk_app {x y : Str} (hx : CpOk x) (hy : CpOk y) : CpOk (x ++ y) := by
  intro c hc
  have e : (x ++ y).cps.toList = x.cps.toList ++ y.cps.toList := by show (x.cps ++ y.cps).toList = _; simp
  rw [e] at hc
  exact (List.mem_append.mp hc).elim (hx c) (hy c)
theorem cpOk_empty : CpOk Str.empty := fun c hc => by cases hc
/-- repr fits in B signs, nested at most k deep -/
structure OkD (B k : Nat) (d : PyData) : Prop where
  sh : d.showable = true
  dp : d.depth ≤ k
  ln : d.shown.length ≤ B
theorem OkD.mono {B B' k k' : Nat} {d : PyData} (h : OkD B k d) (hB : B ≤ B') (hk : k ≤ k') : OkD B' k' d := ⟨h.sh, Nat.le_trans h.dp hk, Nat.le_trans h.ln hB⟩
theorem OkD.fine {B k : Nat} {d : PyData} (h : OkD B k d) (hB : B ≤ 16777216) (hk : k ≤ 60) : Fine d := ⟨h.sh, Nat.le_trans h.dp hk, by rw [sizeLine_eq]; exact Nat.le_trans h.ln hB⟩
theorem okd_none : OkD 4 0 .none := ⟨rfl, Nat.le_refl _, Nat.le_refl _⟩
theorem okd_bool (b : Bool) : OkD 5 0 (.bool b) := ⟨rfl, Nat.le_refl _, by cases b <;> decide⟩
theorem okd_int {i : Int} (h : i.natAbs < 10 ^ 500) : OkD 501 0 (.int i) := by
  refine ⟨?_, Nat.le_refl _, ?_⟩
  · have e : i.natAbs.log2 < 1900 := PySem.Flt.log2_lt_of (k := 1900) (by decide) (Nat.lt_of_lt_of_le h (by decide +kernel))
    simp only [PyData.showable, decide_eq_true_eq]
    omega
  · show (Str.ofString (toString i)).length ≤ 501
    rw [PySem.ofString_length]
    exact int_text_length_le10 (k := 500) (by decide) h
theorem okd_str {x : Str} {n : Nat} (h : CpOk x) (l : x.length ≤ n) : OkD (10 * n + 2) 0 (.str x) := by
  refine ⟨rfl, Nat.le_refl _, ?_⟩
  have := StrLaws.reprText_len x h
  simp only [PyData.shown]
  omega
theorem showableAll_of : ∀ {ds : List PyData}, (∀ d ∈ ds, d.showable = true) → PyData.showableAll ds = true
  | [], _ => rfl
  | d :: ds, h => by
    simp only [PyData.showableAll, Bool.and_eq_true]
    exact ⟨h d List.mem_cons_self, showableAll_of fun x hx => h x (List.mem_cons_of_mem _ hx)⟩
theorem depthAll_of {k : Nat} : ∀ {ds : List PyData}, (∀ d ∈ ds, d.depth ≤ k) → PyData.depthAll ds ≤ k
  | [], _ => Nat.zero_le _
  | d :: ds, h => by
    simp only [PyData.depthAll]
    exact Nat.max_le.mpr ⟨h d List.mem_cons_self, depthAll_of fun x hx => h x (List.mem_cons_of_mem _ hx)⟩
theorem shownAll_sum {B : Nat} : ∀ {ds : List PyData}, (∀ d ∈ ds, d.shown.length ≤ B) → ((PyData.shownAll ds).map (·.length)).sum ≤ ds.length * B
  | [], _ => Nat.zero_le _
  | d :: ds, h => by
    have h1 := h d List.mem_cons_self
    have h2 := shownAll_sum (ds := ds) fun x hx => h x (List.mem_cons_of_mem _ hx)
    simp only [PyData.shownAll, List.map_cons, List.sum_cons, List.length_cons, Nat.add_mul, Nat.one_mul]
    omega
theorem okd_list {B k m : Nat} {ds : List PyData} (h : ∀ d ∈ ds, OkD B k d) (hm : ds.length ≤ m) : OkD (m * (B + 2) + 3) (k + 1) (.list ds) := by
  refine ⟨?_, ?_, ?_⟩
  · simp only [PyData.showable]; exact showableAll_of fun d hd => (h d hd).sh
  · simp only [PyData.depth]; exact Nat.succ_le_succ (depthAll_of fun d hd => (h d hd).dp)
  · have h1 := shownAll_sum fun d hd => (h d hd).ln
    have h2 := listText_len_le (PyData.shownAll ds)
    have h3 := PyData.shownAll_length ds
    have h4 : ds.length * (B + 2) ≤ m * (B + 2) := Nat.mul_le_mul_right _ hm
    rw [Nat.mul_add] at h4
    simp only [PyData.shown]
    omega
theorem okd_tuple {B k m : Nat} {ds : List PyData} (h : ∀ d ∈ ds, OkD B k d) (hm : ds.length ≤ m) : OkD (m * (B + 2) + 3) (k + 1) (.tuple ds) := by
  refine ⟨?_, ?_, ?_⟩
  · simp only [PyData.showable]; exact showableAll_of fun d hd => (h d hd).sh
  · simp only [PyData.depth]; exact Nat.succ_le_succ (depthAll_of fun d hd => (h d hd).dp)
  · have h1 := shownAll_sum fun d hd => (h d hd).ln
    have h2 := tupleText_len_le (PyData.shownAll ds)
    have h3 := PyData.shownAll_length ds
    have h4 : ds.length * (B + 2) ≤ m * (B + 2) := Nat.mul_le_mul_right _ hm
    rw [Nat.mul_add] at h4
    simp only [PyData.shown]
    omega
theorem all1 {P : PyData → Prop} {a : PyData} (ha : P a) : ∀ d ∈ [a], P d := fun d hd => by
  rw [List.mem_singleton.mp hd]; exact ha
theorem allC {P : PyData → Prop} {a : PyData} {l : List PyData} (ha : P a) (hl : ∀ d ∈ l, P d) : ∀ d ∈ a :: l, P d := fun d hd => (List.mem_cons.mp hd).elim (fun e => e ▸ ha) (hl d)
theorem all0 {P : PyData → Prop} : ∀ d ∈ ([] : List PyData), P d := fun d hd => by cases hd
/-! ### data that stays -/
mutual
theorem Dx.same {K : PySem.W.Frag} {H H' : Hp} (s : ∀ a o, H a = some o → H' a = some o) : ∀ {d : PyData} {v : V}, Dx K H v d → Dx K H' v d
  | .none, _, h => by cases h; exact .non
  | .bool b, _, h => by cases h; exact .bl b
  | .int i, _, h => by cases h; exact .int i
  | .str x, _, h => by cases h; exact .str x
  | .list ds, _, h => by
    cases h with
    | lst hs ha => exact .lst (hs.ext s) (DxAll.same s ha)
  | .tuple ds, _, h => by
    cases h with
    | tup hs ha => exact .tup (hs.ext s) (DxAll.same s ha)
  | .dict kvs, _, h => by
    cases h with
    | dic hs hk ha => exact .dic (hs.elim (fun h => .inl (s _ _ h)) fun ⟨o, h⟩ => .inr ⟨o, s _ _ h⟩) hk (DxKv.same s ha)
theorem DxAll.same {K : PySem.W.Frag} {H H' : Hp} (s : ∀ a o, H a = some o → H' a = some o) : ∀ {ds : List PyData} {vs : List V}, DxAll K H vs ds → DxAll K H' vs ds
  | [], _, h => by cases h; exact .nil
  | d :: ds, _, h => by
    cases h with
    | cons h1 h2 => exact .cons (Dx.same s h1) (DxAll.same s h2)
theorem DxKv.same {K : PySem.W.Frag} {H H' : Hp} (s : ∀ a o, H a = some o → H' a = some o) : ∀ {kvs : List (PyData × PyData)} {vs : List V}, DxAll K H vs (kvs.map (·.2)) → DxAll K H' vs (kvs.map (·.2))
  | [], _, h => by cases h; exact .nil
  | (k, d) :: ds, _, h => by
    rw [List.map_cons] at h ⊢
    cases h with
    | cons h1 h2 => exact .cons (Dx.same s h1) (DxKv.same s h2)
end
end L2

/-! enumerate(a dict): its keys by turns. -/
namespace PySem
open Sem (wp)
section
variable {prog : Program} {w : World} {A : Around} {E : Value → Shared → Prop} {st : Shared}
theorem ekey_item {jt dd : Addr} {j n ep : Nat} {ob : Obj} {es : Array DictEntry} {en : DictEntry} {P : Value → Shared → Prop} (g : st.heap.IsKeyIter jt dd j n ep) (gd : st.heap.get? dd = some ob) (cd : ob.data = .dict es ep)
    (zs : es.size = n) (hx : es[j]? = some en) (hQ : ∀ h', h'.IsKeyIter jt dd (j + 1) n ep → Heap.SameBut jt st.heap h' → P en.key { st with heap := h' }) :
    wpAny (model prog w) A (Builtin.SmallTypes.nextOf (.ref jt)) P E st := by
  obtain ⟨oi, gi, ci, di⟩ := id g
  unfold Builtin.SmallTypes.nextOf
  refine wpAny_bind (wpAny_callSpecial?_slot (name := Str.ofString "__next__") g.typeIs F.slot_dict_keyiterator_next (wpAny_call_entry F.slot_dict_keyiterator_next g.typeIs F.entry_dict_keyiterator_next ?_ (F.args_dict_keyiterator_next_1 _)))
  refine wpAny_bind <| wpAny_pure ?_
  refine wpAny_bind (wpAny_bind ?_)
  first | refine wpAny_bind (wpAny_typeNameOfWhole_keyiter g.typeIs (wpAny_pure ?_)) | refine wpAny_bind (wpAny_typeNameOf_keyiter g.typeIs (wpAny_pure ?_))
  refine wpAny_bind (wpAny_fieldsOf gi di ?_)
  have ow : Builtin.Dict_items.ownsTuple "dict_keyiterator" = false := by decide
  simp only [ow, Bool.false_eq_true, if_false]
  show wpAny _ _ (if (Value.ref dd == Value.none) = true then _ else _) _ _ st
  rw [if_neg (show ¬ ((Value.ref dd == Value.none) = true) from Bool.false_ne_true)]
  refine wpAny_bind (wpAny_pure (wpAny_bind (wpAny_dictEntries gd cd ?_)))
  rw [if_neg (by rw [zs]; simp)]
  refine wpAny_bind (wpAny_pure (wpAny_bind (wpAny_dictEpoch gd cd ?_)))
  rw [if_neg (by simp)]
  refine wpAny_pure ?_
  obtain ⟨lt, hen⟩ := Array.getElem?_eq_some_iff.mp hx
  simp only [show ¬ ((j : Int) < 0) from by omega, if_false, Int.toNat_natCast, Array.getElem?_eq_getElem lt]
  refine wpAny_bind ?_
  first | refine wpAny_bind (wpAny_typeNameOfWhole_keyiter g.typeIs (wpAny_pure ?_)) | refine wpAny_bind (wpAny_typeNameOf_keyiter g.typeIs (wpAny_pure ?_))
  refine wpAny_bind (wpAny_isOneOf_keyiter g.typeIs ?_)
  show wpAny _ _ (setField (.ref jt) 1 (rawInt ((j : Int) + 1)) >>= _) _ _ st
  refine wpAny_bind (wpAny_setField gi di (by simp) ?_)
  have g' : (st.heap.update jt (Obj.mapFields (·.setIfInBounds 1 (rawInt ((j : Int) + 1))))).IsKeyIter jt dd (j + 1) n ep :=
    ⟨_, Heap.get?_update_self _ gi (Obj.isFreed_of_fields (Obj.data_mapFields di _)), (Obj.cls_mapFields ..).trans ci, by rw [Obj.data_mapFields di]; simp [rawInt]⟩
  refine wpAny_bind (wpAny_holding (wpAny_bind (wpAny_isOneOf_keyiter (s := { st with heap := st.heap.update jt (Obj.mapFields (·.setIfInBounds 1 (rawInt ((j : Int) + 1)))) }) g'.typeIs ?_)))
  show wpAny _ _ (pure es[j].key) _ _ _
  rw [hen]
  exact wpAny_pure (wpAny_pure ⟨_, rfl, wpAny_pure (hQ _ g' (Heap.SameBut.update ..))⟩)
theorem ekey_end {jt dd : Addr} {j n ep : Nat} {ob : Obj} {es : Array DictEntry} {P : Value → Shared → Prop} (hh : A.handled = none) (g : st.heap.IsKeyIter jt dd j n ep) (gd : st.heap.get? dd = some ob) (cd : ob.data = .dict es ep)
    (zs : es.size = n) (ge : n ≤ j) (hE : ∀ h' e, Heap.ExtBut jt st.heap h' → (∃ o, h'.get? e = some o ∧ o.cls = .type "StopIteration") → E (.ref e) { st with heap := h' }) :
    wpAny (model prog w) A (Builtin.SmallTypes.nextOf (.ref jt)) P E st := by
  obtain ⟨oi, gi, ci, di⟩ := id g
  unfold Builtin.SmallTypes.nextOf
  refine wpAny_bind (wpAny_callSpecial?_slot (name := Str.ofString "__next__") g.typeIs F.slot_dict_keyiterator_next (wpAny_call_entry F.slot_dict_keyiterator_next g.typeIs F.entry_dict_keyiterator_next ?_ (F.args_dict_keyiterator_next_1 _)))
  refine wpAny_bind <| wpAny_pure ?_
  refine wpAny_bind (wpAny_bind ?_)
  first | refine wpAny_bind (wpAny_typeNameOfWhole_keyiter g.typeIs (wpAny_pure ?_)) | refine wpAny_bind (wpAny_typeNameOf_keyiter g.typeIs (wpAny_pure ?_))
  refine wpAny_bind (wpAny_fieldsOf gi di ?_)
  have ow : Builtin.Dict_items.ownsTuple "dict_keyiterator" = false := by decide
  simp only [ow, Bool.false_eq_true, if_false]
  show wpAny _ _ (if (Value.ref dd == Value.none) = true then _ else _) _ _ st
  rw [if_neg (show ¬ ((Value.ref dd == Value.none) = true) from Bool.false_ne_true)]
  refine wpAny_bind (wpAny_pure (wpAny_bind (wpAny_dictEntries gd cd ?_)))
  rw [if_neg (by rw [zs]; simp)]
  refine wpAny_bind (wpAny_pure (wpAny_bind (wpAny_dictEpoch gd cd ?_)))
  rw [if_neg (by simp)]
  refine wpAny_pure ?_
  have ge' : es.size ≤ j := by rw [zs]; exact ge
  simp only [show ¬ ((j : Int) < 0) from by omega, if_false, Int.toNat_natCast, Array.getElem?_eq_none ge']
  refine wpAny_bind ?_
  first | refine wpAny_bind (wpAny_typeNameOfWhole_keyiter g.typeIs (wpAny_pure ?_)) | refine wpAny_bind (wpAny_typeNameOf_keyiter g.typeIs (wpAny_pure ?_))
  show wpAny _ _ (setField (.ref jt) 0 .none >>= _) _ _ st
  refine wpAny_bind (wpAny_setField gi di (by simp) ?_)
  show wpAny _ _ (newExc (.type "StopIteration") [] >>= fun x => raiseNew x) _ _ _
  refine wpAny_bind (by
    simp only [newExc, newTuple]
    refine wpAny_bind (wpAny_newObj_type ?_ (by size_fits))
    refine wpAny_bind (m := firstArgMember _ _) (wpAny_of_eq (a := Value.none) (by first | rfl | (simp only [firstArgMember]; rfl)) (wpAny_newObj_type ?_ (by size_fits)))
    simp only [raiseNew]
    refine wpAny_bind (wpAny_handled ?_)
    rw [show A.in1.handled = none from hh]
    exact wpAny_bind (wpAny_pure (wpAny_throw (hE _ _ (((Heap.SameBut.update ..).extBut.push _).push _) ⟨_, Heap.get?_push_size _ rfl, rfl⟩))))
/-- the keys' iterator drawn, over a dict that stands -/
theorem ekey_draws (hh : A.handled = none) (jt dd : Addr) (ne : dd ≠ jt) (ob : Obj) (es : Array DictEntry) (ep : Nat) (cd : ob.data = .dict es ep) :
    Draws prog w A jt [jt, dd] es.size (fun j v => ∃ en, es[j]? = some en ∧ v = en.key) (fun j h => h.IsKeyIter jt dd j es.size ep ∧ h.get? dd = some ob) where
  live := fun _ _ s => let ⟨o, ho, _⟩ := s.1; ⟨o, ho⟩
  frame := fun _ _ _ s hk => ⟨s.1.at fun o e => hk jt (by simp) o e, hk dd (by simp) _ s.2⟩
  item := fun j s Q E hj g hQ => ekey_item g.1 g.2 cd rfl (Array.getElem?_eq_getElem hj) fun h' g' sb => hQ _ h' s.toks ⟨_, Array.getElem?_eq_getElem hj, rfl⟩ ⟨g', (sb.2 dd ne).trans g.2⟩ sb
  done := fun s Q E g hE => ekey_end hh g.1 g.2 cd rfl (Nat.le_refl _) hE
end
end PySem
namespace PySem
open Sem (wp)
section
theorem begins_keys {dd : Addr} {ob : Obj} {es : Array DictEntry} {ep : Nat} (sys : (dd == sysModules) = false) (cx : ob.ExactDict) (cd : ob.data = .dict es ep) :
    Begins (.ref dd) { cls := .type "dict_keyiterator", data := .fields #[.ref dd, .int 0 0, .int es.size 0, .int ep 0] } fun h => h.get? dd = some ob where
  iter := fun _ _ _ _ _ _ gd h => L2.iter_keys sys gd cx cd h
  keeps := fun _ _ x hk => hk _ _ x
  free := rfl
theorem meets_enum1 {v : Value} {o : Obj} {H : Heap → Prop} (B : Begins v o H) :
    Meets (Builtin.«enumerate.__new__» ⟨[.type "enumerate", v], []⟩) (fun _ R z => H z.heap ∧
      R (.ok (.ret (.ref (z.heap.push o).objs.size))) { z with heap := (z.heap.push o).push { cls := .type "enumerate", data := .fields #[.none, .bool false, .ref z.heap.objs.size, rawInt 0, .none, .none] } }) :=
  .of_wp fun prog w A R z h => by
    obtain ⟨hp, g, d, tk, os⟩ := z; obtain ⟨h1, h⟩ := h
    have hsub := sub_enumerate
    have q1 : ∀ {A' : Around} {E : Value → Shared → Prop} {Q : Value → Shared → Prop}, Q (.ref hp.objs.size) ⟨hp.push o, g, d, tk, os⟩ → wpAny (model prog w) A' (pyIter v) Q E ⟨hp, g, d, tk, os⟩ := fun q => B.iter prog w _ _ ⟨hp, g, d, tk, os⟩ _ h1 q
    wp_walk using q1
    refine wpAny_stack_any fun ss => wpAny_pure ?_
    split
    · rename_i c _ _ _ _ _
      cases (c == Value.type "enumerate") <;> (wp_walk using q1; exact ⟨_, rfl, h⟩)
    · wp_walk using q1
      exact ⟨_, rfl, h⟩
variable {prog : Program} {w : World} {A : Around} {E : Value → Shared → Prop} {st : Shared}
theorem enum1_begins {v : Value} {o : Obj} {H : Heap → Prop} {Q : Value → Shared → Prop} (B : Begins v o H) (h1 : H st.heap)
    (h : ∀ h', IsEnum h' (st.heap.objs.size + 1) st.heap.objs.size 0 .none → h'.get? st.heap.objs.size = some o → (∀ b o, st.heap.get? b = some o → h'.get? b = some o) → Q (.ref (st.heap.objs.size + 1)) { st with heap := h' }) :
    wpAny (model prog w) A (call (.type "enumerate") [v]) Q E st := by
  refine callType_new F.called_enumerate (by decide) (F.typeCall_enumerate_1 _) (F.newCall_enumerate_1 _) (fun obj => F.args_object_init_2 obj _) F.entry_enumerate_new (meets_enum1 B) ⟨h1, ?_⟩
  have z1 : (st.heap.push o).objs.size = st.heap.objs.size + 1 := Heap.size_push ..
  show _ ∧ _
  rw [z1]
  have g : IsEnum ((st.heap.push o).push { cls := .type "enumerate", data := .fields #[.none, .bool false, .ref st.heap.objs.size, rawInt 0, .none, .none] }) (st.heap.objs.size + 1) st.heap.objs.size 0 .none := by
    have q := Heap.get?_push_size (st.heap.push o) (o := { cls := .type "enumerate", data := .fields #[.none, .bool false, .ref st.heap.objs.size, rawInt 0, .none, .none] }) rfl
    rw [z1] at q; exact q
  exact ⟨⟨_, g, rfl⟩, h _ g (Heap.get?_push_of_some _ (Heap.get?_push_size _ B.free)) fun b o x => Heap.get?_push_of_some _ (Heap.get?_push_of_some _ x)⟩
end
end PySem
namespace L2
open PySem PySem.Spec PyProof.Rows
/-- the keys of a locked dict, numbered, each in a new pair -/
def Ited (d : Addr) (o : Obj) (kvs : List (Key × V)) : It :=
  ⟨fun i H => H d = some (.frz o (.dK kvs)) ∧ i < kvs.length, fun i H x H' => ∃ T k v, kvs[i]? = some (k, v) ∧ x = .ref T ∧ H T = none ∧ H' = upd H T (.tup [.int (i : Nat), kV k]), fun i H => H d = some (.frz o (.dK kvs)) ∧ kvs.length ≤ i⟩
theorem turn_enumD {P : Program} {w : World} {K : PySem.W.Frag} {elts : List Expr} {kk : Nat} {tpos : Pos} {d : Addr} {o : Obj} {es : Array DictEntry} {ep : Nat} {kvs : List (Key × V)} (e it : Addr) (hod : o.data = .dict es ep) :
    Turn P w K (.Tuple elts kk tpos) (Ited d o kvs) [e, it] e (fun i h => (∃ old, IsEnum h e it ((i : Nat) : Int) old) ∧ h.IsKeyIter it d i es.size ep ∧ e ≠ it ∧ i ≤ es.size) where
  mem := by simp
  obj := fun i h sx b hb => by
    obtain ⟨⟨old, he⟩, ⟨o, ho, hc, hd⟩, _⟩ := sx
    rcases (by simpa using hb : b = e ∨ b = it) with z | z
    · rw [z]; exact ⟨_, he, fun v q => nomatch q⟩
    · rw [z]; exact ⟨o, ho, fun v q => by rw [hd] at q; cases q⟩
  keep := fun i h h' sx k => let ⟨⟨old, he⟩, hi, hne⟩ := sx; ⟨⟨old, k e (by simp) _ he⟩, hi.at fun o q => k it (by simp) o q, hne⟩
  item := by
    intro X hP hw hK hc i pins s σ H E I hf sx hg
    subst hP hw hK
    obtain ⟨⟨old, he⟩, hit, hne, hle⟩ := sx
    obtain ⟨hd, hi⟩ := hg
    obtain ⟨hs, hgd, hx, es', ep', vs, hdt, hsz, kv, hm⟩ := I.frzK hd
    obtain ⟨rfl, rfl⟩ := dict_ep hod hdt
    obtain ⟨⟨k, v⟩, hkv⟩ : ∃ p, kvs[i]? = some p := ⟨kvs[i], List.getElem?_eq_getElem hi⟩
    obtain ⟨u, hu, ru⟩ := kv_get kv hkv
    have hel : e < s.heap.objs.size := Heap.lt_size he
    have hil : it < s.heap.objs.size := by obtain ⟨_, q, _⟩ := hit; exact Heap.lt_size q
    have ned : ∀ b ∈ [e, it], b ≠ d := fun b hb z => by have q := (hf b hb).1; rw [z, hd] at q; cases q
    refine wpAny_pyNext_enum_itemD (ekey_draws (A := X.A.in1) (I.ok.hd hc) it d (ned it (by simp)).symm o es' ep' hdt) he ⟨hit, hgd⟩ (by rw [hsz]; exact hi) hne (by simp; exact ⟨hne, ned e (by simp)⟩) fun x h' tk hen ho hit' hT hz hk => ?_
    obtain ⟨en, hen, rfl⟩ := hen
    have hkey : keyIs k en.key = true := by
      obtain ⟨o2, es2, g2, c2, d2, ko, ps, nd⟩ := hm
      rw [hgd] at g2
      cases g2
      obtain ⟨rfl, _⟩ := dict_ep hdt d2
      exact (Pairs.get? ps (by rw [Array.getElem?_toList]; exact hen) hu).1
    refine ⟨_, rfl, wpAny_letOwnedTupleGo_enum (s := { s with heap := h', toks := tk + 1 }) ho fun h'' he' sb => ?_⟩
    have hT2 : h''.get? s.heap.objs.size = some { cls := .type "tuple", data := .seq #[.int i tk, en.key] } := (sb.2 _ (Nat.ne_of_gt hel)).trans hT
    have new : ObjOk X.prog X.w (upd H s.heap.objs.size (.tup [.int (i : Nat), kV k])) h'' s.heap.objs.size (.tup [.int (i : Nat), kV k]) :=
      ⟨by show 2 ≤ sizeLine; decide, [.int i tk, en.key], .cons ⟨_, rfl⟩ (.cons (relV_key hkey) .nil), ⟨_, hT2, rfl, _, rfl⟩⟩
    have I1 : Inv X pins σ (upd H s.heap.objs.size (.tup [.int (i : Nat), kV k])) { s with heap := h'', toks := tk + 1 } :=
      I.turnedNew (ch := [e, it]) (fun b ob hb q => (sb.2 b (fun z => hb (by simp [z]))).trans (hk b ob (fun z => hb (by simp [z])) (fun z => hb (by simp [z])) q)) hf (Nat.le_refl _) new
    have he3 : IsEnum h'' e it (((i + 1 : Nat) : Int)) en.key := by
      have e1 : ((i + 1 : Nat) : Int) = (i : Int) + 1 := by omega
      rw [e1]; exact he'
    have fz : ∀ b ∈ [e, it], upd H s.heap.objs.size (.tup [.int (i : Nat), kV k]) b = none := fun b hb => by
      have hb' : b < s.heap.objs.size := by
        rcases (by simpa using hb : b = e ∨ b = it) with z | z
        · rw [z]; exact hel
        · rw [z]; exact hil
      rw [upd_ne (Nat.ne_of_lt hb')]
      exact (hf b hb).1
    exact ⟨.ref s.heap.objs.size, _, I1, rfl, ⟨_, k, v, hkv, rfl, I.hok.fresh (Nat.le_refl _), rfl⟩, ⟨⟨en.key, he3⟩, hit'.1.at fun o q => (sb.2 it (Ne.symm hne)).trans q, hne, by rw [hsz]; exact hi⟩, fz⟩
  done := by
    intro X hP hw hK hc i pins s σ H E I hf sx hg
    subst hP hw hK
    obtain ⟨⟨old, he⟩, hit, hne, hle⟩ := sx
    obtain ⟨hd, hi⟩ := hg
    obtain ⟨hs, hgd, hx, es', ep', vs, hdt, hsz, kv, hm⟩ := I.frzK hd
    obtain ⟨rfl, rfl⟩ := dict_ep hod hdt
    obtain ⟨f0, f1, f2, f3, f4, f5⟩ := hf it (by simp)
    have ned : it ≠ d := fun z => by rw [z, hd] at f0; cases f0
    have ei : i = es'.size := Nat.le_antisymm hle (by rw [hsz]; exact hi)
    subst ei
    exact wpAny_pyNext_enum_endD (ekey_draws (A := X.A.in1) (I.ok.hd hc) it d ned.symm o es' ep' hdt) he ⟨hit, hgd⟩ fun h' eb => ⟨rfl, I.turned (t' := s.toks) (fun b o hb q => eb b o hb q) f0 f1 f3 f4 f5⟩
  self := fun A i s Q E sx h => let ⟨⟨_, he⟩, _⟩ := sx; wpAny_pyIter_enum he h
def iEnumD (td : TA) : TI := fun σ H R => td σ H fun vs H1 => ∃ d o kvs, vs = [.ref d] ∧ H1 d = some (.frz o (.dK kvs)) ∧ R (Ited d o kvs) H1
theorem pi_enumD {X : Cx} {e : Expr} {ta : TA} {p pos tpos : Pos} {elts : List Expr} {kk : Nat} (hg : Gl X "enumerate") (hm : X.mg "enumerate" = none) (ha : PA X [e] ta) (hs : starEach [e] X.env = [(false, eval e X.env)] := by rfl) :
    PI X (.Tuple elts kk tpos) (.Call (.Name "enumerate" p) [e] [] pos) (iEnumD ta) := by
  refine ⟨fun pins s σ H R I h => ?_⟩
  refine Call_ (ld_blt I hg hm boot_enumerate (PyProof.Rows.callWith_type1 (thn (ha.run pos pins s σ H _ I h) fun us s1 ⟨vs, H1, I1, r1, d, o, kvs, ex, hd, q⟩ => ?_) hs rfl))
  subst ex
  cases r1 with
  | cons r rr =>
    cases rr
    cases r
    obtain ⟨sys, hgd, hx, es, ep, ws, hdt, hsz, kv, hm⟩ := I1.frzK hd
    refine enum1_begins (begins_keys sys hx hdt) hgd fun h' he hit hk => wpAny_pyIter_enum he ?_
    have I2 : Inv X pins σ H1 { s1 with heap := h' } := I1.kept (t' := s1.toks) hk
    refine ⟨s1.heap.objs.size + 1, [s1.heap.objs.size + 1, s1.heap.objs.size], _, _, H1, rfl, I2, turn_enumD (s1.heap.objs.size + 1) s1.heap.objs.size hdt, ⟨⟨.none, he⟩, ⟨_, hit, rfl, rfl⟩, Nat.succ_ne_self _, Nat.zero_le _⟩, fun b hb => ?_, q⟩
    have le : s1.heap.objs.size ≤ b := by
      rcases (by simpa using hb : b = s1.heap.objs.size + 1 ∨ b = s1.heap.objs.size) with z | z
      · rw [z]; exact Nat.le_add_right _ _
      · rw [z]; exact Nat.le_refl _
    exact I1.fpOk le (I1.hok.fresh le)
/-- walked by one rule or by another, as the value is -/
theorem pi_or {X : Cx} {tg e : Expr} {w1 w2 : TI} (h1 : PI X tg e w1) (h2 : PI X tg e w2) : PI X tg e fun σ H R => w1 σ H R ∨ w2 σ H R :=
  ⟨fun pins s σ H R I h => h.elim (h1.run pins s σ H R I) (h2.run pins s σ H R I)⟩
end L2

/-! sorted(xs), xs a list or a tuple of tuples of small ints, all of one length. -/
namespace STT
open PySem PyProof.Rows TS
section
variable {prog : Program} {w : World} {A : Around} {E : Value → Shared → Prop} {st : Shared}
theorem coll_seq {l : Addr} {o : Obj} {vs : List Value} {n : Nat} {Q : List Value → Shared → Prop} (gl : st.heap.get? l = some o) (cl : o.cls = .type "list" ∨ o.cls = .type "tuple") (dl : o.data = .seq vs.toArray n) (z : vs.length ≤ sizeLine)
    (h : Q vs { st with heap := (st.heap.push (seqObj "list" #[] 0)).update st.heap.objs.size (Obj.mapSeq (· ++ vs.toArray)) }) : wpAny (model prog w) A (collect (.ref l)) Q E st := by
  rcases cl with cl | cl
  · exact collect_list ⟨o, gl, cl, n, dl⟩ h z
  · unfold collect
    refine wpAny_bind (wpAny_runValue (codeAny_builtin entry_proto_collect' ?_))
    show wpAny _ _ (do again (.builtin "list.__iadd__" ⟨[← newList [], .ref l], []⟩)) _ _ st
    refine wpAny_bind (wpAny_newList (wpAny_pure ⟨Code.quiet_builtin _ (by decide +kernel), codeAny_builtin entry_list_iadd' ?_⟩))
    show wpAny _ _ (Builtin.List.listExtendWith (.ref st.heap.objs.size) (.ref l) (.ref st.heap.objs.size)) _ _ { st with heap := st.heap.push (seqObj "list" #[] 0) }
    unfold Builtin.List.listExtendWith
    have gl' : (st.heap.push (seqObj "list" #[] 0)).get? l = some o := Heap.get?_push_of_some _ gl
    refine wpAny_bind (wpAny_typeOf (T := "tuple") ⟨o, gl', cl⟩ ?_)
    rw [if_pos (by rw [show (Value.type "tuple" == Value.type "tuple") = true from rfl]; simp)]
    refine wpAny_bind (listItems_at gl' dl (wpAny_bind (listItems_at (xs := #[]) (n := 0) (Heap.get?_push_size _ rfl) rfl ?_)))
    rw [if_neg (by simp)]
    refine wpAny_bind (listUpdate_at (xs := #[]) (n := 0) (Heap.get?_push_size _ rfl) rfl ?_ (Nat.zero_le _) (by show (#[] ++ vs.toArray).size ≤ sizeLine + 1; simp only [Array.size_append, List.size_toArray, List.length_nil]; omega))
    refine wpAny_pure ?_
    show wpAny (model prog w) A (do
        let oo ← load st.heap.objs.size
        match oo.data with
        | .seq xs _ => pure xs.toList
        | _ => unsupported "internal:collect") Q E { st with heap := (st.heap.push (seqObj "list" #[] 0)).update st.heap.objs.size (Obj.mapSeq (· ++ vs.toArray)) }
    refine wpAny_bind (wpAny_load (get?_update_seq (Heap.get?_push_size _ rfl) _) ?_)
    show wpAny _ _ (pure ((#[] : Array Value) ++ vs.toArray).toList) Q E _
    rw [show ((#[] : Array Value) ++ vs.toArray).toList = vs by simp]
    exact wpAny_pure h
theorem sorted_tt {l : Addr} {o : Obj} {vs : List Value} {n d : Nat} {B : Int} {Q : Value → Shared → Prop} (gl : st.heap.get? l = some o) (cl : o.cls = .type "list" ∨ o.cls = .type "tuple") (dl : o.data = .seq vs.toArray n) (lt : vs.length < 64) (hd : 1 ≤ d) (x : TupsOk st.heap d B vs)
    (h : ∀ out : Array Value, out.toList.Perm vs → out.toList.Pairwise (fun u v => code B (intsOf st.heap u) ≤ code B (intsOf st.heap v)) → Q (.ref (st.heap.objs.size + 1)) { st with heap := sortedAll st.heap vs out }) :
    wpAny (model prog w) A (call (.builtin "sorted") [.ref l]) Q E st := by
  refine Calls.call_function_entry kind_sorted plain_sorted entry_sorted (args_sorted1 _) ?_
  unfold Builtin.«sorted»
  refine wpAny_bind (m := checkCount "sorted" 1 1 _) (wpAny_pure (wpAny_bind (coll_seq gl cl dl (by rw [sizeLine_eq]; omega) (wpAny_bind (wpAny_newList ?_ (by rw [sizeLine_eq]; omega))))))
  have zz : ((st.heap.push (seqObj "list" #[] 0)).update st.heap.objs.size (Obj.mapSeq (· ++ vs.toArray))).objs.size = st.heap.objs.size + 1 := by rw [Heap.size_update, size_push']
  have gN : (((st.heap.push (seqObj "list" #[] 0)).update st.heap.objs.size (Obj.mapSeq (· ++ vs.toArray))).push (seqObj "list" vs.toArray 0)).get? (st.heap.objs.size + 1) = some (seqObj "list" vs.toArray 0) := by rw [← zz]; exact Heap.get?_push_size _ rfl
  have keep : ∀ b o, st.heap.get? b = some o → o.cls = .type "tuple" → (((st.heap.push (seqObj "list" #[] 0)).update st.heap.objs.size (Obj.mapSeq (· ++ vs.toArray))).push (seqObj "list" vs.toArray 0)).get? b = some o := fun b o q _ => by
    have lb : b < st.heap.objs.size := Heap.lt_size q
    rw [Heap.get?_push_ne _ _ _ (by rw [zz]; exact Nat.ne_of_lt (Nat.lt_succ_of_lt lb)), Heap.get?_update_ne _ _ _ _ (Nat.ne_of_lt lb), Heap.get?_push_ne _ _ _ (Nat.ne_of_lt lb)]
    exact q
  show wpAny _ _ _ _ _ { st with heap := ((st.heap.push (seqObj "list" #[] 0)).update st.heap.objs.size (Obj.mapSeq (· ++ vs.toArray))).push (seqObj "list" vs.toArray 0) }
  rw [zz]
  refine wpAny_bind (wpAny_holding (wpAny_call_entry slot_list_sort ⟨_, gN, rfl⟩ entry_list_sort (sort_tups gN lt hd (x.keeps keep) (fun v => code B (intsOf st.heap v)) (fun v hv ns t => ?_) fun out a1 a2 => ⟨_, rfl, ?_⟩) (args_list_sort _)))
  · obtain ⟨ns0, t0, _⟩ := x v hv
    rw [show ns = ns0 from t.ints.symm.trans (t0.keeps keep).ints]
    show code B (intsOf st.heap v) = code B ns0
    rw [t0.ints]
  · exact wpAny_pure ⟨_, rfl, h out a1 a2⟩
end
end STT
namespace L2
open PySem PySem.Spec PyProof.Rows
section
variable {X : Cx}
/-- sorted(xs), xs a list or a tuple of tuples of ints, d each, within [0, B) -/
def rSortTT (K : PySem.W.Frag) : List V → Hp → VK → Prop := fun vs H Q => ∃ (a : Addr) (xs : List V) (f : V → List Int) (d : Nat) (B : Int), vs = [V.ref a] ∧ (SqL K H a xs ∨ SqT K H a xs) ∧ xs.length < 64 ∧ 1 ≤ d ∧
  (∀ x ∈ xs, ∃ t, x = V.ref t ∧ SqT K H t ((f x).map V.int) ∧ (f x).length = d ∧ TS.Bd B (f x)) ∧
  ∀ ys p, ys.Perm xs → ys.Pairwise (fun x y => TS.code B (f x) ≤ TS.code B (f y)) → H p = none → Q (.ref p) (upd H p (.lst ys))
theorem cr_sortTT : CallR X (.builtin "sorted") (rSortTT X.K) := by
  intro pins s σ H vs us Q I r h
  obtain ⟨a, xs, f, d, B, rfl, hs, lt, hd, hx, q⟩ := h
  obtain ⟨u, rfl, ru⟩ := vals1 r
  obtain rfl : u = Value.ref a := ru
  obtain ⟨its, rv, o, n, gl, cl, dl⟩ : ∃ its : List Value, Vals xs its ∧ ∃ o n, s.heap.get? a = some o ∧ (o.cls = .type "list" ∨ o.cls = .type "tuple") ∧ o.data = .seq its.toArray n := by
    rcases hs with hs | hs
    · obtain ⟨its, rv, pl, _⟩ := I.list hs
      obtain ⟨o, go, co, n, dn⟩ := pl.isList
      exact ⟨its, rv, o, n, go, .inl co, dn⟩
    · obtain ⟨its, rv, ⟨o, go, co, n, dn⟩, _⟩ := I.tuple hs
      exact ⟨its, rv, o, n, go, .inr co, dn⟩
  obtain ⟨e1, e2⟩ := refs_back rv fun x m => by
    obtain ⟨t, e, _⟩ := hx x m
    exact ⟨t, e⟩
  have tups : ∀ v ∈ its, TS.TupInts s.heap v (f (backV v)) ∧ (f (backV v)).length = d ∧ TS.Bd B (f (backV v)) := fun v hv => by
    obtain ⟨t, rfl⟩ := e2 v hv
    have hm : V.ref t ∈ xs := by rw [e1]; exact List.mem_map.mpr ⟨_, hv, rfl⟩
    obtain ⟨t', e, sq, l, b⟩ := hx _ hm
    cases e
    obtain ⟨us, r2, tp, _⟩ := I.tuple sq
    exact ⟨⟨t, _, rfl, tp, by rw [List.toList_toArray]; exact intsAre_of r2⟩, l, b⟩
  refine STT.sorted_tt gl cl dl (by rw [← rv.length]; exact lt) hd (fun v hv => ⟨_, tups v hv⟩) fun out pm pw => ?_
  obtain ⟨e, ge⟩ := sortedAll_at s.heap its out
  have h3 : ∀ u ∈ out.toList, ∃ a, u = Value.ref a := fun u hu => e2 u (pm.mem_iff.mp hu)
  have lo : (out.toList.map backV).length ≤ sizeLine := by
    rw [List.length_map, pm.length_eq, ← rv.length, sizeLine_eq]; omega
  have hp : s.heap.objs.size ≤ s.heap.objs.size + 1 := Nat.le_succ _
  refine ⟨.ref (s.heap.objs.size + 1), upd H (s.heap.objs.size + 1) (.lst (out.toList.map backV)), I.laid (t' := s.toks) (fun b o q => sortedAll_old q) hp ⟨lo, out.toList, e, vals_back h3, by simpa using ge⟩, rfl, q _ _ ?_ ?_ (I.hok.fresh hp)⟩
  · rw [e1]; exact pm.map backV
  · rw [List.pairwise_map]
    refine pw.imp_of_mem fun {u v} hu hv l => ?_
    rw [(tups u (pm.mem_iff.mp hu)).1.ints, (tups v (pm.mem_iff.mp hv)).1.ints] at l
    exact l
end
end L2

/-! len(o), repr(o) of an own instance with __len__, __repr__; {x!r} of nested data. -/
namespace PySem
namespace EXV
open PySem.W PySem.Calls PyProof.Rows PySem.Spec
section
variable {prog : Program} {w : World} {A : Around} {E : Value → Shared → Prop} {st : Shared} {K : Frag} {x C f : Addr} {ox : Obj} {od : Option Obj}
theorem own_len {Q : Value → Shared → Prop} (X : K.In st.heap) (I : InstAt st.heap x ox C od) (hl : findIn K (.ref C) "__len__" = some (some (.ref f))) (hf : typeIn K (.ref f) = some (.type "function"))
    (h : wpAny (model prog w) A.in1 (call (.ref f) [.ref x]) (fun v s' => ∃ (n : Nat) (t : Tok), v = .int n t ∧ n < 2 ^ 62 ∧ ∀ t', Q (.int n t') { s' with toks := s'.toks + 1 }) E st) : wpAny (model prog w) A (call (.builtin "len") [.ref x]) Q E st := by
  refine Calls.call_function_entry kind_len plain_len entry_len (args_len1 _) ?_
  unfold Builtin.«len»
  refine wpAny_bind (m := oneArg "len" _) (wpAny_pure (wpAny_bind (m := callSpecial? (.ref x) (Str.ofString "__len__")) (special_fn X I hl hf (wpAny_mono h (fun r s' z => ?_) fun _ _ z => z))))
  obtain ⟨n, t, rfl, lt, q⟩ := z
  refine wpAny_bind (wpAny_holding (wpAny_pure (wpAny_bind (wpAny_letGo ?_))))
  show wpAny _ _ (if ((n : Nat) : Int) < 0 then _ else _) _ _ _
  rw [if_neg (by omega)]
  show wpAny _ _ (if ((n : Nat) : Int) ≥ 2 ^ 63 then _ else _) _ _ _
  rw [if_neg (by omega)]
  exact wpAny_bind (wpAny_mkInt (wpAny_pure ⟨_, rfl, q _⟩))
theorem own_repr {Q : Value → Shared → Prop} (hu : A.units + 1 < cLine) (X : K.In st.heap) (I : InstAt st.heap x ox C od) (hs : findIn K (.ref C) "__repr__" = some (some (.ref f))) (hf : isFn K (.ref f) = true)
    (h : wpAny (model prog w) A.in1 (call (.ref f) [.ref x]) (fun r s₁ => ∃ y t, r = .str y t ∧ Q r s₁) E st) : wpAny (model prog w) A (call (.builtin "repr") [.ref x]) Q E st := by
  refine Calls.call_function_entry PySem.F.kind_repr PySem.F.plain_repr PySem.F.entry_repr (PySem.F.args_repr1 _) ?_
  unfold Builtin.«repr»
  refine wpAny_bind (m := oneArg "repr" _) (wpAny_pure (wpAny_bind (m := cRoomFor _ _) (wpAny_cRoomFor (by show A.units + 1 < cLine; exact hu) ?_)))
  have sp : ∀ {Q' : Option Value → Shared → Prop}, Q' (some (.ref f)) st → wpAny (model prog w) A.in1 (specialOf (.ref x) "__repr__") Q' E st := fun q => by
    unfold specialOf
    exact wpAny_bind (I.type.here ((PySem.W.looks_findIn X hs).here q))
  refine wpAny_bind (sp ?_)
  refine wpAny_bind (m := callSpecialIfBound? (.ref x) (Str.ofString "__repr__")) (ifBound_K X I hs hf (wpAny_mono h (fun r s₁ z => ?_) fun _ _ z => z))
  obtain ⟨y, t, rfl, q⟩ := z
  refine wpAny_bind (wpAny_isInstance (T := "str") (b := true) rfl isSubtype_str_str ?_)
  exact wpAny_pure ⟨_, rfl, q⟩
end
end EXV
end PySem
namespace L2
open PySem PySem.Spec PyProof.Rows
section
variable {X : Cx} {CX : CXT} {k : Nat} {C f : Addr} {fd : FuncData} {ps : List Str} {sp : Sp} {E : XK}
def rLenX (C : Addr) (sp : Sp) (E : XK) : List V → Hp → VK → Prop := fun xs H Q => ∃ a dx fs, xs = [.ref a] ∧ H a = some (.ins C dx fs) ∧ sp [.ref a] H (fun v H' => ∃ n : Nat, v = .int n ∧ n < 2 ^ 62 ∧ Q (.int n) H') E
theorem call_lenX (F : FnOk X.prog X.w X.K X.mg X.base CX k f fd ps sp) (hr : Room (k + 1) X.A) (hb : Binds X.K fd ps []) (hx : Passes CX X E) (hs : PySem.W.findIn X.K (.ref C) "__len__" = some (some (.ref f))) (hf : PySem.W.isFn X.K (.ref f) = true) :
    CallR X (.builtin "len") (rLenX C sp E) := by
  intro pins s σ H xs us Q I r h
  obtain ⟨a, dx, fs, rfl, ha, hsp⟩ := h
  obtain ⟨u, rfl, ru⟩ := vals1 r
  cases ru
  obtain ⟨mA, J, _⟩ := ins_get I.hok ha
  obtain ⟨od, J, _⟩ := J.look
  refine PySem.EXV.own_len I.kIn J hs (beq_iff_eq.mp hf) ?_
  refine wpAny_mono (run_fnAt (vs := [.ref a]) rfl F hr.in1 hb hx I (.cons rfl .nil) hsp) (fun w s' z => ?_) fun _ _ z => z
  obtain ⟨v', H', I', rv, n, rfl, lt, q⟩ := z
  obtain ⟨t, rfl⟩ := rv
  exact ⟨n, t, rfl, lt, fun t' => ⟨.int n, H', I'.tok _, ⟨t', rfl⟩, q⟩⟩
/-- the callee, where no repr is under way, at another depth of the same frames -/
theorem run_fnGAt {A' : Around} {pins : List (Addr × Obj)} {σ : St} {H : Hp} {s : Shared} {Q : VK} {us : List Value} {vs : List V} (hfr : A'.frames = X.A.frames) (hA : A'.guards = some []) (F : FnG X.prog X.w X.K X.mg X.base CX k f fd ps sp) (hr : Room k A') (hb : Binds X.K fd ps []) (hx : Passes CX X E)
    (I : Inv X pins σ H s) (r : Vals vs us) (h : sp vs H Q E) : wpAny (model X.prog X.w) A' (call (.ref f) us) (EP X pins σ Q) X.xe s := by
  have e := I.env0
  have e0 : Env0 X.prog X.w X.K X.mg X.base A' X.stack s H := ⟨by rw [hfr]; exact e.frames, e.mod, e.bs, e.bsz, e.funs, e.frf, e.hok, e.bare⟩
  have b := hb s us I.kIn (by rw [List.append_nil, ← r.length]; exact F.len _ _ _ _ h)
  rw [List.append_nil] at b
  refine wpAny_call (codeAny_mono (F.run A' X.stack s H ⟨us, []⟩ us vs Q E hr hA e0 b r h) fun r s' hq => ?_)
  match r, hq with
  | .error e, hq => exact hx pins σ H s e s' I hq
  | .ok (.ret u), hq => exact I.after hq
  | .ok .next, hq => exact hq.elim
  | .ok .brk, hq => exact hq.elim
  | .ok .cont, hq => exact hq.elim
theorem call_reprX (hA : X.A.guards = some []) (F : FnG X.prog X.w X.K X.mg X.base CX k f fd ps sp) (hr : Room (k + 1) X.A) (hb : Binds X.K fd ps []) (hx : Passes CX X E) (hs : PySem.W.findIn X.K (.ref C) "__repr__" = some (some (.ref f))) (hf : PySem.W.isFn X.K (.ref f) = true) :
    CallR X (.builtin "repr") (rStrX C sp E) := by
  intro pins s σ H xs us Q I r h
  obtain ⟨a, dx, fs, rfl, ha, hsp⟩ := h
  obtain ⟨u, rfl, ru⟩ := vals1 r
  cases ru
  obtain ⟨mA, J, _⟩ := ins_get I.hok ha
  obtain ⟨od, J, _⟩ := J.look
  refine PySem.EXV.own_repr (by have := hr.un; omega) I.kIn J hs hf ?_
  refine wpAny_mono (run_fnGAt (vs := [.ref a]) rfl hA F hr.in1 hb hx I (.cons rfl .nil) hsp) (fun w s' z => ?_) fun _ _ z => z
  obtain ⟨v', H', I', rv, b, rfl, q⟩ := z
  obtain ⟨t, rfl⟩ := rv
  exact ⟨b, t, rfl, .str b, H', I', ⟨t, rfl⟩, q⟩
/-- {x!r} of nested data -/
def tFmtD (K : PySem.W.Frag) (te : TE) : TE := fun σ H Q => te σ H fun x H1 => ∃ (a : Addr) (d : PyData), x = .ref a ∧ Dx K H1 x d ∧ Fine d ∧ Q (.str d.shown) H1
theorem pe_fmtD {e : Expr} {te : TE} {pos : Pos} (hA : X.A.guards = some []) (hu : X.A.units + 64 < cLine) (sm : HasSm X.K) (he : PE X e te) : PE X (.FormattedValue e 114 none pos) (tFmtD X.K te) := by
  refine ⟨fun pins s σ H Q I h => ?_⟩
  refine wpAny_FormattedValue_repr (thn (he.run pins s σ H _ I h) fun v s1 hv => ?_)
  obtain ⟨x, H1, I1, r1, a, d, rfl, hd, ⟨h1, h2, h3⟩, q⟩ := hv
  obtain ⟨as, hr, hn⟩ := Dx.reads I1 sm d _ v hd r1
  cases r1
  refine pyReprObj_of_reads hr h1 (fun _ => hn) hA (by omega) (fun _ _ e => e) (fun h' u tk hk => ?_) h3
  have I2 : Inv X pins σ H1 { s1 with heap := h', toks := tk } := I1.kept (t' := tk) hk
  exact wpAny_formatField_str ⟨.str d.shown, H1, I2, ⟨_, rfl⟩, q⟩ ⟨.str d.shown, H1, I2.tok _, ⟨_, rfl⟩, q⟩ h3
end
end L2

/-! zip(a tuple, a list). -/
namespace L2
open PySem PySem.Spec PyProof.Rows
def Itzm (K : PySem.W.Frag) (a b : Addr) (xs ys : List V) : It :=
  ⟨fun i H => (SqT K H a xs ∧ SqL K H b ys) ∧ i < min xs.length ys.length, fun i H v H' => ∃ T x y, v = .ref T ∧ H T = none ∧ H' = upd H T (.tup [x, y]) ∧ xs[i]? = some x ∧ ys[i]? = some y,
    fun i H => (SqT K H a xs ∧ SqL K H b ys) ∧ min xs.length ys.length ≤ i⟩
theorem turn_zipM {P : Program} {w : World} {K : PySem.W.Frag} {elts : List Expr} {kk : Nat} {tpos : Pos} {a b z TI TO i1 i2 : Addr} {xs ys : List V} (D : ZipSep2 z TI TO i1 i2 [i1, a] [i2, b]) :
    Turn P w K (.Tuple elts kk tpos) (Itzm K a b xs ys) [z, TI, TO, i1, i2] z (fun i h => IsZip h z TI TO .none ∧ IsTupOf2 h TI (.ref i1) (.ref i2) ∧ (∃ x y, IsTupOf2 h TO x y) ∧ h.IsTupleIter i1 a i ∧ h.IsListIter i2 b i ∧ i ≤ xs.length ∧ i ≤ ys.length) where
  mem := by simp
  obj := fun i h st c hc => by
    obtain ⟨hz, hTI, ⟨x, y, hTO⟩, ⟨o1, e1, _, d1⟩, ⟨o2, e2, _, d2⟩, _⟩ := st
    rcases (by simpa using hc : c = z ∨ c = TI ∨ c = TO ∨ c = i1 ∨ c = i2) with q | q | q | q | q
    · rw [q]; exact ⟨_, hz, fun v q => nomatch q⟩
    · rw [q]; exact ⟨_, hTI, fun v q => nomatch q⟩
    · rw [q]; exact ⟨_, hTO, fun v q => nomatch q⟩
    · rw [q]; exact ⟨o1, e1, fun v q => by rw [d1] at q; cases q⟩
    · rw [q]; exact ⟨o2, e2, fun v q => by rw [d2] at q; cases q⟩
  keep := fun i h h' st k => by
    obtain ⟨hz, hTI, ⟨x, y, hTO⟩, h1, h2, l⟩ := st
    exact ⟨k z (by simp) _ hz, k TI (by simp) _ hTI, ⟨x, y, k TO (by simp) _ hTO⟩, h1.at fun o q => k i1 (by simp) o q, h2.at fun o q => k i2 (by simp) o q, l⟩
  item := by
    intro X hP hw hK hc i pins s σ H E I hf st hg
    subst hP hw hK
    obtain ⟨hz, hTI, ⟨x0, y0, hTO⟩, h1, h2, l1, l2⟩ := st
    obtain ⟨⟨hqx, hqy⟩, hi⟩ := hg
    obtain ⟨its, rv, tp, _⟩ := I.tuple hqx
    obtain ⟨its2, rv2, p2, _⟩ := I.list hqy
    have hx : xs[i]? = some (xs[i]'(by omega)) := List.getElem?_eq_getElem _
    have hy : ys[i]? = some (ys[i]'(by omega)) := List.getElem?_eq_getElem _
    obtain ⟨u, hu, ru⟩ := rv.get hx
    obtain ⟨u2, hu2, ru2⟩ := rv2.get hy
    have hzl : z < s.heap.objs.size := Heap.lt_size hz
    have n1 := rv.length
    have n2 := rv2.length
    have hd1 : X.A.in1.handled = none := I.ok.hd hc
    have nea : a ≠ i1 := fun q => by
      obtain ⟨o, ho, hc1, _⟩ := id tp
      obtain ⟨o', ho', hc2, _⟩ := id h1
      rw [q, ho'] at ho; cases ho; rw [hc2] at hc1; exact absurd (Value.type.inj hc1) (by decide)
    have neb : b ≠ i2 := fun q => by
      obtain ⟨o, ho, hc1, _⟩ := id p2.isList
      obtain ⟨o', ho', hc2, _⟩ := id h2
      rw [q, ho'] at ho; cases ho; rw [hc2] at hc1; exact absurd (Value.type.inj hc1) (by decide)
    refine wpAny_pyNext_zipD2_item D (Draws.tuple hd1 i1 a nea its.toArray) (Draws.list hd1 i2 b neb its2.toArray) hz hTI hTO ⟨h1, tp⟩ ⟨h2, p2.isList⟩ (by simp; omega) (by simp; omega) fun v1 v2 h' tk e1 e2 z' TO' s1 s2 hT hsz hk => ?_
    have w1 : v1 = u := by rw [show its.toArray[i]? = some u by simpa using hu] at e1; exact (Option.some.inj e1).symm
    have w2 : v2 = u2 := by rw [show its2.toArray[i]? = some u2 by simpa using hu2] at e2; exact (Option.some.inj e2).symm
    subst w1 w2
    refine ⟨_, rfl, wpAny_letOwnedTupleGo_zip (s := { s with heap := h', toks := tk }) z' fun h'' z'' sb => ?_⟩
    have hT2 : h''.get? s.heap.objs.size = some { cls := .type "tuple", data := .seq #[v1, v2] } := (sb.2 _ (Nat.ne_of_gt hzl)).trans hT
    have new : ObjOk X.prog X.w (upd H s.heap.objs.size (.tup [xs[i]'(by omega), ys[i]'(by omega)])) h'' s.heap.objs.size (.tup [xs[i]'(by omega), ys[i]'(by omega)]) :=
      ⟨by show 2 ≤ sizeLine; decide, [v1, v2], .cons ru (.cons ru2 .nil), ⟨_, hT2, rfl, _, rfl⟩⟩
    have kk5 : ∀ c o, c ∉ [z, TI, TO, i1, i2] → s.heap.get? c = some o → h''.get? c = some o := fun c o hb q => (sb.2 c (fun q' => hb (by simp [q']))).trans (hk c o (fun q' => hb (by simp [q'])) (fun q' => hb (by simp [q'])) (fun q' => hb (by simp [q'])) (fun q' => hb (by simp [q'])) q)
    have I1 : Inv X pins σ (upd H s.heap.objs.size (.tup [xs[i]'(by omega), ys[i]'(by omega)])) { s with heap := h'', toks := tk } := I.turnedNew (t' := tk) (ch := [z, TI, TO, i1, i2]) kk5 hf (Nat.le_refl _) new
    have fz : ∀ c ∈ [z, TI, TO, i1, i2], upd H s.heap.objs.size (.tup [xs[i]'(by omega), ys[i]'(by omega)]) c = none := fun c hcm => by
      have hlt : c < s.heap.objs.size := by
        rcases (by simpa using hcm : c = z ∨ c = TI ∨ c = TO ∨ c = i1 ∨ c = i2) with q | q | q | q | q
        · rw [q]; exact hzl
        · rw [q]; exact Heap.lt_size hTI
        · rw [q]; exact Heap.lt_size hTO
        · rw [q]; obtain ⟨_, e1, _⟩ := h1; exact Heap.lt_size e1
        · rw [q]; obtain ⟨_, e2, _⟩ := h2; exact Heap.lt_size e2
      rw [upd_ne (Nat.ne_of_lt hlt)]
      exact (hf c hcm).1
    have tI : h''.get? TI = some { cls := .type "tuple", data := .seq #[.ref i1, .ref i2] } := (sb.2 _ D.TIz).trans (hk _ _ D.TIz D.TITO D.TIi1 D.TIi2 hTI)
    have nn : i + 1 ≤ xs.length ∧ i + 1 ≤ ys.length := by omega
    exact ⟨.ref s.heap.objs.size, _, I1, rfl, ⟨_, _, _, rfl, I.hok.fresh (Nat.le_refl _), rfl, hx, hy⟩, ⟨z'', tI, ⟨_, _, (sb.2 _ D.TOz).trans TO'⟩, s1.1.at fun o q => (sb.2 _ D.zi1.symm).trans q, s2.1.at fun o q => (sb.2 _ D.zi2.symm).trans q, nn⟩, fz⟩
  done := by
    intro X hP hw hK hc i pins s σ H E I hf st hg
    subst hP hw hK
    obtain ⟨hz, hTI, ⟨x0, y0, hTO⟩, h1, h2, l1, l2⟩ := st
    obtain ⟨⟨hqx, hqy⟩, hi⟩ := hg
    obtain ⟨its, rv, tp, _⟩ := I.tuple hqx
    obtain ⟨its2, rv2, p2, _⟩ := I.list hqy
    have n1 := rv.length
    have n2 := rv2.length
    have hd1 : X.A.in1.handled = none := I.ok.hd hc
    have nea : a ≠ i1 := fun q => by
      obtain ⟨o, ho, hc1, _⟩ := id tp
      obtain ⟨o', ho', hc2, _⟩ := id h1
      rw [q, ho'] at ho; cases ho; rw [hc2] at hc1; exact absurd (Value.type.inj hc1) (by decide)
    have neb : b ≠ i2 := fun q => by
      obtain ⟨o, ho, hc1, _⟩ := id p2.isList
      obtain ⟨o', ho', hc2, _⟩ := id h2
      rw [q, ho'] at ho; cases ho; rw [hc2] at hc1; exact absurd (Value.type.inj hc1) (by decide)
    exact wpAny_pyNext_zipD2_end D (Draws.tuple hd1 i1 a nea its.toArray) (Draws.list hd1 i2 b neb its2.toArray) hz hTI hTO ⟨h1, tp⟩ ⟨h2, p2.isList⟩ (by simp; omega) (by simp; omega) (by simp; omega) fun h' tk hk => ⟨rfl, I.turnedL (t' := tk) (ch := [z, TI, TO, i1, i2]) (fun c o hb q =>
      hk c o (fun q' => hb (by simp [q'])) (fun q' => hb (by simp [q'])) (fun q' => hb (by simp [q'])) (fun q' => hb (by simp [q'])) q) hf⟩
  self := fun A i s Q E st h => wpAny_pyIter_zip st.1 h
def iZipM (K : PySem.W.Frag) (ta : TA) : TI := fun σ H R => ta σ H fun vs H1 => ∃ a b xs ys, vs = [.ref a, .ref b] ∧ SqT K H1 a xs ∧ SqL K H1 b ys ∧ R (Itzm K a b xs ys) H1
theorem pi_zipM {X : Cx} {e e2 : Expr} {ta : TA} {p pos tpos : Pos} {elts : List Expr} {kk : Nat} (hg : Gl X "zip") (hm : X.mg "zip" = none) (ha : PA X [e, e2] ta)
    (hs : starEach [e, e2] X.env = (false, eval e X.env) :: starEach [e2] X.env := by rfl) (hpl : (backTo pos (starEach [e2] X.env)).any (·.1) = false := by rfl) :
    PI X (.Tuple elts kk tpos) (.Call (.Name "zip" p) [e, e2] [] pos) (iZipM X.K ta) := by
  refine ⟨fun pins s σ H R I h => ?_⟩
  refine Call_ (ld_blt I hg hm PyProof.Rows.boot_zip (PyProof.Rows.callWith_type1 (thn (ha.run pos pins s σ H _ I h) fun us s1 ⟨vs, H1, I1, r1, a, b, xs, ys, ex, hqx, hqy, q⟩ => ?_) hs hpl))
  subst ex
  cases r1 with
  | cons r rr =>
    cases rr with
    | cons r' rr =>
      cases rr
      cases r
      cases r'
      obtain ⟨its, rv, tp, _⟩ := I1.tuple hqx
      obtain ⟨its2, rv2, p2, _⟩ := I1.list hqy
      have la : a < s1.heap.objs.size := tp.lt
      have lb : b < s1.heap.objs.size := p2.lt
      refine zip_begins2 (begins_tuple a its.toArray) (begins_list b its2.toArray) tp p2.isList fun h' hz hTI hTO h1 h2 hsz hk => wpAny_pyIter_zip hz ?_
      have I2 : Inv X pins σ H1 { s1 with heap := h' } := I1.kept (t' := s1.toks) hk
      refine ⟨s1.heap.objs.size + 4, [s1.heap.objs.size + 4, s1.heap.objs.size + 2, s1.heap.objs.size + 3, s1.heap.objs.size, s1.heap.objs.size + 1], _, _, H1, rfl, I2, turn_zipM ?_, ⟨hz, hTI, ⟨_, _, hTO⟩, ⟨_, h1, rfl, rfl⟩, ⟨_, h2, rfl, rfl⟩, Nat.zero_le _, Nat.zero_le _⟩, fun c hcm => ?_, q⟩
      · have A : ∀ k : Nat, s1.heap.objs.size + k ≠ a := fun k => Nat.ne_of_gt (Nat.lt_of_lt_of_le la (Nat.le_add_right _ _))
        have B : ∀ k : Nat, s1.heap.objs.size + k ≠ b := fun k => Nat.ne_of_gt (Nat.lt_of_lt_of_le lb (Nat.le_add_right _ _))
        have C : ∀ j k : Nat, j ≠ k → s1.heap.objs.size + j ≠ s1.heap.objs.size + k := fun j k hjk z => hjk (Nat.add_left_cancel z)
        have N2 : ∀ {x y c : Nat}, c ≠ x → c ≠ y → c ∉ [x, y] := fun h1 h2 hm => by
          rcases List.mem_cons.mp hm with q | q
          · exact h1 q
          · exact h2 (List.mem_singleton.mp q)
        exact ⟨C 2 4 (by decide), C 3 4 (by decide), C 2 3 (by decide), C 2 0 (by decide), List.mem_cons_self, N2 (C 4 0 (by decide)) (A 4), N2 (C 3 0 (by decide)) (A 3), C 2 1 (by decide), List.mem_cons_self, N2 (C 4 1 (by decide)) (B 4), N2 (C 3 1 (by decide)) (B 3), N2 (C 0 1 (by decide)) (B 0), N2 (C 1 0 (by decide)) (A 1)⟩
      · have hle : s1.heap.objs.size ≤ c := by
          rcases (by simpa using hcm : c = s1.heap.objs.size + 4 ∨ c = s1.heap.objs.size + 2 ∨ c = s1.heap.objs.size + 3 ∨ c = s1.heap.objs.size ∨ c = s1.heap.objs.size + 1) with z | z | z | z | z <;> rw [z] <;> first | exact Nat.le_refl _ | exact Nat.le_add_right _ _
        exact I1.fpOk hle (I1.hok.fresh hle)
end L2

/-! walks over a list or a tuple, whichever it is; dict comprehensions over any walk -/
namespace L2
open PySem PySem.Spec PyProof.Rows
/-- what stands at a goes on standing -/
def Kp (K : PySem.W.Frag) (a : Addr) (H H' : Hp) : Prop := (∀ xs, SqL K H a xs → SqL K H' a xs) ∧ ∀ xs, SqT K H a xs → SqT K H' a xs
theorem Kp.at {K : PySem.W.Frag} {a : Addr} {H H' : Hp} (h : ∀ o, H a = some o → H' a = some o) : Kp K a H H' := by
  refine ⟨fun xs q => ?_, fun xs q => ?_⟩
  · rcases q with (q | ⟨o, q⟩) | q
    · exact .inl (.inl (h _ q))
    · exact .inl (.inr ⟨o, h _ q⟩)
    · exact .inr q
  · rcases q with (q | ⟨o, q⟩) | q
    · exact .inl (.inl (h _ q))
    · exact .inl (.inr ⟨o, h _ q⟩)
    · exact .inr q
theorem Kp.trans {K : PySem.W.Frag} {a : Addr} {H H1 H2 : Hp} (x : Kp K a H H1) (y : Kp K a H1 H2) : Kp K a H H2 := ⟨fun xs q => y.1 xs (x.1 xs q), fun xs q => y.2 xs (x.2 xs q)⟩
theorem Kp.sq {K : PySem.W.Frag} {a : Addr} {H H' : Hp} {xs : List V} (k : Kp K a H H') (h : SqL K H a xs ∨ SqT K H a xs) : SqL K H' a xs ∨ SqT K H' a xs := h.imp (k.1 xs) (k.2 xs)
theorem or_walk {K : PySem.W.Frag} {tl : TE} {σ : St} {H : Hp} {R : It → Hp → Prop} {a : Addr} {xs : List V} (ht : ∀ R' : VK, R' (.ref a) H → tl σ H R') (hS : SqL K H a xs ∨ SqT K H a xs)
    (h : ∀ (J : It) (G : Hp → Prop), Walk J xs.length G (YAt xs) → (∀ H', Kp K a H H' → G H') → R J H) : iList K tl σ H R ∨ iTup K tl σ H R := by
  rcases hS with hS | hS
  · exact .inl (ht _ ⟨a, rfl, ⟨xs, hS⟩, h _ _ walk_list fun H' k => k.1 xs hS⟩)
  · exact .inr (ht _ ⟨a, rfl, ⟨xs, hS⟩, h _ _ walk_tup fun H' k => k.2 xs hS⟩)
/-- a dict comprehension over a walk -/
theorem dc_it {J : It} {n : Nat} {G : Hp → Prop} {Y : Nat → Hp → V → Hp → Prop} (w : Walk J n G Y) {g : TG} {tt : TT} {tk tv : TE} {vs : List Nat} {σ : St} {H1 : Hp} {D : Addr} {Qd : Hp → Prop} (Pv : Nat → Hp → Prop) (h0 : Pv 0 (upd H1 D (.dK []))) (hG : ∀ i H, i ≤ n → Pv i H → G H)
    (hs : ∀ i x H H', i < n → Pv i H → Y i H x H' → g x (wipe σ vs) H' fun σ2 H2 => wipe σ2 vs = wipe σ vs ∧ tt σ2 H2 fun b H3 =>
      if b = true then tk σ2 H3 fun y H4 => tv σ2 H4 fun z H5 => ∃ kvs k, y = kV k ∧ H5 D = some (.dK kvs) ∧ kvs.length < sizeLine ∧ Pv (i + 1) (upd H5 D (.dK (putK kvs k z))) else Pv (i + 1) H3) (hd : ∀ H, Pv n H → Qd H) :
    ∃ W : Nat → Nat → Hp → Prop, (∃ m, W 0 m (upd H1 D (.dK []))) ∧ ∀ i m H, W i m H →
      (J.stop i H ∧ Qd H) ∨ (J.go i H ∧ ∃ Nx : Hp → Prop, (∀ H', Nx H' → ∃ m', m' < m ∧ W (i + 1) m' H') ∧ ∀ x H', J.yld i H x H' → g x (wipe σ vs) H' fun σ2 H2 => wipe σ2 vs = wipe σ vs ∧ tt σ2 H2 fun b H3 =>
        if b = true then tk σ2 H3 fun y H4 => tv σ2 H4 fun z H5 => ∃ kvs k, y = kV k ∧ H5 D = some (.dK kvs) ∧ kvs.length < sizeLine ∧ Nx (upd H5 D (.dK (putK kvs k z))) else Nx H3) := by
  refine ⟨fun i m H => m = n - i ∧ i ≤ n ∧ Pv i H, ⟨n, by simp, Nat.zero_le _, h0⟩, ?_⟩
  rintro i m H ⟨em, hi, p⟩
  subst em
  by_cases lt : i < n
  · exact .inr ⟨w.goes i H lt (hG i H hi p), Pv (i + 1), fun H' p' => ⟨n - (i + 1), by omega, rfl, lt, p'⟩, fun x H' y => hs i x H H' lt p (w.yields i H x H' lt (hG i H hi p) y)⟩
  · have e : i = n := by omega
    subst e
    exact .inl ⟨w.stops H (hG i H hi p), hd H p⟩
/-- the numbered keys of a locked dict -/
theorem walk_enumD {d : Addr} {o : Obj} {kvs : List (Key × V)} : Walk (Ited d o kvs) kvs.length (fun H => H d = some (.frz o (.dK kvs))) (YPair (fun i => some (.int (i : Nat))) (fun i => kvs[i]?.map fun kv => kV kv.1)) :=
  ⟨fun _ _ hi q => ⟨q, hi⟩, fun _ q => ⟨q, Nat.le_refl _⟩, fun i _ x _ hi q y => by
    obtain ⟨T, k, v, hk, ex, hT, hH⟩ := y
    exact ⟨T, _, _, ex, hT, hH, rfl, by show Option.map _ kvs[i]? = _; rw [hk]; rfl⟩⟩
end L2

/-! enumerate(a tuple); reversed(a tuple) walked; list.insert, with names. -/
namespace L2
open PySem PySem.Spec PyProof.Rows
/-- the items of a tuple, numbered, each in a new pair -/
def Itet (K : PySem.W.Frag) (a : Addr) (xs : List V) : It :=
  ⟨fun i H => SqT K H a xs ∧ i < xs.length, fun i H v H' => ∃ T x, v = .ref T ∧ H T = none ∧ H' = upd H T (.tup [.int (i : Nat), x]) ∧ xs[i]? = some x, fun i H => SqT K H a xs ∧ xs.length ≤ i⟩
theorem turn_enumT {P : Program} {w : World} {K : PySem.W.Frag} {elts : List Expr} {kk : Nat} {tpos : Pos} {a : Addr} {xs : List V} (e it : Addr) :
    Turn P w K (.Tuple elts kk tpos) (Itet K a xs) [e, it] e (fun i h => (∃ old, IsEnum h e it ((i : Nat) : Int) old) ∧ h.IsTupleIter it a i ∧ e ≠ it ∧ e ≠ a ∧ i ≤ xs.length) where
  mem := by simp
  obj := fun i h sx b hb => by
    obtain ⟨⟨old, he⟩, ⟨o, ho, hc, hd⟩, _⟩ := sx
    rcases (by simpa using hb : b = e ∨ b = it) with z | z
    · rw [z]; exact ⟨_, he, fun v q => nomatch q⟩
    · rw [z]; exact ⟨o, ho, fun v q => by rw [hd] at q; cases q⟩
  keep := fun i h h' sx k => let ⟨⟨old, he⟩, hi, hne⟩ := sx; ⟨⟨old, k e (by simp) _ he⟩, hi.at fun o q => k it (by simp) o q, hne⟩
  item := by
    intro X hP hw hK hc i pins s σ H E I hf sx hg
    subst hP hw hK
    obtain ⟨⟨old, he⟩, hit, hne, hea, hle⟩ := sx
    obtain ⟨hq, hi⟩ := hg
    obtain ⟨its, rv, p2, _⟩ := I.tuple hq
    have hx : xs[i]? = some xs[i] := List.getElem?_eq_getElem hi
    obtain ⟨u, hu, ru⟩ := rv.get hx
    have n1 := rv.length
    have hel : e < s.heap.objs.size := Heap.lt_size he
    have hil : it < s.heap.objs.size := by obtain ⟨_, q, _⟩ := hit; exact Heap.lt_size q
    have hd1 : X.A.in1.handled = none := I.ok.hd hc
    have nea : a ≠ it := fun q => by
      obtain ⟨o, ho, hc1, _⟩ := id p2
      obtain ⟨o', ho', hc2, _⟩ := id hit
      rw [q, ho'] at ho; cases ho; rw [hc2] at hc1; exact absurd (Value.type.inj hc1) (by decide)
    refine wpAny_pyNext_enum_itemD (Draws.tuple hd1 it a nea its.toArray) he ⟨hit, p2⟩ (by simp; omega) hne (by simp; exact ⟨hne, hea⟩) fun x h' tk hen ho hit' hT hz hk => ?_
    have w1 : x = u := by rw [show its.toArray[i]? = some u by simpa using hu] at hen; exact (Option.some.inj hen).symm
    subst w1
    refine ⟨_, rfl, wpAny_letOwnedTupleGo_enum (s := { s with heap := h', toks := tk + 1 }) ho fun h'' he' sb => ?_⟩
    have hT2 : h''.get? s.heap.objs.size = some { cls := .type "tuple", data := .seq #[.int i tk, x] } := (sb.2 _ (Nat.ne_of_gt hel)).trans hT
    have new : ObjOk X.prog X.w (upd H s.heap.objs.size (.tup [.int (i : Nat), xs[i]])) h'' s.heap.objs.size (.tup [.int (i : Nat), xs[i]]) :=
      ⟨by show 2 ≤ sizeLine; decide, [.int i tk, x], .cons ⟨_, rfl⟩ (.cons ru .nil), ⟨_, hT2, rfl, _, rfl⟩⟩
    have I1 : Inv X pins σ (upd H s.heap.objs.size (.tup [.int (i : Nat), xs[i]])) { s with heap := h'', toks := tk + 1 } :=
      I.turnedNew (ch := [e, it]) (fun b ob hb q => (sb.2 b (fun z => hb (by simp [z]))).trans (hk b ob (fun z => hb (by simp [z])) (fun z => hb (by simp [z])) q)) hf (Nat.le_refl _) new
    have he3 : IsEnum h'' e it (((i + 1 : Nat) : Int)) x := by
      have e1 : ((i + 1 : Nat) : Int) = (i : Int) + 1 := by omega
      rw [e1]; exact he'
    have fz : ∀ b ∈ [e, it], upd H s.heap.objs.size (.tup [.int (i : Nat), xs[i]]) b = none := fun b hb => by
      have hb' : b < s.heap.objs.size := by
        rcases (by simpa using hb : b = e ∨ b = it) with z | z
        · rw [z]; exact hel
        · rw [z]; exact hil
      rw [upd_ne (Nat.ne_of_lt hb')]
      exact (hf b hb).1
    exact ⟨.ref s.heap.objs.size, _, I1, rfl, ⟨_, xs[i], rfl, I.hok.fresh (Nat.le_refl _), rfl, hx⟩, ⟨⟨x, he3⟩, hit'.1.at fun o q => (sb.2 it (Ne.symm hne)).trans q, hne, hea, hi⟩, fz⟩
  done := by
    intro X hP hw hK hc i pins s σ H E I hf sx hg
    subst hP hw hK
    obtain ⟨⟨old, he⟩, hit, hne, hea, hle⟩ := sx
    obtain ⟨hq, hi⟩ := hg
    obtain ⟨its, rv, p2, _⟩ := I.tuple hq
    have n1 := rv.length
    obtain ⟨f0, f1, f2, f3, f4, f5⟩ := hf it (by simp)
    have hd1 : X.A.in1.handled = none := I.ok.hd hc
    have nea : a ≠ it := fun q => by
      obtain ⟨o, ho, hc1, _⟩ := id p2
      obtain ⟨o', ho', hc2, _⟩ := id hit
      rw [q, ho'] at ho; cases ho; rw [hc2] at hc1; exact absurd (Value.type.inj hc1) (by decide)
    have ei : i = its.toArray.size := by simp; omega
    subst ei
    exact wpAny_pyNext_enum_endD (Draws.tuple hd1 it a nea its.toArray) he ⟨hit, p2⟩ fun h' eb => ⟨rfl, I.turned (t' := s.toks) (fun b o hb q => eb b o hb q) f0 f1 f3 f4 f5⟩
  self := fun A i s Q E sx h => let ⟨⟨_, he⟩, _⟩ := sx; wpAny_pyIter_enum he h
def iEnumT (K : PySem.W.Frag) (td : TA) : TI := fun σ H R => td σ H fun vs H1 => ∃ a xs, vs = [.ref a] ∧ SqT K H1 a xs ∧ R (Itet K a xs) H1
theorem pi_enumT {X : Cx} {e : Expr} {ta : TA} {p pos tpos : Pos} {elts : List Expr} {kk : Nat} (hg : Gl X "enumerate") (hm : X.mg "enumerate" = none) (ha : PA X [e] ta) (hs : starEach [e] X.env = [(false, eval e X.env)] := by rfl) :
    PI X (.Tuple elts kk tpos) (.Call (.Name "enumerate" p) [e] [] pos) (iEnumT X.K ta) := by
  refine ⟨fun pins s σ H R I h => ?_⟩
  refine Call_ (ld_blt I hg hm boot_enumerate (PyProof.Rows.callWith_type1 (thn (ha.run pos pins s σ H _ I h) fun us s1 ⟨vs, H1, I1, r1, a, xs, ex, hq, q⟩ => ?_) hs rfl))
  subst ex
  cases r1 with
  | cons r rr =>
    cases rr
    cases r
    obtain ⟨its, rv, p2, _⟩ := I1.tuple hq
    have la : a < s1.heap.objs.size := p2.lt
    refine enum1_begins (begins_tuple a its.toArray) p2 fun h' he hit hk => wpAny_pyIter_enum he ?_
    have I2 : Inv X pins σ H1 { s1 with heap := h' } := I1.kept (t' := s1.toks) hk
    refine ⟨s1.heap.objs.size + 1, [s1.heap.objs.size + 1, s1.heap.objs.size], _, _, H1, rfl, I2, turn_enumT (s1.heap.objs.size + 1) s1.heap.objs.size, ⟨⟨.none, he⟩, ⟨_, hit, rfl, rfl⟩, Nat.succ_ne_self _, Nat.ne_of_gt (Nat.lt_succ_of_lt la), Nat.zero_le _⟩, fun b hb => ?_, q⟩
    have le : s1.heap.objs.size ≤ b := by
      rcases (by simpa using hb : b = s1.heap.objs.size + 1 ∨ b = s1.heap.objs.size) with z | z
      · rw [z]; exact Nat.le_add_right _ _
      · rw [z]; exact Nat.le_refl _
    exact I1.fpOk le (I1.hok.fresh le)
def rInsL : V → List V → Hp → VK → Prop := fun x vs H Q => ∃ (l : Addr) (xs : List V) (i : Int) (y : V), x = .ref l ∧ vs = [.int i, y] ∧ H l = some (.lst xs) ∧ xs.length < sizeLine ∧ 0 ≤ i ∧ i < 2 ^ 63 ∧ Q .non (upd H l (.lst (xs.take i.toNat ++ [y] ++ xs.drop i.toNat)))
theorem walk_enumT {K : PySem.W.Frag} {a : Addr} {xs : List V} : Walk (Itet K a xs) xs.length (fun H => SqT K H a xs) (YPair (fun i => some (.int (i : Nat))) (fun i => xs[i]?)) :=
  ⟨fun i H hi q => ⟨q, hi⟩, fun _ q => ⟨q, Nat.le_refl _⟩, fun i H x H' hi q ⟨T, y, h1, h2, h3, h4⟩ => ⟨T, _, y, h1, h2, h3, rfl, h4⟩⟩
end L2

/-! o.m(..), m a method that lets own errors out: they go on to the caller's end, at its slots. -/
namespace L2
open PySem PySem.Spec PyProof.Rows
def tMethX (C : Addr) (m : Str) (sp : Sp) (E : St → XK) (ta : TE) (t : TA) : TE := fun σ H Q => ta σ H fun x H1 => ∃ a dx fs, x = .ref a ∧ H1 a = some (.ins C dx fs) ∧ fs.lookup m = none ∧ t σ H1 fun vs H2 => sp (x :: vs) H2 Q (E σ)
section
variable {X : Cx} {CX : CXT} {k : Nat} {f C : Addr} {fd : FuncData} {ps : List Str} {sp : Sp} {E : St → XK} {m : Str} {pos apos : Pos} {e o : Expr} {es : List Expr} {ta : TE} {t : TA}
theorem pe_methX {pl : Sem Bool} (ho : PE X o ta) (cl : Cls X.K C) (hm : Meth X.K C m f) (F : FnOk X.prog X.w X.K X.mg X.base CX k f fd ps sp) (hr : Room k X.A) (hb : Binds X.K fd ps []) (hx : ∀ σ, PassesAt CX X σ (E σ)) (ha : PA X (e :: es) t)
    (s1 : starEach (e :: es) X.env = (false, eval e X.env) :: starEach es X.env := by rfl) (s2 : (backTo pos (starEach es X.env)).any (·.1) = false := by rfl)
    (line : eval (.Call (.Attribute o m apos) (e :: es) [] pos) X.env = (eval o X.env >>= fun ov => standAt apos.atName >>= fun _ => holding [ov] (getMethod ov m pl) >>= fun fm =>
      callWith pos fm.1 fm.2 (backTo pos (starEach (e :: es) X.env)) (backToKw pos (keywordEach [] X.env))) := by rfl) :
    PE X (.Call (.Attribute o m apos) (e :: es) [] pos) (tMethX C m sp E ta t) := by
  constructor
  intro pins s σ H Q I h
  refine PySem.W.methodCall_KW (pl := pl) (thn (ho.run pins s σ H _ I h) fun u st hh => ?_) line
  obtain ⟨x, H1, I1, rx, a, dx, fs, rfl, ha1, nl, q⟩ := hh
  obtain rfl : u = Value.ref a := rx
  refine getmeth_ok I1 ha1 cl hm nl (PySem.W.callWith_K (first := [.ref a]) (h₀ := X.base) I.ok.mod.kin hm.kp (thn (ha.run pos pins st σ H1 _ I1 q) fun us st2 h2 => ?_) s1 s2)
  obtain ⟨vs, H2, I2, r, q2⟩ := h2
  exact ⟨I2.kIn, run_fnS (us := .ref a :: us) (vs := .ref a :: vs) F hr hb (hx σ) I2 (.cons rfl r) q2⟩
theorem pe_methX0 {pl : Sem Bool} (ho : PE X o ta) (cl : Cls X.K C) (hm : Meth X.K C m f) (F : FnOk X.prog X.w X.K X.mg X.base CX k f fd ps sp) (hr : Room k X.A) (hb : Binds X.K fd ps []) (hx : ∀ σ, PassesAt CX X σ (E σ))
    (line : eval (.Call (.Attribute o m apos) [] [] pos) X.env = (eval o X.env >>= fun ov => standAt apos.atName >>= fun _ => holding [ov] (getMethod ov m pl) >>= fun fm =>
      callWith pos fm.1 fm.2 (backTo pos (starEach [] X.env)) (backToKw pos (keywordEach [] X.env))) := by rfl) :
    PE X (.Call (.Attribute o m apos) [] [] pos) (tMethX C m sp E ta tNil) := by
  constructor
  intro pins s σ H Q I h
  refine PySem.W.methodCall_KW (pl := pl) (thn (ho.run pins s σ H _ I h) fun u st hh => ?_) line
  obtain ⟨x, H1, I1, rx, a, dx, fs, rfl, ha1, nl, q⟩ := hh
  obtain rfl : u = Value.ref a := rx
  refine getmeth_ok I1 ha1 cl hm nl ?_
  exact PySem.W.callWith_K0 (first := [.ref a]) I1.kIn hm.kp (run_fnS (us := [.ref a]) (vs := [.ref a]) F hr hb (hx σ) I1 (.cons rfl .nil) q)
end
end L2

/-! x in a list of texts, x of any kind. -/
namespace PySem.SeqAt
open AutoSeq1 (wpAny_loadPart')
open MeetsSeq
theorem sub_dict_str : isSubtype (.type "dict") (.type "str") = pure false := by
  rw [isSubtype_type]
  kernel_rfl
abbrev dO (es : Array DictEntry) (ep : Nat) (dd : Option Addr) (sl : Array (Option Value)) : Obj := { cls := .type "dict", dict := dd, data := .dict es ep, slots := sl }
theorem sub_str_dict : isSubtype (.type "str") (.type "dict") = pure false := by
  rw [isSubtype_type]
  kernel_rfl
theorem str_no_dict (b : Str) (u : Tok) (l : Addr) (es : Array DictEntry) (ep : Nat) (dd : Option Addr) (sl : Array (Option Value)) :
    Meets (Builtin.«str.__eq__» ⟨[.str b u, .ref l], []⟩) (fun _ R s => s.heap.get? l = some (dO es ep dd sl) ∧ R (.ok (.ret .notImplemented)) s) :=
  .of_wp fun prog w A R s h => by
    obtain ⟨hp, g, d, tk, os⟩ := s
    obtain ⟨ho, h⟩ := h
    have f2 := sub_dict_str
    wp_walk using wpAny_loadPart' ho, wpAny_load ho
    exact ⟨_, rfl, h⟩
theorem dict_no_str (b : Str) (u : Tok) (l : Addr) (es : Array DictEntry) (ep : Nat) (dd : Option Addr) (sl : Array (Option Value)) :
    Meets (Builtin.«dict.__eq__» ⟨[.ref l, .str b u], []⟩) (fun _ R s => s.heap.get? l = some (dO es ep dd sl) ∧ R (.ok (.ret .notImplemented)) s) :=
  .of_wp fun prog w A R s h => by
    obtain ⟨hp, g, d, tk, os⟩ := s
    obtain ⟨ho, h⟩ := h
    have f1 := sub_str_dict
    wp_walk using wpAny_loadPart' ho
    exact ⟨_, rfl, h⟩
section
variable {A : Around} {s : Shared}
theorem eq_str_dict {l : Addr} {es : Array DictEntry} {ep : Nat} {dd : Option Addr} {sl : Array (Option Value)} (b : Str) (u : Tok) (ho : s.heap.get? l = some (dO es ep dd sl)) (hu : A.units < cLine) : EqAt A s (.str b u) (.ref l) false := fun prog w E Q h => by
  unfold eqBool
  refine wpAny_holding (wpAny_ite_split (fun hab => absurd (eq_of_beq hab) nofun) (fun _ => wpAny_bind ?_))
  refine rc_eq_decline_or (k := false) (typeIs_str s b u) ⟨_, ho, rfl⟩ (by decide) sub_dict_str F.slot_str_eq F.slot_dict_eq_refl (fun _ hq => ?_) (fun _ hq => ?_) (fun _ hq => wpAny_of_eq (rfl : isSame (.str b u) (.ref l) = pure false) hq) (.inr hu) (wpAny_truthy_bool h)
  · exact call_meets F.slot_str_eq (typeIs_str s b u) F.entry_str_eq (F.args_str_eq_2 _ _) (str_no_dict b u l es ep dd sl) ⟨ho, hq⟩
  · exact call_meets F.slot_dict_eq_refl ⟨_, ho, rfl⟩ F.entry_dict_eq (F.args_dict_eq_2 _ _) (dict_no_str b u l es ep dd sl) ⟨ho, hq⟩
end
end PySem.SeqAt
namespace L2
open PySem PySem.Spec PyProof.Rows
/-- a text, a flat value, a list, a tuple, a dict -/
def AnyK (K : PySem.W.Frag) (H : Hp) : V → Prop
  | .ref a => (∃ xs, SqL K H a xs) ∨ (∃ xs, SqT K H a xs) ∨ ∃ kvs, H a = some (.dK kvs)
  | v => flatV v = true
theorem inV_ref (a : Addr) (l : List Str) : inV (.ref a) (l.map V.str) = false := by
  unfold inV
  rw [List.any_map, List.any_eq_false]
  intro x _
  show ¬ (false = true)
  exact Bool.false_ne_true
section
variable {X : Cx} {pins : List (Addr × Obj)} {σ : St} {H : Hp} {s : Shared}
theorem ref_eqAt {A : Around} (hu : A.units < cLine) {a : Addr} (I : Inv X pins σ H s) (k : AnyK X.K H (.ref a)) : ∀ {l : List Str} {us : List Value}, Vals (l.map V.str) us → ∀ u ∈ us, SeqAt.EqAt A s u (.ref a) (eqU (.ref a) u) := by
  intro l us r u hm
  obtain ⟨x, t, rfl⟩ : ∃ x t, u = Value.str x t := by
    clear k
    induction l generalizing us with
    | nil => cases r; cases hm
    | cons y l ih =>
      cases r with
      | cons r1 r2 =>
        rcases List.mem_cons.mp hm with rfl | hm
        · obtain ⟨t, rfl⟩ := r1; exact ⟨y, t, rfl⟩
        · exact ih r2 hm
  rcases k with ⟨xs, h⟩ | ⟨xs, h⟩ | ⟨kvs, h⟩
  · obtain ⟨its, _, pl, _⟩ := I.list h
    exact SeqAt.EqAt.str_list x t pl.isList hu
  · obtain ⟨its, _, pl, _⟩ := I.tuple h
    exact SeqAt.EqAt.str_tuple x t pl hu
  · obtain ⟨_, _, vs, _, o, es, ep, h1, h2, h3⟩ := (show ObjOk X.prog X.w H s.heap a (.dK kvs) from I.hok a _ h)
    obtain ⟨oc, od, dt, osl⟩ := o
    obtain ⟨c1, c2, c3⟩ := h2
    simp only at c1 c2 c3
    subst c1 c2 c3
    exact SeqAt.eq_str_dict (es := es) (ep := ep) (dd := none) (sl := #[]) x t (by rw [h1, show dt = Data.dict es ep from h3.1]) hu
end
/-- x in xs, xs a list or a tuple of texts -/
def rInA (K : PySem.W.Frag) (neg : Bool) : R2 := fun x y H Q => ∃ (p : Addr) (l : List Str), y = .ref p ∧ (SqL K H p (l.map V.str) ∨ SqT K H p (l.map V.str)) ∧ AnyK K H x ∧ Q (.bl (if neg then !inV x (l.map V.str) else inV x (l.map V.str))) H
theorem flat_strs (l : List Str) : (l.map V.str).all flatV = true := by
  rw [List.all_map, List.all_eq_true]
  intro x _; rfl
section
variable {X : Cx}
theorem any_ref {a : Addr} : ∀ {l : List Str} {us : List Value}, Vals (l.map V.str) us → us.any (eqU (.ref a)) = inV (.ref a) (l.map V.str) := fun {l us} r => any_eqU r (flat_strs l)
theorem op_inA (hu : X.A.units + 1 < cLine) : OpR X (compareOp .In) (rInA X.K false) := by
  intro pins s σ H x y v u Q I rx ry h
  obtain ⟨p, l, rfl, hq, k, q⟩ := h
  by_cases f : flatV x = true
  · exact op_in_seq pins s σ H x _ v u Q I rx ry ⟨p, _, rfl, hq, f, flat_strs l, q⟩
  · obtain ⟨a, rfl⟩ : ∃ a, x = .ref a := by
      cases x with
      | ref a => exact ⟨a, rfl⟩
      | _ => exact absurd k f
    cases rx
    cases ry
    rcases hq with hq | hq
    · obtain ⟨its, r, pl, hz⟩ := I.list hq
      refine SeqAt.in_listAt (eqU (.ref a)) pl.isList (fun w hw => ref_eqAt (A := X.A.in1) hu I k r w (by simpa using hw)) ⟨.bl _, H, I, rfl, ?_⟩
      rw [show its.toArray.any (eqU (.ref a)) = its.any (eqU (.ref a)) by simp, any_ref r]
      exact q
    · obtain ⟨its, r, pl, hz⟩ := I.tuple hq
      refine SeqAt.in_tupleAt (eqU (.ref a)) pl (fun w hw => ref_eqAt (A := X.A.in1) hu I k r w (by simpa using hw)) ⟨.bl _, H, I, rfl, ?_⟩
      rw [show its.toArray.any (eqU (.ref a)) = its.any (eqU (.ref a)) by simp, any_ref r]
      exact q
theorem op_notInA (hu : X.A.units + 1 < cLine) : OpR X (compareOp .NotIn) (rInA X.K true) := by
  intro pins s σ H x y v u Q I rx ry h
  obtain ⟨p, l, rfl, hq, k, q⟩ := h
  by_cases f : flatV x = true
  · exact op_notIn_seq pins s σ H x _ v u Q I rx ry ⟨p, _, rfl, hq, f, flat_strs l, q⟩
  · obtain ⟨a, rfl⟩ : ∃ a, x = .ref a := by
      cases x with
      | ref a => exact ⟨a, rfl⟩
      | _ => exact absurd k f
    cases rx
    cases ry
    rcases hq with hq | hq
    · obtain ⟨its, r, pl, hz⟩ := I.list hq
      refine SeqAt.notIn_listAt (eqU (.ref a)) pl.isList (fun w hw => ref_eqAt (A := X.A.in1) hu I k r w (by simpa using hw)) ⟨.bl _, H, I, rfl, ?_⟩
      rw [show its.toArray.any (eqU (.ref a)) = its.any (eqU (.ref a)) by simp, any_ref r]
      exact q
    · obtain ⟨its, r, pl, hz⟩ := I.tuple hq
      refine SeqAt.notIn_tupleAt (eqU (.ref a)) pl (fun w hw => ref_eqAt (A := X.A.in1) hu I k r w (by simpa using hw)) ⟨.bl _, H, I, rfl, ?_⟩
      rw [show its.toArray.any (eqU (.ref a)) = its.any (eqU (.ref a)) by simp, any_ref r]
      exact q
end
end L2

/-! list(d.values()) -/
namespace L2
open PySem PySem.Spec PyProof.Rows
def tListVals (te : TE) : TE := fun σ H Q => te σ H fun x H1 => ∃ d kvs, x = .ref d ∧ H1 d = some (.dK kvs) ∧ ∀ q, H1 q = none → Q (.ref q) (upd H1 q (.lst (kvs.map (·.2))))
theorem pe_listVals {X : Cx} {e : Expr} {te : TE} {p apos cpos pos : Pos} (hc : X.calm = true) (he : PE X e te) (hg : Gl X "list") (hm : X.mg "list" = none) (hv : bootBuiltins "list" = some (.type "list"))
    (base : attributeBase e "values" X.env (eval e X.env) = eval e X.env := by rfl) (line : (apos.endLine == cpos.line) = true := by rfl)
    (st : starEach [.Call (.Attribute e "values" apos) [] [] cpos] X.env = (false, eval (.Call (.Attribute e "values" apos) [] [] cpos) X.env) :: starEach [] X.env := by rfl) :
    PE X (.Call (.Name "list" p) [.Call (.Attribute e "values" apos) [] [] cpos] [] pos) (tListVals te) := by
  constructor
  intro pins s σ H Q I h
  refine wpAny_Call_Name_kw (ld_blt I hg hm hv (PyProof.Rows.callWith_type1 ?_ st rfl))
  rw [st]
  show wpAny _ _ (spliced ((false, eval (.Call (.Attribute e "values" apos) [] [] cpos) X.env) :: backTo pos (starEach [] X.env))) _ _ s
  refine Calls.spliced_cons (wpAny_Call_method (T := "dict") (id := "dict.values") base rfl line F.plainAttrs_dict F.slot_dict_values F.type_dict_values (thn (he.run pins s σ H _ I h) fun u s1 hh => ?_))
  obtain ⟨x, H1, I1, rx, d, kvs, rfl, hd, q⟩ := hh
  obtain rfl : u = Value.ref d := rx
  obtain ⟨hz, sys, vs, kv, hdo⟩ := I1.hok d _ hd
  obtain ⟨ep, hat⟩ := hdo.dictAt
  have lk : kvs.length = vs.length := Paired.length kv
  have I2 : Inv X pins σ H1 { s1 with heap := s1.heap.push { cls := .type "dict_values", data := .fields #[.ref d] } } := I1.kept (t' := s1.toks) fun b ob z => Heap.get?_push_of_some _ z
  refine ⟨hdo.typeIs, hdo.mapOf.noDict, ?_⟩
  show wpAny _ _ (callWith cpos (.builtin "dict.values") [.ref d] [] []) _ X.xe s1
  refine method_meetsIn F.slot_dict_values F.entry_dict_values rfl (PySem.evalArgs_none ⟨rfl, hdo.typeIs, F.args_dict_values_1 _, _, meets_dict_values (mixKind X.prog X.w) d sys, ⟨vs, hdo⟩, Calls.spliced_nil ?_⟩)
  refine PySem.W.kdl_call (PySem.W.kdl_values (knd := mixKind X.prog X.w) (kvs := vs) (ep := ep)) (I1.ok.hd hc) ⟨⟨_, Heap.get?_push_size _ rfl, rfl, rfl⟩, hat.push _⟩ (by rw [← lk]; exact hz) fun h' tk acc c keep hS hacc => ?_
  refine ⟨.ref _, _, I2.laid (t' := tk) (o := .lst (kvs.map (·.2))) keep (Nat.le_refl _) ⟨by rw [List.length_map]; exact hz, acc.toList, c, ?_, by rw [Array.toArray_toList]; exact hS⟩, rfl, q _ (I2.hok.fresh (Nat.le_refl _))⟩
  refine vals_of_at (by rw [List.length_map, lk]; have := hacc.1; simp [this]) fun j v w h1 h2 => ?_
  obtain ⟨k, hk⟩ := hacc.2 j w (by rw [← Array.getElem?_toList]; exact h2)
  rw [List.getElem?_map] at h1
  cases e2 : kvs[j]? with
  | none => rw [e2] at h1; cases h1
  | some pr =>
    rw [e2] at h1
    obtain ⟨y, g1, g2, g3⟩ := LiI.paired_get kv e2
    rw [hk] at g1
    cases g1
    cases (Option.some.inj h1)
    exact g3
end L2

/-! d.update(e) of two dicts -/
namespace L2
open PySem PySem.Spec PyProof.Rows
section
variable {X : Cx}
def rUpdK : V → List V → Hp → VK → Prop := fun x xs H Q => ∃ (a b : Addr) (kvs more : List (Key × V)), x = .ref a ∧ xs = [.ref b] ∧ H a = some (.dK kvs) ∧ H b = some (.dK more) ∧ a ≠ b ∧ kvs.length + more.length ≤ sizeLine ∧ Q .non (upd H a (.dK (mergeK kvs more)))
theorem mt_update : MtR X "dict.update" rUpdK := by
  intro pins s σ H x xs v us Q I rx rv h
  obtain ⟨a, b, kvs, more, rfl, rfl, ha, hb, ne, ln, q⟩ := h
  cases rx
  obtain ⟨u, rfl, ru⟩ := rv.one
  cases ru
  obtain ⟨z, hd, vs, rel, dd⟩ := dk_of I.hok ha
  obtain ⟨z2, hd2, vs2, rel2, dd2⟩ := dk_of I.hok hb
  refine call_meetsIn PySem.F.slot_dict_update dd.typeIs PySem.F.entry_dict_update (PySem.F.args_dict_update_2 _ _) (meets_dict_update (mixKind X.prog X.w) a b ne hd2)
    ⟨vs, vs2, dd, dd2, by rw [← rel.length, ← rel2.length]; exact ln, fun h' dd' _ hs => ?_⟩
  have he : ∃ q, h'.get? a = some q := let ⟨q, _, _, hq, _⟩ := dd'; ⟨q, hq⟩
  exact ⟨.non, _, d_write I (by rw [ha]; exact True.intro) hs he (dk_new (Nat.le_trans (length_mergeK more kvs) ln) hd (rel2.merge rel) dd'), rfl, q⟩
end
end L2

/-! dict(zip(a list of keys, a tuple)) -/
namespace L2
open PySem PySem.Spec PyProof.Rows
section
variable {prog : Program} {w : World} {A : Around} {E : Value → Shared → Prop} {s : Shared} {z TI TO T i1 i2 : Addr} {fp1 fp2 : List Addr} {n1 n2 i : Nat} {P1 P2 : Nat → Value → Prop} {St1 St2 : Nat → Heap → Prop} {f : Bool} {oT : Obj}
/-- the next pair, while the tuple of the one before is still out -/
theorem dz_item {Q : Value → Shared → Prop} (S : ZipSep2 z TI TO i1 i2 fp1 fp2) (D1 : Draws prog w A i1 fp1 n1 P1 St1) (D2 : Draws prog w A i2 fp2 n2 P2 St2) (hz : IsZipHeld s.heap z TI TO T f) (hT : s.heap.get? T = some oT)
    (hTI : IsTupOf2 s.heap TI (.ref i1) (.ref i2)) (st1 : St1 i s.heap) (st2 : St2 i s.heap) (l1 : i < n1) (l2 : i < n2)
    (hQ : ∀ x y h' tk, P1 i x → P2 i y → IsZipHeld h' z TI TO T true → St1 (i + 1) h' → St2 (i + 1) h' → IsTupOf2 h' s.heap.objs.size x y → (∀ c o, c ≠ z → c ≠ i1 → c ≠ i2 → s.heap.get? c = some o → h'.get? c = some o) → Q (.ref s.heap.objs.size) { s with heap := h', toks := tk }) :
    wpAny (model prog w) A (Builtin.«zip.__next__» ⟨[.ref z], []⟩) (fun fin s' => ∃ v, fin = .done (.ret v) ∧ Q v s') E s := by
  obtain ⟨hp, g, d, tk0, os⟩ := s
  show wpAny _ _ (field (.ref z) 2 >>= _) _ _ _
  refine wpAny_bind (wpAny_field hz rfl (x := .bool false) rfl ?_)
  show wpAny _ _ (field (.ref z) 3 >>= _) _ _ _
  refine wpAny_bind (wpAny_field hz rfl (x := .ref TI) rfl ?_)
  refine wpAny_bind (wpAny_seqItems hTI rfl ?_)
  show wpAny _ _ (Builtin.SmallTypes.ownedTupleIsFree (.ref z) >>= _) _ _ _
  refine wpAny_bind (wpAny_tupleHeld_zip hz hT fun g0 hz0 hs0 => ?_)
  replace hs0 : Heap.SameBut z hp g0 := hs0
  simp only [Bool.false_eq_true, if_false]
  refine wpAny_bind ?_
  rw [← Array.forIn_toList]
  simp only [List.forIn_cons, List.forIn_nil]
  refine wpAny_bind (wpAny_bind (wpAny_holding ?_))
  show wpAny _ _ (Builtin.SmallTypes.nextOf (.ref i1) >>= _) _ _ ⟨g0, g, d, tk0, os⟩
  refine wpAny_bind (D1.item i _ _ _ l1 (D1.over st1 hs0 S.zf1) fun x p1 tk1 hx1 sn1 hp1 => wpAny_pure ?_)
  replace hp1 : Heap.SameBut i1 g0 p1 := hp1
  refine wpAny_pure ?_
  refine wpAny_bind (wpAny_bind (wpAny_holding ?_))
  show wpAny _ _ (Builtin.SmallTypes.nextOf (.ref i2) >>= _) _ _ ⟨p1, g, d, tk1, os⟩
  refine wpAny_bind (D2.item i _ _ _ l2 (D2.over (D2.over st2 hs0 S.zf2) hp1 S.sep1_2) fun y p2 tk2 hx2 sn2 hp2 => wpAny_pure ?_)
  replace hp2 : Heap.SameBut i2 p1 p2 := hp2
  refine wpAny_pure (wpAny_pure ?_)
  show wpAny _ _ (newTuple [x, y] >>= _) _ _ ⟨p2, g, d, tk2, os⟩
  refine wpAny_bind (wpAny_newTuple ?_)
  have hsz : p2.objs.size = hp.objs.size := by rw [hp2.1, hp1.1, hs0.1]
  have zz : IsZipHeld p2 z TI TO T true := hp2.extBut _ _ S.zi2 (hp1.extBut _ _ S.zi1 hz0)
  have kk : ∀ c o, c ≠ z → c ≠ i1 → c ≠ i2 → hp.get? c = some o → p2.get? c = some o := fun c o c1 c2 c3 e => hp2.extBut _ _ c3 (hp1.extBut _ _ c2 (hs0.extBut _ _ c1 e))
  have up : ∀ c o, p2.get? c = some o → (p2.push { cls := .type "tuple", data := .seq #[x, y] }).get? c = some o := fun c o e => Heap.get?_push_of_some _ e
  have hj1 : St1 (i + 1) (p2.push { cls := .type "tuple", data := .seq #[x, y] }) := D1.frame _ _ _ (D1.over sn1 hp2 S.sep2_1) fun b _ o e => up b o e
  have hj2 : St2 (i + 1) (p2.push { cls := .type "tuple", data := .seq #[x, y] }) := D2.frame _ _ _ sn2 fun b _ o e => up b o e
  have tt : IsTupOf2 (p2.push { cls := .type "tuple", data := .seq #[x, y] }) p2.objs.size x y := Heap.get?_push_size _ rfl
  refine wpAny_pure ⟨_, rfl, ?_⟩
  show Q (.ref p2.objs.size) _
  rw [hsz] at tt ⊢
  exact hQ x y _ tk2 hx1 hx2 (up _ _ zz) hj1 hj2 tt fun c o c1 c2 c3 e => up c o (kk c o c1 c2 c3 e)
theorem dz_end {Q : Fin → Shared → Prop} (S : ZipSep2 z TI TO i1 i2 fp1 fp2) (D1 : Draws prog w A i1 fp1 n1 P1 St1) (D2 : Draws prog w A i2 fp2 n2 P2 St2) (hz : IsZipHeld s.heap z TI TO T f) (hT : s.heap.get? T = some oT)
    (hTI : IsTupOf2 s.heap TI (.ref i1) (.ref i2)) (st1 : St1 i s.heap) (st2 : St2 i s.heap) (l1 : i ≤ n1) (l2 : i ≤ n2) (le : i = n1 ∨ i = n2)
    (hE : ∀ h' tk e, (∀ c o, c ≠ z → c ≠ i1 → c ≠ i2 → s.heap.get? c = some o → h'.get? c = some o) → (∃ o, h'.get? e = some o ∧ o.cls = .type "StopIteration") → E (.ref e) { s with heap := h', toks := tk }) :
    wpAny (model prog w) A (Builtin.«zip.__next__» ⟨[.ref z], []⟩) Q E s := by
  obtain ⟨hp, g, d, tk0, os⟩ := s
  show wpAny _ _ (field (.ref z) 2 >>= _) _ _ _
  refine wpAny_bind (wpAny_field hz rfl (x := .bool false) rfl ?_)
  show wpAny _ _ (field (.ref z) 3 >>= _) _ _ _
  refine wpAny_bind (wpAny_field hz rfl (x := .ref TI) rfl ?_)
  refine wpAny_bind (wpAny_seqItems hTI rfl ?_)
  show wpAny _ _ (Builtin.SmallTypes.ownedTupleIsFree (.ref z) >>= _) _ _ _
  refine wpAny_bind (wpAny_tupleHeld_zip hz hT fun g0 hz0 hs0 => ?_)
  replace hs0 : Heap.SameBut z hp g0 := hs0
  simp only [Bool.false_eq_true, if_false]
  refine wpAny_bind ?_
  rw [← Array.forIn_toList]
  simp only [List.forIn_cons, List.forIn_nil]
  refine wpAny_bind (wpAny_bind (wpAny_holding ?_))
  show wpAny _ _ (Builtin.SmallTypes.nextOf (.ref i1) >>= _) _ _ ⟨g0, g, d, tk0, os⟩
  by_cases hlt1 : i < n1
  · refine wpAny_bind (D1.item i _ _ _ hlt1 (D1.over st1 hs0 S.zf1) fun x p1 tk1 hx1 sn1 hp1 => wpAny_pure ?_)
    replace hp1 : Heap.SameBut i1 g0 p1 := hp1
    refine wpAny_pure ?_
    have hi2 : i = n2 := by omega
    refine wpAny_bind (wpAny_bind (wpAny_holding ?_))
    show wpAny _ _ (Builtin.SmallTypes.nextOf (.ref i2) >>= _) _ _ ⟨p1, g, d, tk1, os⟩
    refine wpAny_bind (D2.done ⟨p1, g, d, tk1, os⟩ _ _ (by rw [← hi2]; exact (D2.over (D2.over st2 hs0 S.zf2) hp1 S.sep1_2)) fun q e hq he => ?_)
    replace hq : Heap.ExtBut i2 p1 q := hq
    exact hE q tk1 e (fun c o c1 c2 c3 x => hq _ _ c3 (hp1.extBut _ _ c2 (hs0.extBut _ _ c1 x))) he
  · have hi1 : i = n1 := by omega
    refine wpAny_bind (D1.done ⟨g0, g, d, tk0, os⟩ _ _ (by rw [← hi1]; exact (D1.over st1 hs0 S.zf1)) fun q e hq he => ?_)
    replace hq : Heap.ExtBut i1 g0 q := hq
    exact hE q tk0 e (fun c o c1 c2 c3 x => hq _ _ c2 (hs0.extBut _ _ c1 x)) he
theorem dzn_item {Q : Option Value → Shared → Prop} (S : ZipSep2 z TI TO i1 i2 fp1 fp2) (D1 : Draws prog w A.in1 i1 fp1 n1 P1 St1) (D2 : Draws prog w A.in1 i2 fp2 n2 P2 St2) (hz : IsZipHeld s.heap z TI TO T f) (hT : s.heap.get? T = some oT)
    (hTI : IsTupOf2 s.heap TI (.ref i1) (.ref i2)) (st1 : St1 i s.heap) (st2 : St2 i s.heap) (l1 : i < n1) (l2 : i < n2)
    (hQ : ∀ x y h' tk, P1 i x → P2 i y → IsZipHeld h' z TI TO T true → St1 (i + 1) h' → St2 (i + 1) h' → IsTupOf2 h' s.heap.objs.size x y → (∀ c o, c ≠ z → c ≠ i1 → c ≠ i2 → s.heap.get? c = some o → h'.get? c = some o) → Q (some (.ref s.heap.objs.size)) { s with heap := h', toks := tk }) :
    wpAny (model prog w) A (pyNext (.ref z)) Q E s := by
  have hTy : s.TypeIs (.ref z) "zip" := ⟨_, hz, rfl⟩
  unfold pyNext
  exact wpAny_bind (wpAny_attempt (wpAny_callSpecial?_slot (name := Str.ofString "__next__") hTy F.slot_zip_next (wpAny_call_entry F.slot_zip_next hTy F.entry_zip_next
    (dz_item S D1 D2 hz hT hTI st1 st2 l1 l2 fun x y h' tk a1 a2 a3 a4 a5 a6 a7 => wpAny_pure (hQ x y h' tk a1 a2 a3 a4 a5 a6 a7)) (F.args_zip_next_1 _))))
theorem dzn_end {Q : Option Value → Shared → Prop} (S : ZipSep2 z TI TO i1 i2 fp1 fp2) (D1 : Draws prog w A.in1 i1 fp1 n1 P1 St1) (D2 : Draws prog w A.in1 i2 fp2 n2 P2 St2) (hz : IsZipHeld s.heap z TI TO T f) (hT : s.heap.get? T = some oT)
    (hTI : IsTupOf2 s.heap TI (.ref i1) (.ref i2)) (st1 : St1 i s.heap) (st2 : St2 i s.heap) (l1 : i ≤ n1) (l2 : i ≤ n2) (le : i = n1 ∨ i = n2)
    (hQ : ∀ h' tk, (∀ c o, c ≠ z → c ≠ i1 → c ≠ i2 → s.heap.get? c = some o → h'.get? c = some o) → Q none { s with heap := h', toks := tk }) : wpAny (model prog w) A (pyNext (.ref z)) Q E s := by
  have hTy : s.TypeIs (.ref z) "zip" := ⟨_, hz, rfl⟩
  unfold pyNext
  refine wpAny_bind (wpAny_attempt (wpAny_callSpecial?_slot (name := Str.ofString "__next__") hTy F.slot_zip_next (wpAny_call_entry F.slot_zip_next hTy F.entry_zip_next
    (dz_end S D1 D2 hz hT hTI st1 st2 l1 l2 le fun h' tk e hk he => ?_) (F.args_zip_next_1 _))))
  obtain ⟨o, ho, hc⟩ := he
  refine wpAny_bind (wpAny_isInstance (T := "StopIteration") (b := true) ⟨o, ho, hc⟩ isSubtype_stop ?_)
  exact wpAny_pure (hQ _ _ hk)
/-- what stands of a zip of a list and a tuple -/
def DzSt (z TI TO i1 i2 a b : Addr) (xs ys : Array Value) (d : Addr) (i : Nat) (h : Heap) : Prop :=
  IsTupOf2 h TI (.ref i1) (.ref i2) ∧ (h.IsListIter i1 a i ∧ h.IsList a xs) ∧ (h.IsTupleIter i2 b i ∧ h.IsTuple b ys) ∧
  ((IsZip h z TI TO .none ∧ ∃ u v, IsTupOf2 h TO u v) ∨ ∃ T f oT, IsZipHeld h z TI TO T f ∧ h.get? T = some oT ∧ T ≠ z ∧ T ≠ i1 ∧ T ≠ i2 ∧ T ≠ d)
def DzOk (z TI TO i1 i2 a b : Addr) (xs ys : Array Value) (h : Heap) : Prop :=
  (IsZip h z TI TO .none ∧ ∃ u v, IsTupOf2 h TO u v) ∧ IsTupOf2 h TI (.ref i1) (.ref i2) ∧ (h.IsListIter i1 a 0 ∧ h.IsList a xs) ∧ (h.IsTupleIter i2 b 0 ∧ h.IsTuple b ys)
theorem pa_zipLT (D : ZipSep2 z TI TO i1 i2 [i1, a] [i2, b]) (nea : a ≠ i1) (neb : b ≠ i2) (xs ys : Array Value) :
    PairArg prog w "zip" z [z, TI, TO, i1, i2, a, b] [z, TO, i1, i2] (min xs.size ys.size) (fun i k v => xs[i]? = some k ∧ ys[i]? = some v) (DzOk z TI TO i1 i2 a b xs ys) where
  type := fun s ok => ⟨_, ok.1.1, rfl⟩
  notDict := by decide
  keep := fun h h' ok hk => by
    obtain ⟨⟨hz, u, v, hTO⟩, hTI, ⟨h1, hl1⟩, h2, hl2⟩ := ok
    exact ⟨⟨hk _ _ hz, u, v, hk _ _ hTO⟩, hk _ _ hTI, ⟨h1.at fun o e => hk _ o e, hl1.at fun o e => hk _ o e⟩, h2.at fun o e => hk _ o e, hl2.at fun o e => hk _ o e⟩
  there := fun h ok c hc => by
    obtain ⟨⟨hz, u, v, hTO⟩, hTI, ⟨⟨o1, h1, _⟩, ⟨o3, hl1, _⟩⟩, ⟨o2, h2, _⟩, ⟨o4, hl2, _⟩⟩ := ok
    rcases (by simpa using hc : c = z ∨ c = TI ∨ c = TO ∨ c = i1 ∨ c = i2 ∨ c = a ∨ c = b) with q | q | q | q | q | q | q <;> rw [q]
    · exact ⟨_, hz⟩
    · exact ⟨_, hTI⟩
    · exact ⟨_, hTO⟩
    · exact ⟨_, h1⟩
    · exact ⟨_, h2⟩
    · exact ⟨_, hl1⟩
    · exact ⟨_, hl2⟩
  sub := fun c hc => by simp at hc ⊢; rcases hc with rfl | rfl | rfl | rfl <;> simp
  noKeys := fun A s Q E hA ok h => getAttrOr_miss_zip ok.1.1 rfl rfl rfl zip_no_keys (by decide +kernel) hA h
  iter := fun A s d Q E hA ok hd hdf h => by
    obtain ⟨⟨hz, u0, v0, hTO⟩, hTI, h1, h2⟩ := ok
    simp only [List.mem_cons, List.not_mem_nil, or_false, not_or] at hdf
    obtain ⟨dz, dTI, dTO, di1, di2, da, db⟩ := hdf
    refine wpAny_pyIter_zip hz (h z [z, TO, i1, i2] (DzSt z TI TO i1 i2 a b xs ys d) s.heap s.toks ?_ ⟨hTI, h1, h2, .inl ⟨hz, u0, v0, hTO⟩⟩ (fun _ _ e => e) fun b hb => .inl hb)
    have hA1 : A.in1.handled = none := hA
    have az : a ≠ z := fun q => D.zf1 (by rw [← q]; simp)
    have bz : b ≠ z := fun q => D.zf2 (by rw [← q]; simp)
    have aT : a ≠ TO := fun q => D.Tf1 (by rw [← q]; simp)
    have bT : b ≠ TO := fun q => D.Tf2 (by rw [← q]; simp)
    exact {
      off := fun hm => by
        rcases (by simpa using hm : d = z ∨ d = TO ∨ d = i1 ∨ d = i2) with e | e | e | e
        · exact dz e
        · exact dTO e
        · exact di1 e
        · exact di2 e
      frame := fun i g1 g2 st hk => by
        obtain ⟨hTI, ⟨h1, hl1⟩, ⟨h2, hl2⟩, hz⟩ := st
        refine ⟨hk _ _ (Ne.symm dTI) hTI, ⟨h1.at fun o e => hk _ o (Ne.symm di1) e, hl1.at fun o e => hk _ o (Ne.symm da) e⟩, ⟨h2.at fun o e => hk _ o (Ne.symm di2) e, hl2.at fun o e => hk _ o (Ne.symm db) e⟩, ?_⟩
        rcases hz with ⟨hz, u, v, hTO⟩ | ⟨T, f, oT, hz, hT, r1, r2, r3, r4⟩
        · exact .inl ⟨hk _ _ (Ne.symm dz) hz, u, v, hk _ _ (Ne.symm dTO) hTO⟩
        · exact .inr ⟨T, f, oT, hk _ _ (Ne.symm dz) hz, hk _ _ r4 hT, r1, r2, r3, r4⟩
      item := fun i s1 Q1 E1 hi st hds hQ => by
        obtain ⟨hTI, h1, h2, hz⟩ := st
        have lx : i < xs.size := Nat.lt_of_lt_of_le hi (Nat.min_le_left ..)
        have ly : i < ys.size := Nat.lt_of_lt_of_le hi (Nat.min_le_right ..)
        have gt : ∀ {c o}, s1.heap.get? c = some o → s1.heap.objs.size ≠ c := fun e => Nat.ne_of_gt (Heap.lt_size e)
        have n1 : s1.heap.objs.size ≠ i1 := let ⟨_, e, _⟩ := h1.1; gt e
        have n2 : s1.heap.objs.size ≠ i2 := let ⟨_, e, _⟩ := h2.1; gt e
        rcases hz with ⟨hz, u, v, hTO⟩ | ⟨T, f, oT, hz, hT, r1, r2, r3, r4⟩
        · refine wpAny_pyNext_zipD2_item D (Draws.list hA1 i1 a nea xs) (Draws.tuple hA1 i2 b neb ys) hz hTI hTO h1 h2 lx ly fun v1 v2 h' tk e1 e2 z' TO' t1 t2 hT hsz hk => ?_
          exact hQ s1.heap.objs.size v1 v2 h' tk ⟨e1, e2⟩ (.inl ⟨_, hT, rfl, _, rfl⟩) ⟨hk _ _ D.TIz D.TITO D.TIi1 D.TIi2 hTI, t1, t2, .inr ⟨s1.heap.objs.size, false, _, z', hT, gt hz, n1, n2, Nat.ne_of_gt hds⟩⟩
            fun c o hc e => hk c o (fun x => hc (by simp [x])) (fun x => hc (by simp [x])) (fun x => hc (by simp [x])) (fun x => hc (by simp [x])) e
        · refine dzn_item D (Draws.list hA1 i1 a nea xs) (Draws.tuple hA1 i2 b neb ys) hz hT hTI h1 h2 lx ly fun v1 v2 h' tk e1 e2 z' t1 t2 hT2 hk => ?_
          exact hQ s1.heap.objs.size v1 v2 h' tk ⟨e1, e2⟩ (.inl ⟨_, hT2, rfl, _, rfl⟩) ⟨hk _ _ D.TIz D.TIi1 D.TIi2 hTI, t1, t2, .inr ⟨T, true, oT, z', hk _ _ r1 r2 r3 hT, r1, r2, r3, r4⟩⟩
            fun c o hc e => hk c o (fun x => hc (by simp [x])) (fun x => hc (by simp [x])) (fun x => hc (by simp [x])) e
      done := fun s1 Q1 E1 st hQ => by
        obtain ⟨hTI, h1, h2, hz⟩ := st
        have le : min xs.size ys.size = xs.size ∨ min xs.size ys.size = ys.size := by omega
        rcases hz with ⟨hz, u, v, hTO⟩ | ⟨T, f, oT, hz, hT, r1, r2, r3, r4⟩
        · exact wpAny_pyNext_zipD2_end D (Draws.list hA1 i1 a nea xs) (Draws.tuple hA1 i2 b neb ys) hz hTI hTO h1 h2 (by omega) (by omega) le fun h' tk hk => hQ h' tk fun c o hc e =>
            hk c o (fun x => hc (by simp [x])) (fun x => hc (by simp [x])) (fun x => hc (by simp [x])) (fun x => hc (by simp [x])) e
        · exact dzn_end D (Draws.list hA1 i1 a nea xs) (Draws.tuple hA1 i2 b neb ys) hz hT hTI h1 h2 (by omega) (by omega) le fun h' tk hk => hQ h' tk fun c o hc e => hk c o (fun x => hc (by simp [x])) (fun x => hc (by simp [x])) (fun x => hc (by simp [x])) e }
end
/-! ### the rule -/
section
variable {X : Cx}
theorem vals_at {l : List Key} {us : List Value} {P : Program} {w : World} (r : Vals (l.map kV) us) {i : Nat} {k : Value} (e : us[i]? = some k) : ∃ y, l[i]? = some y ∧ keyIs y k = true := by
  induction l generalizing us i with
  | nil => cases r; simp at e
  | cons y t ih =>
    cases r with
    | cons h r2 =>
      cases i with
      | zero =>
        simp at e
        subst e
        exact ⟨y, rfl, kV_is (P := P) (w := w) h⟩
      | succ i =>
        obtain ⟨y', e', h'⟩ := ih r2 (i := i) (by simpa using e)
        exact ⟨y', by simpa using e', h'⟩
theorem kv_zip : ∀ {ks : List Key} {ys : List V} {us : List Value}, Vals ys us → KV (ks.zip ys) (ks.zip us)
  | [], _, _, _ => .nil
  | _ :: _, _, _, .nil => .nil
  | _ :: _, _, _, .cons h t => .cons ⟨rfl, h⟩ (kv_zip t)
def tDictZip (K : PySem.W.Frag) (ta : TA) : TE := fun σ H Q => ta σ H fun vs H1 => ∃ (a b : Addr) (ks : List Key) (ys : List V), vs = [.ref a, .ref b] ∧ SqL K H1 a (ks.map kV) ∧ SqT K H1 b ys ∧ ∀ q, H1 q = none → Q (.ref q) (upd H1 q (.dK (mergeK [] (ks.zip ys))))
theorem pe_dictZip {e e2 : Expr} {ta : TA} {p p2 pos pos2 : Pos} (hcalm : X.calm = true) (hgd : Gl X "dict") (hmd : X.mg "dict" = none) (hvd : bootBuiltins "dict" = some (.type "dict")) (hgz : Gl X "zip") (hmz : X.mg "zip" = none) (ha : PA X [e, e2] ta)
    (hs : starEach [e, e2] X.env = (false, eval e X.env) :: starEach [e2] X.env := by rfl) (hpl : (backTo pos2 (starEach [e2] X.env)).any (·.1) = false := by rfl)
    (st : starEach [.Call (.Name "zip" p2) [e, e2] [] pos2] X.env = (false, eval (.Call (.Name "zip" p2) [e, e2] [] pos2) X.env) :: starEach [] X.env := by rfl) :
    PE X (.Call (.Name "dict" p) [.Call (.Name "zip" p2) [e, e2] [] pos2] [] pos) (tDictZip X.K ta) := by
  constructor
  intro pins s σ H Q I h
  refine wpAny_Call_Name_kw (ld_blt I hgd hmd hvd (PyProof.Rows.callWith_type1 ?_ st rfl))
  rw [st]
  show wpAny _ _ (spliced ((false, eval (.Call (.Name "zip" p2) [e, e2] [] pos2) X.env) :: backTo pos (starEach [] X.env))) _ _ s
  refine Calls.spliced_cons (Call_ (ld_blt I hgz hmz PyProof.Rows.boot_zip (PyProof.Rows.callWith_type1 (thn (ha.run pos2 pins s σ H _ I h) fun us s1 ⟨vs, H1, I1, r1, a, b, ks, ys, ex, hqx, hqy, q⟩ => ?_) hs hpl)))
  subst ex
  cases r1 with
  | cons r rr =>
    cases rr with
    | cons r' rr =>
      cases rr
      cases r
      cases r'
      obtain ⟨its, rv, pl, hz1⟩ := I1.list hqx
      obtain ⟨its2, rv2, tp, hz2⟩ := I1.tuple hqy
      have la : a < s1.heap.objs.size := pl.lt
      have lb : b < s1.heap.objs.size := tp.lt
      refine zip_begins2 (begins_list a its.toArray) (begins_tuple b its2.toArray) pl.isList tp fun h' hz hTI hTO h1 h2 hsz hk => ?_
      refine Calls.spliced_nil ?_
      have A : ∀ k : Nat, s1.heap.objs.size + k ≠ a := fun k => Nat.ne_of_gt (Nat.lt_of_lt_of_le la (Nat.le_add_right _ _))
      have B : ∀ k : Nat, s1.heap.objs.size + k ≠ b := fun k => Nat.ne_of_gt (Nat.lt_of_lt_of_le lb (Nat.le_add_right _ _))
      have C : ∀ j k : Nat, j ≠ k → s1.heap.objs.size + j ≠ s1.heap.objs.size + k := fun j k hjk z => hjk (Nat.add_left_cancel z)
      have N2 : ∀ {x y c : Nat}, c ≠ x → c ≠ y → c ∉ [x, y] := fun h1 h2 hm => by
        rcases List.mem_cons.mp hm with q | q
        · exact h1 q
        · exact h2 (List.mem_singleton.mp q)
      have D : ZipSep2 (s1.heap.objs.size + 4) (s1.heap.objs.size + 2) (s1.heap.objs.size + 3) s1.heap.objs.size (s1.heap.objs.size + 1) [s1.heap.objs.size, a] [s1.heap.objs.size + 1, b] :=
        ⟨C 2 4 (by decide), C 3 4 (by decide), C 2 3 (by decide), C 2 0 (by decide), List.mem_cons_self, N2 (C 4 0 (by decide)) (A 4), N2 (C 3 0 (by decide)) (A 3), C 2 1 (by decide), List.mem_cons_self, N2 (C 4 1 (by decide)) (B 4), N2 (C 3 1 (by decide)) (B 3), N2 (C 0 1 (by decide)) (B 0), N2 (C 1 0 (by decide)) (A 1)⟩
      have hge : s1.heap.objs.size ≤ h'.objs.size := by omega
      have n1 := rv.length
      have n2 := rv2.length
      rw [List.length_map] at n1
      have hln : (mergeK [] (ks.zip ys)).length ≤ sizeLine := by
        refine Nat.le_trans (length_mergeK (ks.zip ys) []) ?_
        rw [List.length_nil, Nat.zero_add, List.length_zip]
        rw [List.length_map] at hz1
        exact Nat.le_trans (Nat.min_le_left _ _) hz1
      refine PySem.call_dict_pairs (knd := mixKind X.prog X.w) (kvs := ks.zip its2) (s := { s1 with heap := h' }) (pa_zipLT D (Ne.symm (A 0)) (Ne.symm (B 1)) its.toArray its2.toArray) (I1.ok.hd hcalm)
        ⟨⟨hz, _, _, hTO⟩, hTI, ⟨⟨_, h1, rfl, rfl⟩, pl.isList.at fun o e => hk _ _ e⟩, ⟨_, h2, rfl, rfl⟩, let ⟨o, ho, r⟩ := tp; ⟨o, hk _ _ ho, r⟩⟩ ⟨?_, fun i k v hkv => ?_⟩ ?_ fun h'' tk hd' k => ?_
      · rw [List.length_zip]; simp [n1]
      · obtain ⟨e1, e2⟩ := hkv
        obtain ⟨y, ey, hy⟩ := vals_at (P := X.prog) (w := X.w) rv (by simpa using e1)
        exact ⟨y, List.getElem?_zip_eq_some.mpr ⟨ey, by simpa using e2⟩, hy⟩
      · simp
        rw [List.length_map] at hz1
        rw [← n1]
        exact Nat.le_trans (Nat.min_le_left _ _) hz1
      · have hm : (h'.objs.size == sysModules) = false := beq_eq_false_iff_ne.mpr (Nat.ne_of_gt (Nat.lt_of_lt_of_le I1.big hge))
        have kk : ∀ c o, s1.heap.get? c = some o → h''.get? c = some o := fun c o e => k c o (fun hm => by
          have lc := Heap.lt_size e
          rcases (by simpa using hm : c = s1.heap.objs.size + 4 ∨ c = s1.heap.objs.size + 3 ∨ c = s1.heap.objs.size ∨ c = s1.heap.objs.size + 1) with z | z | z | z <;> exact absurd lc (by rw [z]; exact Nat.not_lt.mpr (by first | exact Nat.le_refl _ | exact Nat.le_add_right _ _))) (hk c o e)
        exact ⟨.ref h'.objs.size, upd H1 h'.objs.size (.dK (mergeK [] (ks.zip ys))), I1.laid (t' := tk) kk hge (show ObjOk X.prog X.w _ _ _ (.dK (mergeK [] (ks.zip ys))) from ⟨hln, hm, merged [] (ks.zip its2), KV.merge (kv_zip rv2) .nil, hd'⟩), rfl, q _ (I1.hok.fresh hge)⟩
end
end L2

/-! len(set(a list of ints)) -/
namespace L2
open PySem PySem.Spec PyProof.Rows
theorem met_one {ns : List Int} (h : (PyProof.Rows.firstMet (fun i => ns.getD i 0) ns.length).length = 1) : ∀ i ∈ ns, ∀ j ∈ ns, i = j := by
  obtain ⟨x, ex⟩ := List.length_eq_one_iff.mp h
  have key : ∀ k ∈ ns, k = x := fun k hk => by
    obtain ⟨m, hm⟩ := List.mem_iff_getElem?.mp hk
    obtain ⟨lm, em⟩ := List.getElem?_eq_some_iff.mp hm
    have a := PyProof.Rows.firstMet_any (fun i => ns.getD i 0) ns.length k
    rw [ex] at a
    have b : ((List.range ns.length).map fun i => ns.getD i 0).any (· == k) = true := by
      rw [List.any_eq_true]
      refine ⟨k, List.mem_map.mpr ⟨m, List.mem_range.mpr lm, ?_⟩, by simp⟩
      show ns.getD m 0 = k
      rw [List.getD_eq_getElem?_getD, hm]; rfl
    rw [b] at a
    have : (x == k) = true := by simpa using a
    exact (eq_of_beq this).symm
  exact fun i hi j hj => (key i hi).trans (key j hj).symm
def tLenSet (K : PySem.W.Frag) (ta : TA) : TE := fun σ H Q => ta σ H fun vs H1 => ∃ (a : Addr) (ns : List Int), vs = [.ref a] ∧ SqL K H1 a (ns.map V.int) ∧ ns.length < 1000 ∧ ∀ n : Nat, (n = 1 → ∀ i ∈ ns, ∀ j ∈ ns, i = j) → Q (.int (n : Nat)) H1
theorem pe_lenSet {X : Cx} {e : Expr} {ta : TA} {p p2 pos pos2 : Pos} (hcalm : X.calm = true) (hgl : Gl X "len") (hml : X.mg "len" = none) (hvl : bootBuiltins "len" = some (.builtin "len")) (hgs : Gl X "set") (hms : X.mg "set" = none) (hvs : bootBuiltins "set" = some (.type "set")) (ha : PA X [e] ta)
    (hs : starEach [e] X.env = (false, eval e X.env) :: starEach [] X.env := by rfl)
    (st : starEach [.Call (.Name "set" p2) [e] [] pos2] X.env = (false, eval (.Call (.Name "set" p2) [e] [] pos2) X.env) :: starEach [] X.env := by rfl) :
    PE X (.Call (.Name "len" p) [.Call (.Name "set" p2) [e] [] pos2] [] pos) (tLenSet X.K ta) := by
  constructor
  intro pins s σ H Q I h
  refine wpAny_Call_Name_kw (ld_blt I hgl hml hvl (PyProof.Rows.callWith_builtin1 ?_ st rfl))
  rw [st]
  show wpAny _ _ (spliced ((false, eval (.Call (.Name "set" p2) [e] [] pos2) X.env) :: backTo pos (starEach [] X.env))) _ _ s
  refine Calls.spliced_cons (wpAny_Call_Name_kw (ld_blt I hgs hms hvs (PyProof.Rows.callWith_type1 (thn (ha.run pos2 pins s σ H _ I h) fun us s1 ⟨vs, H1, I1, r1, q1⟩ => ?_) hs rfl)))
  obtain ⟨a, ns, ex, hq, hl, q⟩ := q1
  subst ex
  obtain ⟨u, eu, rx⟩ := vals1 r1
  subst eu
  cases rx
  obtain ⟨its, rv, pl, hz⟩ := I1.list hq
  have i1 : PyProof.Rows.IntsAre its.toArray.toList ns := intsAre_of rv
  have n1 := rv.length
  rw [List.length_map] at n1
  have esz : its.toArray.size = ns.length := by simp [n1]
  refine PySem.call_set_list (I1.ok.hd hcalm) pl.isList i1 (by rw [esz]; exact Nat.lt_trans (Nat.succ_lt_succ hl) (by decide)) fun h' tk hset hk => Calls.spliced_nil ?_
  rw [esz] at hset
  obtain ⟨o, es, ep, t, ho, hex, hd, _, _, hsb, hf, hn⟩ := hset
  have hfl := PyProof.Rows.firstMet_length_le (fun i => ns.getD i 0) ns.length
  refine call_len_set ho hex hd hf (by rw [hn]; omega) ?_
  rw [hn]
  exact ⟨.int _, H1, I1.kept (t' := tk + 1 + 1) fun b u z => hk b u (Heap.lt_size z) z, ⟨_, rfl⟩, q _ fun e => met_one e⟩
end L2

/-! shapes: what data a value stands for, apart from the places that are being changed -/
namespace L2
open PySem PySem.Spec PyProof.Rows
/-- what is reached stands at places of W -/
structure Sh (α : Type) where
  r : (Addr → Prop) → Hp → V → α → Prop
  mv : ∀ {W W' : Addr → Prop} {H H' : Hp} {v : V} {x : α}, r W H v x → (∀ a o, W a → H a = some o → H' a = some o ∧ W' a) → r W' H' v x
/-- apart from the places of M -/
abbrev Sh.at {α : Type} (s : Sh α) (M : List Addr) (H : Hp) (v : V) (x : α) : Prop := s.r (fun a => a ∉ M) H v x
/-- nothing is lost; what is not of m stays -/
def Stp (m : List Addr) (H H' : Hp) : Prop := ∀ a o, H a = some o → (∃ o', H' a = some o') ∧ (a ∉ m → H' a = some o)
def Alv (M : List Addr) (H : Hp) : Prop := ∀ a ∈ M, ∃ o, H a = some o
/-- each of m is of M or not there -/
def Sb (m M : List Addr) (H : Hp) : Prop := ∀ a ∈ m, a ∈ M ∨ H a = none
section
variable {m m' M M' : List Addr} {H H1 H2 : Hp} {a b p : Addr} {o : HO}
theorem Sb.refl : Sb M M H := fun _ h => .inl h
theorem Sb.nil : Sb [] M H := fun _ h => by cases h
theorem Sb.new (h : H p = none) (s : Sb m M H) : Sb (p :: m) M H := fun a ha => (List.mem_cons.mp ha).elim (fun e => .inr (e ▸ h)) (s a)
theorem Sb.mem (h : p ∈ M) (s : Sb m M H) : Sb (p :: m) M H := fun a ha => (List.mem_cons.mp ha).elim (fun e => .inl (e ▸ h)) (s a)
theorem Sb.one (h : p ∈ M) : Sb [p] M H := Sb.mem h Sb.nil
theorem Sb.more (s : Sb m M H) : Sb m (p :: M) H := fun a ha => (s a ha).imp (List.mem_cons_of_mem _) id
theorem Sb.cons (s : Sb m M H) : Sb (p :: m) (p :: M) H := fun a ha => (List.mem_cons.mp ha).elim (fun e => .inl (by rw [e]; exact List.mem_cons_self)) fun h => (s a h).imp (fun z => List.mem_cons_of_mem _ z) id
theorem Stp.refl : Stp m H H := fun a o h => ⟨⟨o, h⟩, fun _ => h⟩
theorem Stp.trans (x : Stp m H H1) (y : Stp m H1 H2) : Stp m H H2 := fun a o h => by
  obtain ⟨⟨o1, h1⟩, k1⟩ := x a o h
  exact ⟨(y a o1 h1).1, fun n => (y a o (k1 n)).2 n⟩
theorem Stp.wk (x : Stp m H H1) (s : Sb m m' H) : Stp m' H H1 := fun a o h => ⟨(x a o h).1, fun n => (x a o h).2 fun hm => (s a hm).elim n fun e => by rw [h] at e; cases e⟩
theorem Stp.same (x : Stp [] H H1) : Same H H1 := fun a o h => (x a o h).2 (by simp)
theorem Stp.of_same (x : Same H H1) : Stp m H H1 := fun a o h => ⟨⟨o, x a o h⟩, fun _ => x a o h⟩
theorem Stp.new (h : H p = none) : Stp m H (upd H p o) := Stp.of_same fun a u e => by rw [upd_ne (ne_of_none e h)]; exact e
theorem Stp.at (x : Stp m H H1) (h : H a = some o) (n : a ∉ m) : H1 a = some o := (x a o h).2 n
theorem Stp.put (h : p ∈ m) : Stp m H (upd H p o) := fun a u e => by
  by_cases ea : a = p
  · subst ea
    exact ⟨⟨o, upd_same⟩, fun n => absurd h n⟩
  · rw [upd_ne ea]; exact ⟨⟨u, e⟩, fun _ => e⟩
/-- a place that was not there may be written -/
theorem Stp.putN (x : Stp m H H1) (h : H p = none) : Stp m H (upd H1 p o) := fun a u e => by
  have ea : a ≠ p := ne_of_none e h
  rw [upd_ne ea]; exact x a u e
theorem Stp.none (x : Stp m H H1) (h : H1 a = none) : H a = none := by
  cases e : H a with
  | none => rfl
  | some o => obtain ⟨⟨o', h'⟩, _⟩ := x a o e; rw [h] at h'; cases h'
theorem Alv.nil : Alv [] H := fun _ h => by cases h
theorem Alv.cons (h : H p = some o) (s : Alv M H) : Alv (p :: M) H := fun a ha => (List.mem_cons.mp ha).elim (fun e => ⟨o, e ▸ h⟩) (s a)
theorem Alv.go (s : Alv M H) (x : Stp m H H1) : Alv M H1 := fun a ha => by
  obtain ⟨o, h⟩ := s a ha
  exact (x a o h).1
/-- a new place is not of M -/
theorem Alv.off (s : Alv M H) (h : H p = none) : p ∉ M := fun hm => by
  obtain ⟨o, e⟩ := s p hm
  rw [h] at e; cases e
theorem Alv.ne (s : Alv M H) (h : H p = none) (ha : a ∈ M) : a ≠ p := fun e => s.off h (e ▸ ha)
end
section
variable {α β γ : Type} {s : Sh α} {t : Sh β} {u : Sh γ} {m m' M M' : List Addr} {H H1 H2 : Hp} {a b p : Addr} {o : HO} {v w : V} {x : α} {y : β}
/-- carried over -/
theorem Sh.go (h : s.at M H v x) (st : Stp m H H1) (hm : Sb m M H) (hM : Sb M' M H) : s.at M' H1 v x := s.mv h fun a o n e =>
  ⟨(st a o e).2 fun hh => (hm a hh).elim n fun z => (by rw [e] at z; cases z), fun hh => (hM a hh).elim n fun z => (by rw [e] at z; cases z)⟩
theorem Sh.gos {vs : List V} {xs : List α} (h : Paired (s.at M H) vs xs) (st : Stp m H H1) (hm : Sb m M H) (hM : Sb M' M H) : Paired (s.at M' H1) vs xs := Paired.mapP h fun _ _ z => Sh.go z st hm hM
def sInt : Sh Int := ⟨fun _ _ v x => v = .int x, fun h _ => h⟩
def sStr : Sh Str := ⟨fun _ _ v x => v = .str x, fun h _ => h⟩
def sBl : Sh Bool := ⟨fun _ _ v x => v = .bl x, fun h _ => h⟩
/-- any value without an object -/
def sV : Sh V := ⟨fun _ _ v x => v = x ∧ ∀ a, x ≠ .ref a, fun h _ => h⟩
def sL (s : Sh α) : Sh (List α) := ⟨fun W H v xs => ∃ a vs, v = .ref a ∧ W a ∧ H a = some (.lst vs) ∧ Paired (s.r W H) vs xs, fun ⟨a, vs, e, w, h, p⟩ k => ⟨a, vs, e, (k _ _ w h).2, (k _ _ w h).1, Paired.mapP p fun _ _ z => s.mv z k⟩⟩
def sT (s : Sh α) : Sh (List α) := ⟨fun W H v xs => ∃ a vs, v = .ref a ∧ W a ∧ H a = some (.tup vs) ∧ Paired (s.r W H) vs xs, fun ⟨a, vs, e, w, h, p⟩ k => ⟨a, vs, e, (k _ _ w h).2, (k _ _ w h).1, Paired.mapP p fun _ _ z => s.mv z k⟩⟩
/-- a list or a tuple -/
def sQ (s : Sh α) : Sh (List α) := ⟨fun W H v xs => ∃ a vs, v = .ref a ∧ W a ∧ (H a = some (.lst vs) ∨ H a = some (.tup vs)) ∧ Paired (s.r W H) vs xs, fun ⟨a, vs, e, w, h, p⟩ k => ⟨a, vs, e, h.elim (fun h => (k _ _ w h).2) (fun h => (k _ _ w h).2), h.imp (fun h => (k _ _ w h).1) (fun h => (k _ _ w h).1), Paired.mapP p fun _ _ z => s.mv z k⟩⟩
/-- a tuple of two, a list of two, a tuple of three -/
def sP (s : Sh α) (t : Sh β) : Sh (α × β) := ⟨fun W H v x => ∃ a u w, v = .ref a ∧ W a ∧ H a = some (.tup [u, w]) ∧ s.r W H u x.1 ∧ t.r W H w x.2, fun ⟨a, u, z, e, w, h, p, q⟩ k => ⟨a, u, z, e, (k _ _ w h).2, (k _ _ w h).1, s.mv p k, t.mv q k⟩⟩
def sLP (s : Sh α) (t : Sh β) : Sh (α × β) := ⟨fun W H v x => ∃ a u w, v = .ref a ∧ W a ∧ H a = some (.lst [u, w]) ∧ s.r W H u x.1 ∧ t.r W H w x.2, fun ⟨a, u, z, e, w, h, p, q⟩ k => ⟨a, u, z, e, (k _ _ w h).2, (k _ _ w h).1, s.mv p k, t.mv q k⟩⟩
def s3 (s : Sh α) (t : Sh β) (u : Sh γ) : Sh (α × β × γ) := ⟨fun W H v x => ∃ a i j l, v = .ref a ∧ W a ∧ H a = some (.tup [i, j, l]) ∧ s.r W H i x.1 ∧ t.r W H j x.2.1 ∧ u.r W H l x.2.2, fun ⟨a, i, j, l, e, w, h, p, q, z⟩ k => ⟨a, i, j, l, e, (k _ _ w h).2, (k _ _ w h).1, s.mv p k, t.mv q k, u.mv z k⟩⟩
/-- a dict: its pairs in order -/
def sD (s : Sh α) : Sh (List (Key × α)) := ⟨fun W H v xs => ∃ a vs, v = .ref a ∧ W a ∧ H a = some (.dK vs) ∧ Paired (fun (p : Key × V) (q : Key × α) => p.1 = q.1 ∧ s.r W H p.2 q.2) vs xs, fun ⟨a, vs, e, w, h, p⟩ k => ⟨a, vs, e, (k _ _ w h).2, (k _ _ w h).1, Paired.mapP p fun _ _ z => ⟨z.1, s.mv z.2 k⟩⟩⟩
def sO (s : Sh α) : Sh (Option α) := ⟨fun W H v x => (x = none ∧ v = .non) ∨ ∃ y, x = some y ∧ s.r W H v y, fun h k => h.imp id fun ⟨y, e, z⟩ => ⟨y, e, s.mv z k⟩⟩
theorem Sh.sq (h : (sL s).at M H v xs) : (sQ s).at M H v xs := by
  obtain ⟨a, vs, e, w, h, p⟩ := h
  exact ⟨a, vs, e, w, .inl h, p⟩
theorem Sh.tq (h : (sT s).at M H v xs) : (sQ s).at M H v xs := by
  obtain ⟨a, vs, e, w, h, p⟩ := h
  exact ⟨a, vs, e, w, .inr h, p⟩
theorem pds_map (f : α → V) : ∀ {l : List α}, (∀ y ∈ l, s.at M H (f y) y) → Paired (s.at M H) (l.map f) l
  | [], _ => .nil
  | y :: r, h => .cons (h y List.mem_cons_self) (pds_map f fun z hz => h z (List.mem_cons_of_mem _ hz))
theorem pd_ints {ns : List Int} : Paired (sInt.at M H) (ns.map V.int) ns := pds_map _ fun _ _ => rfl
theorem pd_strs {ns : List Str} : Paired (sStr.at M H) (ns.map V.str) ns := pds_map _ fun _ _ => rfl
theorem pd_isInts : ∀ {vs : List V} {ns : List Int}, Paired (sInt.at M H) vs ns → vs = ns.map V.int
  | _, _, .nil => rfl
  | _, _, .cons e t => by rw [pd_isInts t]; cases e; rfl
theorem pd_isStrs : ∀ {vs : List V} {ns : List Str}, Paired (sStr.at M H) vs ns → vs = ns.map V.str
  | _, _, .nil => rfl
  | _, _, .cons e t => by rw [pd_isStrs t]; cases e; rfl
theorem Sh.ints {ns : List Int} (h : (sL sInt).at M H v ns) : ∃ a, v = .ref a ∧ a ∉ M ∧ H a = some (.lst (ns.map V.int)) := by
  obtain ⟨a, vs, e, w, h, p⟩ := h
  exact ⟨a, e, w, by rw [← pd_isInts p]; exact h⟩
theorem Sh.strs {ns : List Str} (h : (sL sStr).at M H v ns) : ∃ a, v = .ref a ∧ a ∉ M ∧ H a = some (.lst (ns.map V.str)) := by
  obtain ⟨a, vs, e, w, h, p⟩ := h
  exact ⟨a, e, w, by rw [← pd_isStrs p]; exact h⟩
theorem Sh.tints {ns : List Int} (h : (sT sInt).at M H v ns) : ∃ a, v = .ref a ∧ a ∉ M ∧ H a = some (.tup (ns.map V.int)) := by
  obtain ⟨a, vs, e, w, h, p⟩ := h
  exact ⟨a, e, w, by rw [← pd_isInts p]; exact h⟩
theorem iteN {c A B : Prop} [Decidable c] (h : ¬ c) (x : B) : if c then A else B := by
  rw [if_neg h]; exact x
/-! ### parts of lists -/
theorem psnoc {F : α → β → Prop} : ∀ {l₁ : List α} {l₂ : List β} {x : α} {y : β}, Paired F l₁ l₂ → F x y → Paired F (l₁ ++ [x]) (l₂ ++ [y])
  | _, _, _, _, .nil, h => .cons h .nil
  | _, _, _, _, .cons r t, h => .cons r (psnoc t h)
theorem papp {F : α → β → Prop} : ∀ {a b : List α} {c d : List β}, Paired F a c → Paired F b d → Paired F (a ++ b) (c ++ d)
  | _, _, _, _, .nil, h => h
  | _, _, _, _, .cons r t, h => .cons r (papp t h)
theorem ptake {F : α → β → Prop} : ∀ {n : Nat} {l₁ : List α} {l₂ : List β}, Paired F l₁ l₂ → Paired F (l₁.take n) (l₂.take n)
  | 0, _, _, _ => by simpa using .nil
  | _ + 1, _, _, .nil => .nil
  | n + 1, _, _, .cons r t => .cons r (ptake (n := n) t)
theorem pdrop {F : α → β → Prop} : ∀ {n : Nat} {l₁ : List α} {l₂ : List β}, Paired F l₁ l₂ → Paired F (l₁.drop n) (l₂.drop n)
  | 0, _, _, h => h
  | _ + 1, _, _, .nil => .nil
  | n + 1, _, _, .cons _ t => pdrop (n := n) t
theorem prev {F : α → β → Prop} : ∀ {l₁ : List α} {l₂ : List β}, Paired F l₁ l₂ → Paired F l₁.reverse l₂.reverse
  | _, _, .nil => .nil
  | _, _, .cons r t => by rw [List.reverse_cons, List.reverse_cons]; exact psnoc (prev t) r
theorem pset {F : α → β → Prop} : ∀ {i : Nat} {l₁ : List α} {l₂ : List β} {x : α} {y : β}, Paired F l₁ l₂ → F x y → Paired F (l₁.set i x) (l₂.set i y)
  | _, _, _, _, _, .nil, _ => .nil
  | 0, _, _, _, _, .cons _ t, h => .cons h t
  | i + 1, _, _, _, _, .cons r t, h => .cons r (pset (i := i) t h)
theorem pget {F : α → β → Prop} : ∀ {l₁ : List α} {l₂ : List β} {i : Nat} {y : β}, Paired F l₁ l₂ → l₂[i]? = some y → ∃ x, l₁[i]? = some x ∧ F x y
  | _, _, _, _, .nil, e => by simp at e
  | _, _, 0, _, .cons r _, e => by simp at e; subst e; exact ⟨_, rfl, r⟩
  | _, _, i + 1, y, .cons _ t, e => by
    obtain ⟨x, h1, h2⟩ := pget (i := i) (y := y) t (by simpa using e)
    exact ⟨x, by simpa using h1, h2⟩
theorem pget' {F : α → β → Prop} : ∀ {l₁ : List α} {l₂ : List β} {i : Nat} {x : α}, Paired F l₁ l₂ → l₁[i]? = some x → ∃ y, l₂[i]? = some y ∧ F x y
  | _, _, _, _, .nil, e => by simp at e
  | _, _, 0, _, .cons r _, e => by simp at e; subst e; exact ⟨_, rfl, r⟩
  | _, _, i + 1, y, .cons _ t, e => by
    obtain ⟨x, h1, h2⟩ := pget' (i := i) (x := y) t (by simpa using e)
    exact ⟨x, by simpa using h1, h2⟩
theorem plen {F : α → β → Prop} : ∀ {l₁ : List α} {l₂ : List β}, Paired F l₁ l₂ → l₁.length = l₂.length
  | _, _, .nil => rfl
  | _, _, .cons _ t => congrArg (· + 1) (plen t)
/-! ### the list that a comprehension makes -/
/-- at D, while what is of m is being changed: ys so far -/
structure Acc (t : Sh β) (D : Addr) (M m : List Addr) (H1 : Hp) (H : Hp) (ys : List β) : Prop where
  al : Alv M H1
  nD : H1 D = none
  sub : ∀ a ∈ m, a ∈ M
  st : Stp m H1 H
  ac : ∃ vs, H D = some (.lst vs) ∧ Paired (t.at (D :: M) H) vs ys
variable {ys : List β} {D : Addr}
theorem Acc.start (al : Alv M H1) (nD : H1 D = none) (sub : ∀ a ∈ m, a ∈ M) : Acc t D M m H1 (upd H1 D (.lst [])) [] := ⟨al, nD, sub, Stp.refl.putN nD, [], upd_same, .nil⟩
theorem Acc.nM (h : Acc t D M m H1 H ys) : D ∉ M := h.al.off h.nD
theorem Acc.nm (h : Acc t D M m H1 H ys) : D ∉ m := fun e => h.nM (h.sub D e)
theorem Acc.alv (h : Acc t D M m H1 H ys) : Alv (D :: M) H := by
  obtain ⟨vs, e, _⟩ := h.ac
  exact Alv.cons e (h.al.go h.st)
theorem Acc.go (h : Acc t D M m H1 H ys) (st : Stp m H H2) : Acc t D M m H1 H2 ys := by
  obtain ⟨vs, e, p⟩ := h.ac
  exact ⟨h.al, h.nD, h.sub, h.st.trans st, vs, st.at e h.nm, Sh.gos p st (fun a ha => .inl (List.mem_cons_of_mem _ (h.sub a ha))) Sb.refl⟩
theorem Acc.wk (h : Acc t D M m H1 H ys) (s : ∀ a ∈ m, a ∈ m') (s' : ∀ a ∈ m', a ∈ M) : Acc t D M m' H1 H ys := ⟨h.al, h.nD, s', h.st.wk fun a ha => .inl (s a ha), h.ac⟩
theorem Acc.put {R : List β → Prop} (h : Acc t D M m H1 H ys) (st : Stp m H H2) (hz : t.at (D :: M) H2 v y) (hl : ys.length < 100000) (hr : R (ys ++ [y])) :
    ∃ acc, H2 D = some (.lst acc) ∧ acc.length < sizeLine ∧ ∃ ys', Acc t D M m H1 (upd H2 D (.lst (acc ++ [v]))) ys' ∧ R ys' := by
  obtain ⟨al, nD, sub, s0, vs, e, p⟩ := h.go st
  refine ⟨vs, e, by rw [plen p]; have := sizeLine_eq; omega, ys ++ [y], ⟨al, nD, sub, s0.putN nD, _, upd_same, ?_⟩, hr⟩
  exact psnoc (Sh.gos p (Stp.put (m := [D]) (by simp)) (fun a ha => .inl (by simp at ha; simp [ha])) Sb.refl) (Sh.go hz (Stp.put (m := [D]) (by simp)) (fun a ha => .inl (by simp at ha; simp [ha])) Sb.refl)
/-- .. and something else goes on holding -/
theorem Acc.putB {R : List β → Prop} (B : Hp → Prop) (h : Acc t D M m H1 H ys) (st : Stp m H H2) (hz : t.at (D :: M) H2 v y) (hl : ys.length < 100000) (hr : R (ys ++ [y])) (hB : ∀ H', (∀ a o, a ≠ D → H2 a = some o → H' a = some o) → B H') :
    ∃ acc, H2 D = some (.lst acc) ∧ acc.length < sizeLine ∧ ∃ ys', Acc t D M m H1 (upd H2 D (.lst (acc ++ [v]))) ys' ∧ R ys' ∧ B (upd H2 D (.lst (acc ++ [v]))) := by
  obtain ⟨acc, h1, h2, ys', h3, h4⟩ := h.put (R := R) st hz hl hr
  exact ⟨acc, h1, h2, ys', h3, h4, hB _ fun a o n e => by rw [upd_ne n]; exact e⟩
/-- an own list F, new since H, one item changed -/
theorem set_L {F : Addr} {vs : List V} {xs : List α} (al : Alv M H) (nF : H F = none) (st : Stp m H H2) (hm : Sb m M H) (h : H2 F = some (.lst vs)) (pd : Paired (s.at (F :: M) H2) vs xs) (hz : s.at (F :: M) H2 v x) (i : Nat) :
    (sL s).at M (upd H2 F (.lst (vs.set i v))) (.ref F) (xs.set i x) ∧ Stp m H (upd H2 F (.lst (vs.set i v))) ∧ Paired (s.at (F :: M) (upd H2 F (.lst (vs.set i v)))) (vs.set i v) (xs.set i x) := by
  have sp : Stp [F] H2 (upd H2 F (.lst (vs.set i v))) := Stp.put (by simp)
  have sb : Sb [F] (F :: M) H2 := Sb.mem List.mem_cons_self Sb.nil
  exact ⟨⟨F, _, rfl, al.off nF, upd_same, pset (Sh.gos pd sp sb (fun a ha => .inl (List.mem_cons_of_mem _ ha))) (Sh.go hz sp sb (fun a ha => .inl (List.mem_cons_of_mem _ ha)))⟩, st.putN nF, pset (Sh.gos pd sp sb Sb.refl) (Sh.go hz sp sb Sb.refl)⟩
theorem Acc.done (h : Acc t D M m H1 H ys) : (sL t).at M H (.ref D) ys := by
  obtain ⟨vs, e, p⟩ := h.ac
  exact ⟨D, vs, rfl, h.nM, e, Paired.mapP p fun _ _ z => t.mv z fun a o n e => ⟨e, fun h => n (List.mem_cons_of_mem _ h)⟩⟩
/-- what is new is of no M -/
theorem mk_lst {vs : List V} {xs : List α} (al : Alv M H) (np : H p = none) (h : Paired (s.at M H) vs xs) : (sL s).at M (upd H p (.lst vs)) (.ref p) xs := ⟨p, vs, rfl, al.off np, upd_same, Sh.gos h (Stp.new np) Sb.nil Sb.refl⟩
theorem mk_tup {vs : List V} {xs : List α} (al : Alv M H) (np : H p = none) (h : Paired (s.at M H) vs xs) : (sT s).at M (upd H p (.tup vs)) (.ref p) xs := ⟨p, vs, rfl, al.off np, upd_same, Sh.gos h (Stp.new np) Sb.nil Sb.refl⟩
theorem mk_P (al : Alv M H) (np : H p = none) (h : s.at M H v x) (h' : t.at M H w y) : (sP s t).at M (upd H p (.tup [v, w])) (.ref p) (x, y) := ⟨p, v, w, rfl, al.off np, upd_same, Sh.go h (Stp.new np) Sb.nil Sb.refl, Sh.go h' (Stp.new np) Sb.nil Sb.refl⟩
theorem mk_LP (al : Alv M H) (np : H p = none) (h : s.at M H v x) (h' : t.at M H w y) : (sLP s t).at M (upd H p (.lst [v, w])) (.ref p) (x, y) := ⟨p, v, w, rfl, al.off np, upd_same, Sh.go h (Stp.new np) Sb.nil Sb.refl, Sh.go h' (Stp.new np) Sb.nil Sb.refl⟩
theorem mk_3 {v' : V} {z : γ} (al : Alv M H) (np : H p = none) (h : s.at M H v x) (h' : t.at M H w y) (h'' : u.at M H v' z) : (s3 s t u).at M (upd H p (.tup [v, w, v'])) (.ref p) (x, y, z) := ⟨p, v, w, v', rfl, al.off np, upd_same, Sh.go h (Stp.new np) Sb.nil Sb.refl, Sh.go h' (Stp.new np) Sb.nil Sb.refl, Sh.go h'' (Stp.new np) Sb.nil Sb.refl⟩
end
/-! ### as the library reads data -/
/-- its data: read, shown, compared -/
structure ShD {α : Type} (s : Sh α) (d : α → PyData) : Prop where
  dp : ∀ {K : PySem.W.Frag} {W : Addr → Prop} {H : Hp} {v : V} {x : α}, s.r W H v x → Dp K H v (d x)
  dx : ∀ {K : PySem.W.Frag} {W : Addr → Prop} {H : Hp} {v : V} {x : α}, s.r W H v x → Dx K H v (d x)
theorem dpA {α : Type} {K : PySem.W.Frag} {H : Hp} {F : V → α → Prop} {d : α → PyData} (h : ∀ v x, F v x → Dp K H v (d x)) : ∀ {vs : List V} {xs : List α}, Paired F vs xs → DpAll K H vs (xs.map d)
  | _, _, .nil => .nil
  | _, _, .cons r t => .cons (h _ _ r) (dpA h t)
theorem dxA {α : Type} {K : PySem.W.Frag} {H : Hp} {F : V → α → Prop} {d : α → PyData} (h : ∀ v x, F v x → Dx K H v (d x)) : ∀ {vs : List V} {xs : List α}, Paired F vs xs → DxAll K H vs (xs.map d)
  | _, _, .nil => .nil
  | _, _, .cons r t => .cons (h _ _ r) (dxA h t)
section
variable {α β γ : Type} {s : Sh α} {t : Sh β} {u : Sh γ} {d : α → PyData} {e : β → PyData} {f : γ → PyData}
theorem isD_int : ShD sInt PyData.int := ⟨fun h => by cases h; exact .int _, fun h => by cases h; exact .int _⟩
theorem isD_str : ShD sStr PyData.str := ⟨fun h => by cases h; exact .str _, fun h => by cases h; exact .str _⟩
theorem isD_bl : ShD sBl PyData.bool := ⟨fun h => by cases h; exact .bl _, fun h => by cases h; exact .bl _⟩
theorem isD_L (i : ShD s d) : ShD (sL s) fun xs => .list (xs.map d) := ⟨fun ⟨a, vs, e, _, h, p⟩ => by subst e; exact .lst (SqL.of h) (dpA (fun _ _ z => i.dp z) p), fun ⟨a, vs, e, _, h, p⟩ => by subst e; exact .lst (SqL.of h) (dxA (fun _ _ z => i.dx z) p)⟩
theorem isD_T (i : ShD s d) : ShD (sT s) fun xs => .tuple (xs.map d) := ⟨fun ⟨a, vs, e, _, h, p⟩ => by subst e; exact .tup (.inl (.inl h)) (dpA (fun _ _ z => i.dp z) p), fun ⟨a, vs, e, _, h, p⟩ => by subst e; exact .tup (.inl (.inl h)) (dxA (fun _ _ z => i.dx z) p)⟩
theorem isD_P (i : ShD s d) (j : ShD t e) : ShD (sP s t) fun x => .tuple [d x.1, e x.2] := ⟨fun ⟨a, u, w, e, _, h, p, q⟩ => by subst e; exact .tup (.inl (.inl h)) (.cons (i.dp p) (.cons (j.dp q) .nil)), fun ⟨a, u, w, e, _, h, p, q⟩ => by subst e; exact .tup (.inl (.inl h)) (.cons (i.dx p) (.cons (j.dx q) .nil))⟩
theorem isD_LP (i : ShD s d) (j : ShD t e) : ShD (sLP s t) fun x => .list [d x.1, e x.2] := ⟨fun ⟨a, u, w, e, _, h, p, q⟩ => by subst e; exact .lst (SqL.of h) (.cons (i.dp p) (.cons (j.dp q) .nil)), fun ⟨a, u, w, e, _, h, p, q⟩ => by subst e; exact .lst (SqL.of h) (.cons (i.dx p) (.cons (j.dx q) .nil))⟩
theorem isD_3 (i : ShD s d) (j : ShD t e) (l : ShD u f) : ShD (s3 s t u) fun x => .tuple [d x.1, e x.2.1, f x.2.2] := ⟨fun ⟨a, u, w, z, e, _, h, p, q, r⟩ => by subst e; exact .tup (.inl (.inl h)) (.cons (i.dp p) (.cons (j.dp q) (.cons (l.dp r) .nil))), fun ⟨a, u, w, z, e, _, h, p, q, r⟩ => by subst e; exact .tup (.inl (.inl h)) (.cons (i.dx p) (.cons (j.dx q) (.cons (l.dx r) .nil)))⟩
end
/-! ### slices -/
theorem cut_to {xs : List V} (k : Nat) : cutV xs none (some (k : Int)) = xs.take k := by
  unfold cutV
  rw [HT.sIx_none, HT.sIx_nat, List.drop_zero, Nat.sub_zero]
  by_cases h : k ≤ xs.length
  · rw [Nat.min_eq_left h]
  · rw [Nat.min_eq_right (by omega), List.take_of_length_le (Nat.le_refl _), List.take_of_length_le (by omega)]
theorem cut_from {xs : List V} (k : Nat) : cutV xs (some (k : Int)) none = xs.drop k := by
  unfold cutV
  rw [HT.sIx_none, HT.sIx_nat]
  by_cases h : k ≤ xs.length
  · rw [Nat.min_eq_left h, List.take_of_length_le (by rw [List.length_drop]; omega)]
  · rw [Nat.min_eq_right (by omega), Nat.sub_self, List.take_zero, List.drop_of_length_le (by omega)]
/-- xs[:-k] -/
theorem cut_less {xs : List V} (k : Nat) (hk : 0 < k) : cutV xs none (some (-(k : Int))) = xs.take (xs.length - k) := by
  unfold cutV
  rw [HT.sIx_none, List.drop_zero, Nat.sub_zero]
  show xs.take (if -(k : Int) < 0 then (-(k : Int) + (xs.length : Int)).toNat else min (-(k : Int)).toNat xs.length) = _
  rw [if_pos (by omega)]
  congr 1
  omega
/-- xs[-k:] -/
theorem cut_last {xs : List V} (k : Nat) (hk : 0 < k) : cutV xs (some (-(k : Int))) none = xs.drop (xs.length - k) := by
  unfold cutV
  rw [HT.sIx_none]
  show ((xs.drop (if -(k : Int) < 0 then (-(k : Int) + (xs.length : Int)).toNat else min (-(k : Int)).toNat xs.length)).take (xs.length - (if -(k : Int) < 0 then (-(k : Int) + (xs.length : Int)).toNat else min (-(k : Int)).toNat xs.length))) = _
  rw [if_pos (by omega)]
  have e : (-(k : Int) + (xs.length : Int)).toNat = xs.length - k := by omega
  rw [e, List.take_of_length_le (by rw [List.length_drop]; omega)]
end L2

namespace L2
open PySem PySem.Spec PyProof.Rows
end L2

/-! zip(a list, a tuple). -/
namespace L2
open PySem PySem.Spec PyProof.Rows
def Itzn (K : PySem.W.Frag) (a b : Addr) (xs ys : List V) : It :=
  ⟨fun i H => (SqL K H a xs ∧ SqT K H b ys) ∧ i < min xs.length ys.length, fun i H v H' => ∃ T x y, v = .ref T ∧ H T = none ∧ H' = upd H T (.tup [x, y]) ∧ xs[i]? = some x ∧ ys[i]? = some y,
    fun i H => (SqL K H a xs ∧ SqT K H b ys) ∧ min xs.length ys.length ≤ i⟩
theorem turn_zipN {P : Program} {w : World} {K : PySem.W.Frag} {elts : List Expr} {kk : Nat} {tpos : Pos} {a b z TI TO i1 i2 : Addr} {xs ys : List V} (D : ZipSep2 z TI TO i1 i2 [i1, a] [i2, b]) :
    Turn P w K (.Tuple elts kk tpos) (Itzn K a b xs ys) [z, TI, TO, i1, i2] z (fun i h => IsZip h z TI TO .none ∧ IsTupOf2 h TI (.ref i1) (.ref i2) ∧ (∃ x y, IsTupOf2 h TO x y) ∧ h.IsListIter i1 a i ∧ h.IsTupleIter i2 b i ∧ i ≤ xs.length ∧ i ≤ ys.length) where
  mem := by simp
  obj := fun i h st c hc => by
    obtain ⟨hz, hTI, ⟨x, y, hTO⟩, ⟨o1, e1, _, d1⟩, ⟨o2, e2, _, d2⟩, _⟩ := st
    rcases (by simpa using hc : c = z ∨ c = TI ∨ c = TO ∨ c = i1 ∨ c = i2) with q | q | q | q | q
    · rw [q]; exact ⟨_, hz, fun v q => nomatch q⟩
    · rw [q]; exact ⟨_, hTI, fun v q => nomatch q⟩
    · rw [q]; exact ⟨_, hTO, fun v q => nomatch q⟩
    · rw [q]; exact ⟨o1, e1, fun v q => by rw [d1] at q; cases q⟩
    · rw [q]; exact ⟨o2, e2, fun v q => by rw [d2] at q; cases q⟩
  keep := fun i h h' st k => by
    obtain ⟨hz, hTI, ⟨x, y, hTO⟩, h1, h2, l⟩ := st
    exact ⟨k z (by simp) _ hz, k TI (by simp) _ hTI, ⟨x, y, k TO (by simp) _ hTO⟩, h1.at fun o q => k i1 (by simp) o q, h2.at fun o q => k i2 (by simp) o q, l⟩
  item := by
    intro X hP hw hK hc i pins s σ H E I hf st hg
    subst hP hw hK
    obtain ⟨hz, hTI, ⟨x0, y0, hTO⟩, h1, h2, l1, l2⟩ := st
    obtain ⟨⟨hqx, hqy⟩, hi⟩ := hg
    obtain ⟨its, rv, tp, _⟩ := I.list hqx
    obtain ⟨its2, rv2, p2, _⟩ := I.tuple hqy
    have hx : xs[i]? = some (xs[i]'(by omega)) := List.getElem?_eq_getElem _
    have hy : ys[i]? = some (ys[i]'(by omega)) := List.getElem?_eq_getElem _
    obtain ⟨u, hu, ru⟩ := rv.get hx
    obtain ⟨u2, hu2, ru2⟩ := rv2.get hy
    have hzl : z < s.heap.objs.size := Heap.lt_size hz
    have n1 := rv.length
    have n2 := rv2.length
    have hd1 : X.A.in1.handled = none := I.ok.hd hc
    have nea : a ≠ i1 := fun q => by
      obtain ⟨o, ho, hc1, _⟩ := id tp.isList
      obtain ⟨o', ho', hc2, _⟩ := id h1
      rw [q, ho'] at ho; cases ho; rw [hc2] at hc1; exact absurd (Value.type.inj hc1) (by decide)
    have neb : b ≠ i2 := fun q => by
      obtain ⟨o, ho, hc1, _⟩ := id p2
      obtain ⟨o', ho', hc2, _⟩ := id h2
      rw [q, ho'] at ho; cases ho; rw [hc2] at hc1; exact absurd (Value.type.inj hc1) (by decide)
    refine wpAny_pyNext_zipD2_item D (Draws.list hd1 i1 a nea its.toArray) (Draws.tuple hd1 i2 b neb its2.toArray) hz hTI hTO ⟨h1, tp.isList⟩ ⟨h2, p2⟩ (by simp; omega) (by simp; omega) fun v1 v2 h' tk e1 e2 z' TO' s1 s2 hT hsz hk => ?_
    have w1 : v1 = u := by rw [show its.toArray[i]? = some u by simpa using hu] at e1; exact (Option.some.inj e1).symm
    have w2 : v2 = u2 := by rw [show its2.toArray[i]? = some u2 by simpa using hu2] at e2; exact (Option.some.inj e2).symm
    subst w1 w2
    refine ⟨_, rfl, wpAny_letOwnedTupleGo_zip (s := { s with heap := h', toks := tk }) z' fun h'' z'' sb => ?_⟩
    have hT2 : h''.get? s.heap.objs.size = some { cls := .type "tuple", data := .seq #[v1, v2] } := (sb.2 _ (Nat.ne_of_gt hzl)).trans hT
    have new : ObjOk X.prog X.w (upd H s.heap.objs.size (.tup [xs[i]'(by omega), ys[i]'(by omega)])) h'' s.heap.objs.size (.tup [xs[i]'(by omega), ys[i]'(by omega)]) :=
      ⟨by show 2 ≤ sizeLine; decide, [v1, v2], .cons ru (.cons ru2 .nil), ⟨_, hT2, rfl, _, rfl⟩⟩
    have kk5 : ∀ c o, c ∉ [z, TI, TO, i1, i2] → s.heap.get? c = some o → h''.get? c = some o := fun c o hb q => (sb.2 c (fun q' => hb (by simp [q']))).trans (hk c o (fun q' => hb (by simp [q'])) (fun q' => hb (by simp [q'])) (fun q' => hb (by simp [q'])) (fun q' => hb (by simp [q'])) q)
    have I1 : Inv X pins σ (upd H s.heap.objs.size (.tup [xs[i]'(by omega), ys[i]'(by omega)])) { s with heap := h'', toks := tk } := I.turnedNew (t' := tk) (ch := [z, TI, TO, i1, i2]) kk5 hf (Nat.le_refl _) new
    have fz : ∀ c ∈ [z, TI, TO, i1, i2], upd H s.heap.objs.size (.tup [xs[i]'(by omega), ys[i]'(by omega)]) c = none := fun c hcm => by
      have hlt : c < s.heap.objs.size := by
        rcases (by simpa using hcm : c = z ∨ c = TI ∨ c = TO ∨ c = i1 ∨ c = i2) with q | q | q | q | q
        · rw [q]; exact hzl
        · rw [q]; exact Heap.lt_size hTI
        · rw [q]; exact Heap.lt_size hTO
        · rw [q]; obtain ⟨_, e1, _⟩ := h1; exact Heap.lt_size e1
        · rw [q]; obtain ⟨_, e2, _⟩ := h2; exact Heap.lt_size e2
      rw [upd_ne (Nat.ne_of_lt hlt)]
      exact (hf c hcm).1
    have tI : h''.get? TI = some { cls := .type "tuple", data := .seq #[.ref i1, .ref i2] } := (sb.2 _ D.TIz).trans (hk _ _ D.TIz D.TITO D.TIi1 D.TIi2 hTI)
    have nn : i + 1 ≤ xs.length ∧ i + 1 ≤ ys.length := by omega
    exact ⟨.ref s.heap.objs.size, _, I1, rfl, ⟨_, _, _, rfl, I.hok.fresh (Nat.le_refl _), rfl, hx, hy⟩, ⟨z'', tI, ⟨_, _, (sb.2 _ D.TOz).trans TO'⟩, s1.1.at fun o q => (sb.2 _ D.zi1.symm).trans q, s2.1.at fun o q => (sb.2 _ D.zi2.symm).trans q, nn⟩, fz⟩
  done := by
    intro X hP hw hK hc i pins s σ H E I hf st hg
    subst hP hw hK
    obtain ⟨hz, hTI, ⟨x0, y0, hTO⟩, h1, h2, l1, l2⟩ := st
    obtain ⟨⟨hqx, hqy⟩, hi⟩ := hg
    obtain ⟨its, rv, tp, _⟩ := I.list hqx
    obtain ⟨its2, rv2, p2, _⟩ := I.tuple hqy
    have n1 := rv.length
    have n2 := rv2.length
    have hd1 : X.A.in1.handled = none := I.ok.hd hc
    have nea : a ≠ i1 := fun q => by
      obtain ⟨o, ho, hc1, _⟩ := id tp.isList
      obtain ⟨o', ho', hc2, _⟩ := id h1
      rw [q, ho'] at ho; cases ho; rw [hc2] at hc1; exact absurd (Value.type.inj hc1) (by decide)
    have neb : b ≠ i2 := fun q => by
      obtain ⟨o, ho, hc1, _⟩ := id p2
      obtain ⟨o', ho', hc2, _⟩ := id h2
      rw [q, ho'] at ho; cases ho; rw [hc2] at hc1; exact absurd (Value.type.inj hc1) (by decide)
    exact wpAny_pyNext_zipD2_end D (Draws.list hd1 i1 a nea its.toArray) (Draws.tuple hd1 i2 b neb its2.toArray) hz hTI hTO ⟨h1, tp.isList⟩ ⟨h2, p2⟩ (by simp; omega) (by simp; omega) (by simp; omega) fun h' tk hk => ⟨rfl, I.turnedL (t' := tk) (ch := [z, TI, TO, i1, i2]) (fun c o hb q =>
      hk c o (fun q' => hb (by simp [q'])) (fun q' => hb (by simp [q'])) (fun q' => hb (by simp [q'])) (fun q' => hb (by simp [q'])) q) hf⟩
  self := fun A i s Q E st h => wpAny_pyIter_zip st.1 h
def iZipN (K : PySem.W.Frag) (ta : TA) : TI := fun σ H R => ta σ H fun vs H1 => ∃ a b xs ys, vs = [.ref a, .ref b] ∧ SqL K H1 a xs ∧ SqT K H1 b ys ∧ R (Itzn K a b xs ys) H1
theorem pi_zipN {X : Cx} {e e2 : Expr} {ta : TA} {p pos tpos : Pos} {elts : List Expr} {kk : Nat} (hg : Gl X "zip") (hm : X.mg "zip" = none) (ha : PA X [e, e2] ta)
    (hs : starEach [e, e2] X.env = (false, eval e X.env) :: starEach [e2] X.env := by rfl) (hpl : (backTo pos (starEach [e2] X.env)).any (·.1) = false := by rfl) :
    PI X (.Tuple elts kk tpos) (.Call (.Name "zip" p) [e, e2] [] pos) (iZipN X.K ta) := by
  refine ⟨fun pins s σ H R I h => ?_⟩
  refine Call_ (ld_blt I hg hm PyProof.Rows.boot_zip (PyProof.Rows.callWith_type1 (thn (ha.run pos pins s σ H _ I h) fun us s1 ⟨vs, H1, I1, r1, a, b, xs, ys, ex, hqx, hqy, q⟩ => ?_) hs hpl))
  subst ex
  cases r1 with
  | cons r rr =>
    cases rr with
    | cons r' rr =>
      cases rr
      cases r
      cases r'
      obtain ⟨its, rv, tp, _⟩ := I1.list hqx
      obtain ⟨its2, rv2, p2, _⟩ := I1.tuple hqy
      have la : a < s1.heap.objs.size := tp.lt
      have lb : b < s1.heap.objs.size := p2.lt
      refine zip_begins2 (begins_list a its.toArray) (begins_tuple b its2.toArray) tp.isList p2 fun h' hz hTI hTO h1 h2 hsz hk => wpAny_pyIter_zip hz ?_
      have I2 : Inv X pins σ H1 { s1 with heap := h' } := I1.kept (t' := s1.toks) hk
      refine ⟨s1.heap.objs.size + 4, [s1.heap.objs.size + 4, s1.heap.objs.size + 2, s1.heap.objs.size + 3, s1.heap.objs.size, s1.heap.objs.size + 1], _, _, H1, rfl, I2, turn_zipN ?_, ⟨hz, hTI, ⟨_, _, hTO⟩, ⟨_, h1, rfl, rfl⟩, ⟨_, h2, rfl, rfl⟩, Nat.zero_le _, Nat.zero_le _⟩, fun c hcm => ?_, q⟩
      · have A : ∀ k : Nat, s1.heap.objs.size + k ≠ a := fun k => Nat.ne_of_gt (Nat.lt_of_lt_of_le la (Nat.le_add_right _ _))
        have B : ∀ k : Nat, s1.heap.objs.size + k ≠ b := fun k => Nat.ne_of_gt (Nat.lt_of_lt_of_le lb (Nat.le_add_right _ _))
        have C : ∀ j k : Nat, j ≠ k → s1.heap.objs.size + j ≠ s1.heap.objs.size + k := fun j k hjk z => hjk (Nat.add_left_cancel z)
        have N2 : ∀ {x y c : Nat}, c ≠ x → c ≠ y → c ∉ [x, y] := fun h1 h2 hm => by
          rcases List.mem_cons.mp hm with q | q
          · exact h1 q
          · exact h2 (List.mem_singleton.mp q)
        exact ⟨C 2 4 (by decide), C 3 4 (by decide), C 2 3 (by decide), C 2 0 (by decide), List.mem_cons_self, N2 (C 4 0 (by decide)) (A 4), N2 (C 3 0 (by decide)) (A 3), C 2 1 (by decide), List.mem_cons_self, N2 (C 4 1 (by decide)) (B 4), N2 (C 3 1 (by decide)) (B 3), N2 (C 0 1 (by decide)) (B 0), N2 (C 1 0 (by decide)) (A 1)⟩
      · have hle : s1.heap.objs.size ≤ c := by
          rcases (by simpa using hcm : c = s1.heap.objs.size + 4 ∨ c = s1.heap.objs.size + 2 ∨ c = s1.heap.objs.size + 3 ∨ c = s1.heap.objs.size ∨ c = s1.heap.objs.size + 1) with z | z | z | z | z <;> rw [z] <;> first | exact Nat.le_refl _ | exact Nat.le_add_right _ _
        exact I1.fpOk hle (I1.hok.fresh hle)
theorem walk_zipN {K : PySem.W.Frag} {a b : Addr} {xs ys : List V} : Walk (Itzn K a b xs ys) (min xs.length ys.length) (fun H => SqL K H a xs ∧ SqT K H b ys) (YPair (fun i => xs[i]?) fun i => ys[i]?) :=
  ⟨fun i _ hi q => ⟨q, hi⟩, fun _ q => ⟨q, Nat.le_refl _⟩, fun _ _ _ _ _ _ y => by obtain ⟨T, x, z, h⟩ := y; exact ⟨T, x, z, h⟩⟩
end L2

/-! d == e of two dicts whose values are data -/
namespace L2
open PySem PySem.Spec PyProof.Rows
section
variable {X : Cx}
def rEqK (K : PySem.W.Frag) : R2 := fun x y H Q => ∃ (a b : Addr) (ka kb : List (Key × V)) (f : Key → Bool), x = .ref a ∧ y = .ref b ∧ H a = some (.dK ka) ∧ H b = some (.dK kb) ∧
  (∀ k v u, (k, v) ∈ ka → valV kb k = some u → ∃ d e, Dp K H v d ∧ Dp K H u e ∧ SeqAt.shaped d = true ∧ SeqAt.shaped e = true ∧ f k = PyData.eqv d e) ∧
  Q (.bl (ka.length == kb.length && ka.all fun p => (valV kb p.1).isSome && f p.1)) H
theorem kv_mem {kvs : List (Key × V)} {vs : List (Key × Value)} (r : KV kvs vs) {k : Key} {v : Value} (h : (k, v) ∈ vs) : ∃ u, (k, u) ∈ kvs ∧ RelV u v := by
  unfold KV at r
  induction r with
  | nil => cases h
  | @cons p q ps qs h1 t ih =>
    rcases List.mem_cons.mp h with e | h
    · subst e
      obtain ⟨e1, e2⟩ := h1
      have e1' : p.1 = k := e1
      exact ⟨p.2, by rw [← e1']; exact List.mem_cons_self, e2⟩
    · obtain ⟨u, hu, ru⟩ := ih h
      exact ⟨u, List.mem_cons_of_mem _ hu, ru⟩
theorem kv_all {kvs : List (Key × V)} {vs : List (Key × Value)} (r : KV kvs vs) (g : Key → Bool) : (vs.all fun p => g p.1) = kvs.all fun p => g p.1 := by
  unfold KV at r
  induction r with
  | nil => rfl
  | cons h t ih => rw [List.all_cons, List.all_cons, ih, h.1]
theorem op_eqK (hu : X.A.units + 65 < cLine) : OpR X (compareOp .Eq) (rEqK X.K) := by
  intro pins s σ H x y v u Q I rx ry h
  obtain ⟨a, b, ka, kb, f, rfl, rfl, ha, hb, hk, q⟩ := h
  obtain rfl : v = Value.ref a := rx
  obtain rfl : u = Value.ref b := ry
  obtain ⟨_, za, va, ra, da⟩ := dk_of I.hok ha
  obtain ⟨_, zb, vb, rb, db⟩ := dk_of I.hok hb
  refine PySem.W.eq_dictsT (n := 64) za zb da db (e := f) (fun k v y hm hv => ?_) (by omega) ?_
  · obtain ⟨v', hv', rv⟩ := kv_mem ra hm
    have rel := rb.val k
    rw [hv] at rel
    cases e : valV kb k with
    | none => rw [e] at rel; cases rel
    | some y' =>
      rw [e] at rel
      have ry : RelV y' y := rel
      obtain ⟨d, e2, h1, h2, s1, s2, ef⟩ := hk k v' y' hv' e
      rw [ef]
      obtain ⟨as, r1⟩ := Dp.reads I d v' v h1 rv
      obtain ⟨bs, r2⟩ := Dp.reads I e2 y' y h2 ry
      refine .leaf fun A hA => SeqAt.eqAt_reads d e2 A s v y as bs r1 r2 (SeqAt.canLay_of_shaped s1) (SeqAt.canLay_of_shaped s2) ?_
      have h64 : d.depth ≤ 64 := by
        have z : (d.canLay0 && decide (d.depth ≤ 64)) = true := s1
        rw [Bool.and_eq_true] at z
        exact of_decide_eq_true z.2
      omega
  · refine ⟨.bl _, H, I, rfl, ?_⟩
    have e1 : va.length = ka.length := ra.length.symm
    have e2 : vb.length = kb.length := rb.length.symm
    have e3 : (va.all fun p => (valueAt vb p.1).isSome && f p.1) = ka.all fun p => (valV kb p.1).isSome && f p.1 := by
      rw [kv_all ra fun k => (valueAt vb k).isSome && f k]
      refine congrArg (fun g : Key × V → Bool => ka.all g) (funext fun p => ?_)
      rw [← (rb.val p.1).isSome_eq]
    rw [e1, e2, e3]
    exact q
end
end L2

/-! name = {k: v for ..} on one line, the name a local -/
namespace L2
open PySem PySem.Spec PyProof.Rows
section
variable {X : Cx}
theorem ps_setDc {i : Nat} {y : Str} {py : Pos} {kx vx tg iter : Expr} {ifs : List Expr} {scope : Scope} {own : List (Str × Nat)} {pos spos : Pos} {wi : TI} {g : TG} {tt : TT} {tk tv : TE} (hc : X.calm = true) (hN : X.N.Nodup) (hy : X.N[i]? = some y) (hyl : X.env.scope.names.lookup y = some .local)
    (hsw : swapsWith (.DictComp kx vx [⟨tg, iter, ifs, 0⟩] scope pos) (some (.Name y py)) spos.line X.env = pure true) (hi : PI X tg iter wi) (ok : BlkOk X.N X.env.scope scope own)
    (hg : ∀ (s : Shared) (H : Hp) (C : Addr) (cl : List (Str × Addr)) (fp : List Addr), PG (X.blk s H scope (compEnvC scope cl C X.env) fp) tg g) (ht : ∀ (s : Shared) (H : Hp) (C : Addr) (cl : List (Str × Addr)) (fp : List Addr), PTs (X.blk s H scope (compEnvC scope cl C X.env) fp) ifs tt)
    (hk : ∀ (s : Shared) (H : Hp) (C : Addr) (cl : List (Str × Addr)) (fp : List Addr), PE (X.blk s H scope (compEnvC scope cl C X.env) fp) kx tk)
    (he : ∀ (s : Shared) (H : Hp) (C : Addr) (cl : List (Str × Addr)) (fp : List Addr), PE (X.blk s H scope (compEnvC scope cl C X.env) fp) vx tv) (hs : ∀ x, foldedSetIterable iter X.env x = pure x := by intro _; rfl) :
    PS X (.Assign [.Name y py] (.DictComp kx vx [⟨tg, iter, ifs, 0⟩] scope pos) spos) (tAsg (tDc wi g tt tk tv (own.map (·.2))) (gName i)) := by
  refine ⟨fun pins s σ H D I h => ?_⟩
  rw [exec_Assign_Name_used _ _ _ _ hsw]
  refine wpAny_bind (wpAny_standAt (wpAny_bind ?_))
  show wpAny _ X.A (do let _ ← comprehension (.DictComp kx vx [⟨tg, iter, ifs, 0⟩] scope pos) scope X.env (firstIterPos [⟨tg, iter, ifs, 0⟩] pos) newDict false (eval iter X.env) (some (assign (.Name y py) X.env))) _ _ s
  have h : tDc wi g tt tk tv (own.map (·.2)) σ H (fun x H1 => gName i x σ H1 D.nx) := h
  refine wpAny_bind (thn (dc_core (Qf := fun _ s' => SP X pins D .next s') hc hN I hi ok hg ht hk he hs h fun L C s' m H' I' q hn f => ?_) fun _ s' hq => wpAny_pure (wpAny_pure hq))
  show wpAny _ _ (assign (.Name y py) X.env (.ref L)) _ _ _
  refine wpAny_assign_Name (store_ok2 (v := V.ref L) I' hN hy (.inl hyl) rfl (fun s2 I2 ⟨a, sb, ha⟩ => ?_) (.inr hyl))
  obtain ⟨f0, f1, f2, f3, f4, f5⟩ := f
  have haC : C ≠ a := by
    rcases ha with z | z
    · rw [z]; exact f1
    · exact fun e => f4 y a z e.symm
  refine ⟨m, hn.sameBut sb haC, fun h3 sb3 => ?_⟩
  exact ⟨_, H', I2.turned (t' := s2.toks) (fun b o hb e => (sb3.2 b hb).trans e) f0 f1 f3 f4 f5, q⟩
theorem swD_true {kx vx : Expr} {gs : List Comprehension} {scope : Scope} {pos py : Pos} {y : Str} {l : Nat} {env : Env} (hk : env.scope.kind = .function) (hy : env.scope.names.lookup y = some .local) (hl : (py.line == pos.line) = true)
    (ha : (scope.names.any fun (n, k) => n == y && (k == .local || k == .cell)) = false) : swapsWith (.DictComp kx vx gs scope pos) (some (.Name y py)) l env = pure true := by
  have ky : env.kindOf y = some .local := hy
  have hb : env.blockKind = .function := by unfold Env.blockKind; rw [hk]; rfl
  unfold swapsWith
  simp only [hb, ky, ha, Expr.pos, hl]
  rfl
end
end L2

/-! list(zip(a list, a tuple)): a new list of new tuples -/
namespace L2
open PySem PySem.Spec PyProof.Rows
section
variable {prog : Program} {w : World} {A : Around} {E : Value → Shared → Prop} {s : Shared} {z TI TO i1 i2 a b d : Addr} {xs ys : Array Value} {i : Nat}
theorem lz_item {Q : Option Value → Shared → Prop} (D : ZipSep2 z TI TO i1 i2 [i1, a] [i2, b]) (nea : a ≠ i1) (neb : b ≠ i2) (hA : A.handled = none) (hi : i < min xs.size ys.size) (st : DzSt z TI TO i1 i2 a b xs ys d i s.heap) (hds : d < s.heap.objs.size)
    (hQ : ∀ v1 v2 h' tk, xs[i]? = some v1 → ys[i]? = some v2 → IsTupOf2 h' s.heap.objs.size v1 v2 → DzSt z TI TO i1 i2 a b xs ys d (i + 1) h' → (∀ c o, c ∉ [z, TO, i1, i2] → s.heap.get? c = some o → h'.get? c = some o) → Q (some (.ref s.heap.objs.size)) { s with heap := h', toks := tk }) :
    wpAny (model prog w) A (pyNext (.ref z)) Q E s := by
  obtain ⟨hTI, h1, h2, hz⟩ := st
  have hA1 : A.in1.handled = none := hA
  have lx : i < xs.size := Nat.lt_of_lt_of_le hi (Nat.min_le_left ..)
  have ly : i < ys.size := Nat.lt_of_lt_of_le hi (Nat.min_le_right ..)
  have gt : ∀ {c o}, s.heap.get? c = some o → s.heap.objs.size ≠ c := fun e => Nat.ne_of_gt (Heap.lt_size e)
  have n1 : s.heap.objs.size ≠ i1 := let ⟨_, e, _⟩ := h1.1; gt e
  have n2 : s.heap.objs.size ≠ i2 := let ⟨_, e, _⟩ := h2.1; gt e
  rcases hz with ⟨hz, u, v, hTO⟩ | ⟨T, f, oT, hz, hT, r1, r2, r3, r4⟩
  · refine wpAny_pyNext_zipD2_item D (Draws.list hA1 i1 a nea xs) (Draws.tuple hA1 i2 b neb ys) hz hTI hTO h1 h2 lx ly fun v1 v2 h' tk e1 e2 z' TO' t1 t2 hT hsz hk => ?_
    exact hQ v1 v2 h' tk e1 e2 hT ⟨hk _ _ D.TIz D.TITO D.TIi1 D.TIi2 hTI, t1, t2, .inr ⟨s.heap.objs.size, false, _, z', hT, gt hz, n1, n2, Nat.ne_of_gt hds⟩⟩
      fun c o hc e => hk c o (fun x => hc (by simp [x])) (fun x => hc (by simp [x])) (fun x => hc (by simp [x])) (fun x => hc (by simp [x])) e
  · refine dzn_item D (Draws.list hA1 i1 a nea xs) (Draws.tuple hA1 i2 b neb ys) hz hT hTI h1 h2 lx ly fun v1 v2 h' tk e1 e2 z' t1 t2 hT2 hk => ?_
    exact hQ v1 v2 h' tk e1 e2 hT2 ⟨hk _ _ D.TIz D.TIi1 D.TIi2 hTI, t1, t2, .inr ⟨T, true, oT, z', hk _ _ r1 r2 r3 hT, r1, r2, r3, r4⟩⟩
      fun c o hc e => hk c o (fun x => hc (by simp [x])) (fun x => hc (by simp [x])) (fun x => hc (by simp [x])) e
theorem lz_done {Q : Option Value → Shared → Prop} (D : ZipSep2 z TI TO i1 i2 [i1, a] [i2, b]) (nea : a ≠ i1) (neb : b ≠ i2) (hA : A.handled = none) (st : DzSt z TI TO i1 i2 a b xs ys d (min xs.size ys.size) s.heap)
    (hQ : ∀ h' tk, (∀ c o, c ∉ [z, TO, i1, i2] → s.heap.get? c = some o → h'.get? c = some o) → Q none { s with heap := h', toks := tk }) :
    wpAny (model prog w) A (pyNext (.ref z)) Q E s := by
  obtain ⟨hTI, h1, h2, hz⟩ := st
  have hA1 : A.in1.handled = none := hA
  have le : min xs.size ys.size = xs.size ∨ min xs.size ys.size = ys.size := by omega
  rcases hz with ⟨hz, u, v, hTO⟩ | ⟨T, f, oT, hz, hT, r1, r2, r3, r4⟩
  · exact wpAny_pyNext_zipD2_end D (Draws.list hA1 i1 a nea xs) (Draws.tuple hA1 i2 b neb ys) hz hTI hTO h1 h2 (by omega) (by omega) le fun h' tk hk => hQ h' tk fun c o hc e =>
      hk c o (fun x => hc (by simp [x])) (fun x => hc (by simp [x])) (fun x => hc (by simp [x])) (fun x => hc (by simp [x])) e
  · exact dzn_end D (Draws.list hA1 i1 a nea xs) (Draws.tuple hA1 i2 b neb ys) hz hT hTI h1 h2 (by omega) (by omega) le fun h' tk hk => hQ h' tk fun c o hc e => hk c o (fun x => hc (by simp [x])) (fun x => hc (by simp [x])) (fun x => hc (by simp [x])) e
theorem DzSt.frame {h h' : Heap} (D : ZipSep2 z TI TO i1 i2 [i1, a] [i2, b]) (off : d ∉ [z, TI, TO, i1, i2, a, b]) (st : DzSt z TI TO i1 i2 a b xs ys d i h) (hk : ∀ c o, c ≠ d → h.get? c = some o → h'.get? c = some o) : DzSt z TI TO i1 i2 a b xs ys d i h' := by
  simp only [List.mem_cons, List.not_mem_nil, or_false, not_or] at off
  obtain ⟨dz, dTI, dTO, di1, di2, da, db⟩ := off
  obtain ⟨hTI, ⟨h1, hl1⟩, ⟨h2, hl2⟩, hz⟩ := st
  refine ⟨hk _ _ (Ne.symm dTI) hTI, ⟨h1.at fun o e => hk _ o (Ne.symm di1) e, hl1.at fun o e => hk _ o (Ne.symm da) e⟩, ⟨h2.at fun o e => hk _ o (Ne.symm di2) e, hl2.at fun o e => hk _ o (Ne.symm db) e⟩, ?_⟩
  rcases hz with ⟨hz, u, v, hTO⟩ | ⟨T, f, oT, hz, hT, r1, r2, r3, r4⟩
  · exact .inl ⟨hk _ _ (Ne.symm dz) hz, u, v, hk _ _ (Ne.symm dTO) hTO⟩
  · exact .inr ⟨T, f, oT, hk _ _ (Ne.symm dz) hz, hk _ _ r4 hT, r1, r2, r3, r4⟩
/-- the tuples made so far -/
def LzAt (base : Nat) (xs ys : Array Value) (h : Heap) (ts : List Addr) : Prop :=
  ts.Pairwise (fun (a b : Nat) => a < b) ∧ ∀ (j : Nat) (T : Addr), ts[j]? = some T → base ≤ T ∧ ∃ x y, xs[j]? = some x ∧ ys[j]? = some y ∧ IsTupOf2 h T x y
theorem LzAt.keep {base : Nat} {h h' : Heap} {ts : List Addr} (l : LzAt base xs ys h ts) (k : ∀ c o, base ≤ c → h.get? c = some o → h'.get? c = some o) : LzAt base xs ys h' ts :=
  ⟨l.1, fun j T e => by obtain ⟨b, x, y, e1, e2, t⟩ := l.2 j T e; exact ⟨b, x, y, e1, e2, k _ _ b t⟩⟩
theorem LzAt.snoc {base : Nat} {h : Heap} {ts : List Addr} {T : Addr} {x y : Value} (l : LzAt base xs ys h ts) (lt : ∀ t ∈ ts, (t : Nat) < T) (hb : base ≤ T) (e1 : xs[ts.length]? = some x) (e2 : ys[ts.length]? = some y) (t : IsTupOf2 h T x y) : LzAt base xs ys h (ts ++ [T]) := by
  refine ⟨List.pairwise_append.mpr ⟨l.1, List.pairwise_singleton _ _, fun a ha b hb => by rw [List.mem_singleton.mp hb]; exact lt a ha⟩, fun j U e => ?_⟩
  rcases Nat.lt_or_ge j ts.length with hj | hj
  · rw [List.getElem?_append_left hj] at e
    exact l.2 j U e
  · rw [List.getElem?_append_right hj] at e
    have : j - ts.length = 0 := by
      rcases Nat.eq_zero_or_pos (j - ts.length) with z | z
      · exact z
      · rw [List.getElem?_eq_none (by simp; omega)] at e; cases e
    have ej : j = ts.length := by omega
    rw [this] at e
    cases e
    subst ej
    exact ⟨hb, x, y, e1, e2, t⟩
theorem lz_loop {R : Result → Shared → Prop} {base : Nat} {S : Addr} (D : ZipSep2 z TI TO i1 i2 [i1, a] [i2, b]) (nea : a ≠ i1) (neb : b ≠ i2) (hA : A.handled = none) (off : S ∉ [z, TI, TO, i1, i2, a, b]) (hb : z < base ∧ TO < base ∧ i1 < base ∧ i2 < base ∧ S < base) (hn : min xs.size ys.size ≤ sizeLine) (res : Value) :
    ∀ (k i : Nat) (s : Shared) (ts : List Addr) (c : Nat), min xs.size ys.size - i = k → i ≤ min xs.size ys.size → DzSt z TI TO i1 i2 a b xs ys S i s.heap → s.heap.get? S = some { cls := .type "list", dict := none, data := .seq (ts.map Value.ref).toArray c, slots := #[] } → ts.length = i → LzAt base xs ys s.heap ts → base ≤ s.heap.objs.size →
    (∀ h' tk ts' c', (∀ c o, c ∉ [S, z, TO, i1, i2] → s.heap.get? c = some o → h'.get? c = some o) → h'.get? S = some { cls := .type "list", dict := none, data := .seq (ts'.map Value.ref).toArray c', slots := #[] } → ts'.length = min xs.size ys.size → LzAt base xs ys h' ts' → R (.ok (.ret res)) { s with heap := h', toks := tk }) →
    codeAny (model prog w) A (.builtin "list.extend.loop" ⟨[.ref S, .ref z, res], []⟩) R s := by
  have hA1 : A.in1.handled = none := hA
  have offS : S ∉ [z, TO, i1, i2] := fun h => off (by simp at h ⊢; rcases h with h | h | h | h <;> simp [h])
  have bw : ∀ c : Addr, base ≤ c → c ∉ [z, TO, i1, i2] := fun c hc h => by
    rcases (by simpa using h : c = z ∨ c = TO ∨ c = i1 ∨ c = i2) with e | e | e | e <;> rw [e] at hc
    · exact Nat.not_le.mpr hb.1 hc
    · exact Nat.not_le.mpr hb.2.1 hc
    · exact Nat.not_le.mpr hb.2.2.1 hc
    · exact Nat.not_le.mpr hb.2.2.2.1 hc
  intro k
  induction k with
  | zero =>
    intro i s ts c hk hi hst hS hlen hL hbs hR
    have hin : i = min xs.size ys.size := by omega
    subst hin
    refine codeAny_builtin F.entry_extend_loop ?_
    rw [Around.under_plainId F.plain_extend_loop _]
    show wpAny _ A.in1 (pyNext (.ref z) >>= _) _ _ s
    refine wpAny_bind (lz_done D nea neb hA1 hst fun h' tk hk => ?_)
    exact wpAny_pure (hR h' tk ts c (fun x o hx e => hk x o (fun m => hx (List.mem_cons_of_mem _ m)) e) (hk S _ offS hS) hlen (hL.keep fun x o hx e => hk x o (bw x hx) e))
  | succ k ih =>
    intro i s ts c hk hi hst hS hlen hL hbs hR
    have hlt : i < min xs.size ys.size := by omega
    refine codeAny_builtin F.entry_extend_loop ?_
    rw [Around.under_plainId F.plain_extend_loop _]
    show wpAny _ A.in1 (pyNext (.ref z) >>= _) _ _ s
    refine wpAny_bind (lz_item D nea neb hA1 hlt hst (Heap.lt_size hS) fun v1 v2 h' tk e1 e2 hT hst' hk' => ?_)
    have hS' := hk' S _ offS hS
    have neS : S ≠ s.heap.objs.size := Nat.ne_of_lt (Heap.lt_size hS)
    have lts : ∀ t ∈ ts, t < s.heap.objs.size := fun t ht => by
      obtain ⟨j, hj⟩ := List.getElem?_of_mem ht
      obtain ⟨_, _, _, _, _, tt⟩ := hL.2 j t hj
      exact Heap.lt_size tt
    show wpAny _ A.in1 (updateSeq S (·.push (Value.ref s.heap.objs.size)) >>= _) _ _ _
    have oth : ∀ x o, x ≠ S → h'.get? x = some o → (h'.update S (Obj.mapSeq (·.push (Value.ref s.heap.objs.size)))).get? x = some o := fun x o hx e => (Heap.get?_update_other _ _ (Ne.symm hx)).trans e
    have hL1 : LzAt base xs ys h' (ts ++ [s.heap.objs.size]) := (hL.keep fun x o hx e => hk' x o (bw x hx) e).snoc lts hbs (by rw [hlen]; exact e1) (by rw [hlen]; exact e2) hT
    have hsz : base ≤ h'.objs.size := Nat.le_trans hbs (Nat.le_of_lt (Heap.lt_size hT))
    refine wpAny_bind ?_
    refine wpAny_updateSeq hS' rfl (wpAny_pure ⟨plainId_quiet F.plain_extend_loop _, ?_⟩) (by simp [hlen]; omega) (by simp [hlen]; omega)
    obtain ⟨c2, hSn⟩ : ∃ c2, (h'.update S (Obj.mapSeq (·.push (Value.ref s.heap.objs.size)))).get? S = some { cls := .type "list", dict := none, data := .seq ((ts ++ [s.heap.objs.size]).map Value.ref).toArray c2, slots := #[] } := by
      rw [Heap.get?_update_self _ hS' rfl]
      exact ⟨_, by simp [Obj.mapSeq]; rfl⟩
    have ltT : s.heap.objs.size < (h'.update S (Obj.mapSeq (·.push (Value.ref s.heap.objs.size)))).objs.size := Heap.lt_size (oth _ _ (Ne.symm neS) hT)
    refine ih (i + 1) _ (ts ++ [s.heap.objs.size]) c2 (by omega) hlt (hst'.frame D off fun x o hx e => oth x o hx e) hSn (by simp [hlen]) (hL1.keep fun x o hx e => oth x o (fun q => by rw [q] at hx; exact Nat.not_le.mpr hb.2.2.2.2 hx) e) (Nat.le_trans hbs (Nat.le_of_lt ltT)) fun h2 tk2 ts' c' hk2 hS2 l2 hL2 => ?_
    exact hR h2 tk2 ts' c' (fun x o hx e => hk2 x o hx (oth x o (fun q => hx (by simp [q])) (hk' x o (fun m => hx (List.mem_cons_of_mem _ m)) e))) hS2 l2 hL2
theorem zip_no_len : typeLookup (.type "zip") "__len__" = pure none := am_miss_of_fast (by decide +kernel)
theorem zip_no_hint : typeLookup (.type "zip") "__length_hint__" = pure none := am_miss_of_fast (by decide +kernel)
theorem lz_extend {R : Result → Shared → Prop} {base : Nat} {S : Addr} (D : ZipSep2 z TI TO i1 i2 [i1, a] [i2, b]) (nea : a ≠ i1) (neb : b ≠ i2) (hA : A.handled = none) (off : S ∉ [z, TI, TO, i1, i2, a, b]) (hb : z < base ∧ TO < base ∧ i1 < base ∧ i2 < base ∧ S < base) (hn : min xs.size ys.size ≤ sizeLine) (res : Value) (c₀ : Nat)
    (ok : DzOk z TI TO i1 i2 a b xs ys s.heap) (hS : s.heap.get? S = some { cls := .type "list", data := .seq #[] c₀ }) (hbs : base ≤ s.heap.objs.size)
    (hR : ∀ h' tk ts' c', (∀ c o, c ∉ [S, z, TO, i1, i2] → s.heap.get? c = some o → h'.get? c = some o) → h'.get? S = some { cls := .type "list", dict := none, data := .seq (ts'.map Value.ref).toArray c', slots := #[] } → ts'.length = min xs.size ys.size → LzAt base xs ys h' ts' → R (.ok (.ret res)) { s with heap := h', toks := tk }) :
    wpAny (model prog w) A.in1 (Builtin.List.listExtendWith (.ref S) (.ref z) res)
      (fun fin s' => match fin with | .done f => R (.ok f) s' | .again c' => c'.quiet = true ∧ codeAny (model prog w) A c' R s') (fun e s' => R (.error e) s') s := by
  have hTy : s.TypeIs (.ref z) "zip" := ⟨_, ok.1.1, rfl⟩
  have hSI : S ≠ z := fun e => off (by simp [e])
  unfold Builtin.List.listExtendWith
  refine wpAny_bind (wpAny_typeOf hTy ?_)
  have h1 : Builtin.List.listSameRef (.ref S) (.ref z) = false := by simp [Builtin.List.listSameRef, hSI]
  have h2 : (Value.type "zip" == Value.type "list") = false := by decide
  have h3 : (Value.type "zip" == Value.type "tuple") = false := by decide
  simp only [h1, h2, h3, Bool.or_false, Bool.false_eq_true, if_false]
  refine wpAny_bind (wpAny_pyIter_zip ok.1.1 ?_)
  refine wpAny_bind (wpAny_holding ?_)
  unfold Builtin.List.listLengthHint
  refine wpAny_bind (wpAny_specialOf hTy zip_no_len ?_)
  show wpAny _ A.in1 (specialOf (Value.ref z) (Str.ofString "__length_hint__") >>= _) _ _ _
  refine wpAny_bind (wpAny_specialOf hTy zip_no_hint ?_)
  refine wpAny_pure ?_
  show wpAny _ A.in1 (rule "list.extend.makes-room" >>= fun _ => Builtin.List.listTouch (.ref S) >>= fun _ =>
    again (.builtin "list.extend.loop" ⟨[.ref S, .ref z, res], []⟩)) _ _ _
  refine wpAny_bind (wpAny_rule ?_)
  refine wpAny_bind ?_
  show wpAny _ A.in1 (updateSeq S (·.push .none) >>= fun _ => updateSeq S (·.pop)) _ _ _
  refine wpAny_bind (wpAny_updateSeq hS rfl ?_)
  have hS₂ := Heap.get?_update_self (Obj.mapSeq (·.push Value.none)) hS rfl
  refine wpAny_updateSeq (hz := by seq_fits) hS₂ rfl ?_
  have hS₃ := Heap.get?_update_self (Obj.mapSeq (·.pop)) hS₂ rfl
  have oth : ∀ b o, b ≠ S → s.heap.get? b = some o → ((s.heap.update S (Obj.mapSeq (·.push Value.none))).update S (Obj.mapSeq (·.pop))).get? b = some o :=
    fun b o hb e => (Heap.get?_update_other _ _ (Ne.symm hb)).trans ((Heap.get?_update_other _ _ (Ne.symm hb)).trans e)
  have hsz : ((s.heap.update S (Obj.mapSeq (·.push Value.none))).update S (Obj.mapSeq (·.pop))).objs.size = s.heap.objs.size := by
    simp [Heap.update]
  have st0 : DzSt z TI TO i1 i2 a b xs ys S 0 s.heap := ⟨ok.2.1, ok.2.2.1, ok.2.2.2, .inl ok.1⟩
  refine wpAny_pure ⟨plainId_quiet F.plain_extend_loop _, lz_loop D nea neb hA off hb hn res _ 0 _ [] _ rfl (Nat.zero_le _)
    (st0.frame D off fun x o hx e => oth x o hx e) hS₃ rfl ⟨List.Pairwise.nil, fun j T e => by simp at e⟩ (by rw [hsz]; exact hbs) fun h' tk ts' c' hk hS' hl hL => ?_⟩
  exact hR h' tk ts' c' (fun x o hx e => hk x o hx (oth x o (fun q => hx (by simp [q])) e)) hS' hl hL
theorem call_list_zip {Q : Value → Shared → Prop} (D : ZipSep2 z TI TO i1 i2 [i1, a] [i2, b]) (nea : a ≠ i1) (neb : b ≠ i2) (hA : A.handled = none) (hn : min xs.size ys.size ≤ sizeLine) (ok : DzOk z TI TO i1 i2 a b xs ys s.heap)
    (hQ : ∀ h' tk ts' c', (∀ c o, c ∉ [z, TO, i1, i2] → s.heap.get? c = some o → h'.get? c = some o) → h'.get? s.heap.objs.size = some { cls := .type "list", dict := none, data := .seq (ts'.map Value.ref).toArray c', slots := #[] } → ts'.length = min xs.size ys.size → LzAt (s.heap.objs.size + 1) xs ys h' ts' → Q (.ref s.heap.objs.size) { s with heap := h', toks := tk }) :
    wpAny (model prog w) A (call (.type "list") [.ref z]) Q E s := by
  have lt : ∀ c ∈ [z, TI, TO, i1, i2, a, b], c < s.heap.objs.size := fun c hc => by
    obtain ⟨⟨hz, u, v, hTO⟩, hTI, ⟨⟨o1, h1, _⟩, ⟨o3, hl1, _⟩⟩, ⟨o2, h2, _⟩, ⟨o4, hl2, _⟩⟩ := ok
    rcases (by simpa using hc : c = z ∨ c = TI ∨ c = TO ∨ c = i1 ∨ c = i2 ∨ c = a ∨ c = b) with q | q | q | q | q | q | q <;> rw [q]
    · exact Heap.lt_size hz
    · exact Heap.lt_size hTI
    · exact Heap.lt_size hTO
    · exact Heap.lt_size h1
    · exact Heap.lt_size h2
    · exact Heap.lt_size hl1
    · exact Heap.lt_size hl2
  have off : s.heap.objs.size ∉ [z, TI, TO, i1, i2, a, b] := fun h => Nat.lt_irrefl _ (lt _ h)
  refine callType_codes (Q₁ := fun obj s₁ => obj = .ref s.heap.objs.size ∧ s₁ = { s with heap := s.heap.push { cls := .type "list", data := .seq #[] } }) F.called_list (F.typeCall_list_1 _) F.entry_list_init
    (code_list_new _ ⟨rfl, rfl⟩) fun obj s₁ h₁ => ?_
  obtain ⟨rfl, rfl⟩ := h₁
  have hS : (s.heap.push { cls := .type "list", data := .seq #[] }).get? s.heap.objs.size = some { cls := .type "list", data := .seq #[] } := Heap.get?_push_size _ rfl
  have up : ∀ c o, s.heap.get? c = some o → (s.heap.push { cls := .type "list", data := .seq #[] }).get? c = some o := fun c o e => Heap.get?_push_of_some _ e
  refine ⟨⟨_, hS, rfl⟩, F.args_list_init_2 _ _, ?_⟩
  show wpAny _ A.in1.in1 (do let old ← Builtin.List.listItems (.ref s.heap.objs.size); Builtin.List.listUpdate (.ref s.heap.objs.size) (fun _ => #[]); letGo old.toList.reverse; Builtin.List.listExtendWith (.ref s.heap.objs.size) (.ref z) .none) _ _ _
  refine wpAny_bind ?_
  unfold Builtin.List.listItems
  refine wpAny_bind (wpAny_seqItems hS rfl (wpAny_pure ?_))
  show wpAny _ A.in1.in1 (updateSeq s.heap.objs.size (fun _ => #[]) >>= fun _ => letGo (#[] : Array Value).toList.reverse >>= fun _ => Builtin.List.listExtendWith (.ref s.heap.objs.size) (.ref z) .none) _ _ _
  refine wpAny_bind (wpAny_updateSeq hS rfl ?_)
  have hS₂ := Heap.get?_update_self (Obj.mapSeq (fun _ => (#[] : Array Value))) hS rfl
  have oth : ∀ b o, b ≠ s.heap.objs.size → (s.heap.push { cls := .type "list", data := .seq #[] }).get? b = some o → ((s.heap.push { cls := .type "list", data := .seq #[] }).update s.heap.objs.size (Obj.mapSeq (fun _ => (#[] : Array Value)))).get? b = some o :=
    fun b o hb e => (Heap.get?_update_other _ _ (Ne.symm hb)).trans e
  have oth' : ∀ c o, s.heap.get? c = some o → ((s.heap.push { cls := .type "list", data := .seq #[] }).update s.heap.objs.size (Obj.mapSeq (fun _ => (#[] : Array Value)))).get? c = some o := fun c o e => oth c o (Nat.ne_of_lt (Heap.lt_size e)) (up c o e)
  refine wpAny_bind (wpAny_letGo ?_)
  have hsz : ((s.heap.push { cls := .type "list", data := .seq #[] }).update s.heap.objs.size (Obj.mapSeq (fun _ => (#[] : Array Value)))).objs.size = s.heap.objs.size + 1 := by
    simp [Heap.update, Heap.push]
  have lt1 : ∀ c ∈ [z, TI, TO, i1, i2, a, b], c < s.heap.objs.size + 1 := fun c hc => Nat.lt_succ_of_lt (lt c hc)
  refine lz_extend (A := A.in1) (base := s.heap.objs.size + 1) D nea neb hA off ⟨lt1 _ (by simp), lt1 _ (by simp), lt1 _ (by simp), lt1 _ (by simp), Nat.lt_succ_self _⟩ hn .none _ ((pa_zipLT (prog := prog) (w := w) D nea neb xs ys).keep _ _ ok oth') hS₂ (by rw [hsz]; exact Nat.le_refl _) fun h' tk ts' c' hk hS' hl hL => ?_
  exact ⟨rfl, hQ h' tk ts' c' (fun c o hc e => hk c o (fun m => by
    rcases List.mem_cons.mp m with q | q
    · exact Nat.ne_of_lt (Heap.lt_size e) q
    · exact hc q) (oth' c o e)) hS' hl hL⟩
end
/-! ### the rule -/
section
theorem lz_paired {α β : Type} {R : α → β → Prop} : ∀ (l : List α) (m : List β), l.length = m.length → (∀ (i : Nat) x y, l[i]? = some x → m[i]? = some y → R x y) → Paired R l m
  | [], [], _, _ => .nil
  | [], _ :: _, h, _ => by simp at h
  | _ :: _, [], h, _ => by simp at h
  | x :: l, y :: m, h, k => .cons (k 0 x y rfl rfl) (lz_paired l m (by simpa using h) fun i a b e1 e2 => k (i + 1) a b (by simpa using e1) (by simpa using e2))
theorem lz_get : ∀ {vs : List V} {us : List Value}, Vals vs us → ∀ {i : Nat} {v : V} {u : Value}, vs[i]? = some v → us[i]? = some u → RelV v u
  | _, _, .nil, i, _, _, h, _ => by simp at h
  | _, _, .cons r rr, 0, _, _, h1, h2 => by cases h1; cases h2; exact r
  | _, _, .cons r rr, i + 1, _, _, h1, h2 => lz_get rr (i := i) (by simpa using h1) (by simpa using h2)
variable {P : Program} {w : World} {H : Hp} {h : Heap} {a : Addr} {o : HO}
theorem HOk.layN (x : HOk P w H h) (hn : H a = none) (new : ObjOk P w (upd H a o) h a o) : HOk P w (upd H a o) h := fun b u e => by
  by_cases hb : b = a
  · subst hb; rw [upd_same] at e; cases e; exact new
  · rw [upd_ne hb] at e
    exact (x b u e).stay (fun c v _ q => q) (fun c q => by rw [upd_ne (ne_of_none q hn)]; exact q) fun c xs q => by rw [upd_ne (ne_of_none q hn)]; exact q
theorem lz_lay : ∀ (ts : List Addr) (ps : List (V × V)) (H : Hp), HOk P w H h → ts.Pairwise (fun (a b : Nat) => a < b) → (∀ t ∈ ts, H t = none) → Paired (fun t (p : V × V) => ∃ x y, IsTupOf2 h t x y ∧ RelV p.1 x ∧ RelV p.2 y) ts ps →
    ∃ H', HOk P w H' h ∧ (∀ c o, H c = some o → H' c = some o) ∧ (∀ c, c ∉ ts → H' c = H c) ∧ Paired (fun t (p : V × V) => H' t = some (.tup [p.1, p.2])) ts ps
  | [], _, H, ok, _, _, pd => by cases pd; exact ⟨H, ok, fun _ _ e => e, fun _ _ => rfl, .nil⟩
  | t :: ts, _, H, ok, pw, fr, pd => by
    cases pd with
    | @cons _ p _ ps r pd =>
    obtain ⟨x, y, tt, r1, r2⟩ := r
    obtain ⟨lt, pw⟩ := List.pairwise_cons.mp pw
    have hn := fr t List.mem_cons_self
    have ok1 : HOk P w (upd H t (.tup [p.1, p.2])) h := HOk.layN ok hn ⟨by rw [sizeLine_eq]; show 2 ≤ _; decide, [x, y], .cons r1 (.cons r2 .nil), _, tt, rfl, _, rfl⟩
    obtain ⟨H', ok2, s2, off, pd2⟩ := lz_lay ts ps (upd H t (.tup [p.1, p.2])) ok1 pw (fun u hu => by rw [upd_ne (Nat.ne_of_gt (lt u hu))]; exact fr u (List.mem_cons_of_mem _ hu)) pd
    exact ⟨H', ok2, fun c o e => s2 _ _ (by rw [upd_ne (ne_of_none e hn)]; exact e), fun c hc => by
      rw [off c (fun m => hc (List.mem_cons_of_mem _ m)), upd_ne (fun e => hc (by rw [e]; exact List.mem_cons_self))], .cons (s2 _ _ upd_same) pd2⟩
theorem lz_refs : ∀ ts : List Addr, Vals (ts.map V.ref) (ts.map Value.ref)
  | [] => .nil
  | t :: ts => .cons rfl (lz_refs ts)
variable {X : Cx}
def tListZip (K : PySem.W.Frag) (ta : TA) : TE := fun σ H Q => ta σ H fun vs H1 => ∃ (a b : Addr) (xs ys : List V), vs = [.ref a, .ref b] ∧ SqL K H1 a xs ∧ SqT K H1 b ys ∧
  ∀ l ts H', (∀ c o, H1 c = some o → H' c = some o) → H1 l = none → (∀ t ∈ ts, H1 t = none ∧ t ≠ l) → H' l = some (.lst (ts.map V.ref)) → Paired (fun t (p : V × V) => H' t = some (.tup [p.1, p.2])) ts (xs.zip ys) → Q (.ref l) H'
theorem pe_listZip {e e2 : Expr} {ta : TA} {p p2 pos pos2 : Pos} (hcalm : X.calm = true) (hgd : Gl X "list") (hmd : X.mg "list" = none) (hvd : bootBuiltins "list" = some (.type "list")) (hgz : Gl X "zip") (hmz : X.mg "zip" = none) (ha : PA X [e, e2] ta)
    (hs : starEach [e, e2] X.env = (false, eval e X.env) :: starEach [e2] X.env := by rfl) (hpl : (backTo pos2 (starEach [e2] X.env)).any (·.1) = false := by rfl)
    (st : starEach [.Call (.Name "zip" p2) [e, e2] [] pos2] X.env = (false, eval (.Call (.Name "zip" p2) [e, e2] [] pos2) X.env) :: starEach [] X.env := by rfl) :
    PE X (.Call (.Name "list" p) [.Call (.Name "zip" p2) [e, e2] [] pos2] [] pos) (tListZip X.K ta) := by
  constructor
  intro pins s σ H Q I h
  refine wpAny_Call_Name_kw (ld_blt I hgd hmd hvd (PyProof.Rows.callWith_type1 ?_ st rfl))
  rw [st]
  show wpAny _ _ (spliced ((false, eval (.Call (.Name "zip" p2) [e, e2] [] pos2) X.env) :: backTo pos (starEach [] X.env))) _ _ s
  refine Calls.spliced_cons (Call_ (ld_blt I hgz hmz PyProof.Rows.boot_zip (PyProof.Rows.callWith_type1 (thn (ha.run pos2 pins s σ H _ I h) fun us s1 ⟨vs, H1, I1, r1, a, b, xs, ys, ex, hqx, hqy, q⟩ => ?_) hs hpl)))
  subst ex
  cases r1 with
  | cons r rr =>
    cases rr with
    | cons r' rr =>
      cases rr
      cases r
      cases r'
      obtain ⟨its, rv, pl, hz1⟩ := I1.list hqx
      obtain ⟨its2, rv2, tp, hz2⟩ := I1.tuple hqy
      have la : a < s1.heap.objs.size := pl.lt
      have lb : b < s1.heap.objs.size := tp.lt
      refine zip_begins2 (begins_list a its.toArray) (begins_tuple b its2.toArray) pl.isList tp fun h' hz hTI hTO h1 h2 hsz hk => ?_
      refine Calls.spliced_nil ?_
      have A : ∀ k : Nat, s1.heap.objs.size + k ≠ a := fun k => Nat.ne_of_gt (Nat.lt_of_lt_of_le la (Nat.le_add_right _ _))
      have B : ∀ k : Nat, s1.heap.objs.size + k ≠ b := fun k => Nat.ne_of_gt (Nat.lt_of_lt_of_le lb (Nat.le_add_right _ _))
      have C : ∀ j k : Nat, j ≠ k → s1.heap.objs.size + j ≠ s1.heap.objs.size + k := fun j k hjk z => hjk (Nat.add_left_cancel z)
      have N2 : ∀ {x y c : Nat}, c ≠ x → c ≠ y → c ∉ [x, y] := fun h1 h2 hm => by
        rcases List.mem_cons.mp hm with q | q
        · exact h1 q
        · exact h2 (List.mem_singleton.mp q)
      have D : ZipSep2 (s1.heap.objs.size + 4) (s1.heap.objs.size + 2) (s1.heap.objs.size + 3) s1.heap.objs.size (s1.heap.objs.size + 1) [s1.heap.objs.size, a] [s1.heap.objs.size + 1, b] :=
        ⟨C 2 4 (by decide), C 3 4 (by decide), C 2 3 (by decide), C 2 0 (by decide), List.mem_cons_self, N2 (C 4 0 (by decide)) (A 4), N2 (C 3 0 (by decide)) (A 3), C 2 1 (by decide), List.mem_cons_self, N2 (C 4 1 (by decide)) (B 4), N2 (C 3 1 (by decide)) (B 3), N2 (C 0 1 (by decide)) (B 0), N2 (C 1 0 (by decide)) (A 1)⟩
      have hge : s1.heap.objs.size ≤ h'.objs.size := by omega
      have n1 := rv.length
      have n2 := rv2.length
      refine call_list_zip (s := { s1 with heap := h' }) (xs := its.toArray) (ys := its2.toArray) D (Ne.symm (A 0)) (Ne.symm (B 1)) (I1.ok.hd hcalm) ?_
        ⟨⟨hz, _, _, hTO⟩, hTI, ⟨⟨_, h1, rfl, rfl⟩, pl.isList.at fun o e => hk _ _ e⟩, ⟨_, h2, rfl, rfl⟩, let ⟨o, ho, r⟩ := tp; ⟨o, hk _ _ ho, r⟩⟩ fun h'' tk ts c' k hS hl hL => ?_
      · simp
        rw [← n1]
        exact Nat.le_trans (Nat.min_le_left _ _) hz1
      · have kk : ∀ c o, s1.heap.get? c = some o → h''.get? c = some o := fun c o e => k c o (fun hm => by
          have lc := Heap.lt_size e
          rcases (by simpa using hm : c = s1.heap.objs.size + 4 ∨ c = s1.heap.objs.size + 3 ∨ c = s1.heap.objs.size ∨ c = s1.heap.objs.size + 1) with z | z | z | z <;> exact absurd lc (by rw [z]; exact Nat.not_lt.mpr (by first | exact Nat.le_refl _ | exact Nat.le_add_right _ _))) (hk c o e)
        have hlz : ts.length = (xs.zip ys).length := by rw [hl, List.length_zip, n1, n2]; simp
        have geT : ∀ t ∈ ts, h'.objs.size + 1 ≤ t := fun t ht => by
          obtain ⟨j, hj⟩ := List.getElem?_of_mem ht
          exact (hL.2 j t hj).1
        have frT : ∀ t ∈ ts, H1 t = none := fun t ht => I1.hok.fresh (Nat.le_trans hge (Nat.le_trans (Nat.le_succ _) (geT t ht)))
        have frS : H1 h'.objs.size = none := I1.hok.fresh hge
        obtain ⟨H2, ok2, s2, off2, pd2⟩ := lz_lay (P := X.prog) (w := X.w) (h := h'') ts (xs.zip ys) H1 (I1.hok.kept kk) hL.1 frT (lz_paired _ _ hlz fun i t pr e1 e2 => by
          obtain ⟨_, x, y, ex, ey, tt⟩ := hL.2 i t e1
          obtain ⟨f1, f2⟩ := List.getElem?_zip_eq_some.mp (show (xs.zip ys)[i]? = some (pr.1, pr.2) from e2)
          exact ⟨x, y, tt, lz_get rv f1 (by simpa using ex), lz_get rv2 f2 (by simpa using ey)⟩)
        have nST : h'.objs.size ∉ ts := fun m => Nat.not_succ_le_self _ (geT _ m)
        have hn2 : H2 h'.objs.size = none := by rw [off2 _ nST]; exact frS
        have ok3 : HOk X.prog X.w (upd H2 h'.objs.size (.lst (ts.map V.ref))) h'' := HOk.layN ok2 hn2 ⟨by
          rw [List.length_map, hlz, List.length_zip]
          exact Nat.le_trans (Nat.min_le_left _ _) hz1, _, c', lz_refs ts, hS⟩
        have s3 : ∀ c o, H1 c = some o → upd H2 h'.objs.size (.lst (ts.map V.ref)) c = some o := fun c o e => by rw [upd_ne (ne_of_none (s2 _ _ e) hn2)]; exact s2 _ _ e
        have un : Un X.fs [] H1 (upd H2 h'.objs.size (.lst (ts.map V.ref))) s1.heap h'' :=
          ⟨fun b ob q _ _ _ => kk b ob q, fun b ob q _ _ _ => ⟨ob.slots, kk b ob q⟩, fun b ob q n _ => by
            have lc := Heap.lt_size q
            rw [upd_ne (Nat.ne_of_lt (Nat.lt_of_lt_of_le lc hge)), off2 b (fun m => Nat.lt_irrefl _ (Nat.lt_of_lt_of_le lc (Nat.le_trans hge (Nat.le_trans (Nat.le_succ _) (geT b m)))))]
            exact n, fun b ob q _ => ⟨ob, kk b ob q⟩, fun _ _ q => s3 _ _ q, fun _ _ _ q => s3 _ _ q, fun _ ps q => ⟨#[], by rw [s3 _ _ q]; simp⟩⟩
        exact ⟨.ref h'.objs.size, upd H2 h'.objs.size (.lst (ts.map V.ref)), I1.un un ok3, rfl, q _ ts _ s3 frS (fun t ht => ⟨frT t ht, fun e => nST (by rw [← e]; exact ht)⟩) upd_same
          (Paired.mono (fun t pr e => by rw [upd_ne (fun z => by rw [z, hn2] at e; cases e)]; exact e) pd2)⟩
end
end L2

/-! a text in a list or tuple of values of any kind. -/
namespace PySem.SeqAt
section
variable {A : Around} {s : Shared}
theorem eq_dict_str {l : Addr} {es : Array DictEntry} {ep : Nat} {dd : Option Addr} {sl : Array (Option Value)} (b : Str) (u : Tok) (ho : s.heap.get? l = some (dO es ep dd sl)) (hu : A.units < cLine) : EqAt A s (.ref l) (.str b u) false := fun prog w E Q h => by
  unfold eqBool
  refine wpAny_holding (wpAny_ite_split (fun hab => absurd (eq_of_beq hab) nofun) (fun _ => wpAny_bind ?_))
  refine rc_eq_decline_or (k := false) ⟨_, ho, rfl⟩ (typeIs_str s b u) (by decide) sub_str_dict F.slot_dict_eq F.slot_str_eq_refl (fun _ hq => ?_) (fun _ hq => ?_) (fun _ hq => wpAny_of_eq (rfl : isSame (.ref l) (.str b u) = pure false) hq) (.inr hu) (wpAny_pure h)
  · exact call_meets F.slot_dict_eq ⟨_, ho, rfl⟩ F.entry_dict_eq (F.args_dict_eq_2 _ _) (dict_no_str b u l es ep dd sl) ⟨ho, hq⟩
  · exact call_meets F.slot_str_eq_refl (typeIs_str s b u) F.entry_str_eq (F.args_str_eq_2 _ _) (str_no_dict b u l es ep dd sl) ⟨ho, hq⟩
end
end PySem.SeqAt
namespace L2
open PySem PySem.Spec PyProof.Rows
section
variable {X : Cx} {pins : List (Addr × Obj)} {σ : St} {H : Hp} {s : Shared}
theorem str_mem_eqAt {A : Around} (hu : A.units < cLine) (I : Inv X pins σ H s) {b : Str} {v : Value} (rx : RelV (.str b) v) : ∀ {xs : List V} {us : List Value}, Vals xs us → (∀ y ∈ xs, AnyK X.K H y) → ∀ u ∈ us, SeqAt.EqAt A s u v (eqU (.str b) u)
  | _, _, .nil, _ => fun u hu => by cases hu
  | y :: xs, u :: us, .cons r t, f => fun u' hm => by
    rcases List.mem_cons.mp hm with rfl | hm
    · have k := f y List.mem_cons_self
      cases y with
      | ref a =>
        cases r
        obtain ⟨t, rfl⟩ := rx
        rcases k with ⟨xs, h⟩ | ⟨xs, h⟩ | ⟨kvs, h⟩
        · obtain ⟨its, _, pl, _⟩ := I.list h
          exact SeqAt.EqAt.list_str b t pl.isList hu
        · obtain ⟨its, _, pl, _⟩ := I.tuple h
          exact SeqAt.EqAt.tuple_str b t pl hu
        · obtain ⟨_, _, vs, _, o, es, ep, h1, h2, h3⟩ := (show ObjOk X.prog X.w H s.heap a (.dK kvs) from I.hok a _ h)
          obtain ⟨oc, od, dt, osl⟩ := o
          obtain ⟨c1, c2, c3⟩ := h2
          simp only at c1 c2 c3
          subst c1 c2 c3
          exact SeqAt.eq_dict_str (es := es) (ep := ep) (dd := none) (sl := #[]) b t (by rw [h1, show dt = Data.dict es ep from h3.1]) hu
      | _ => rw [eqU_of r k]; exact eqAt_V r rx k rfl
    · exact str_mem_eqAt hu I rx t (fun y hy => f y (List.mem_cons_of_mem _ hy)) u' hm
theorem any_eqS {b : Str} {H : Hp} {K : PySem.W.Frag} : ∀ {xs : List V} {us : List Value}, Vals xs us → (∀ y ∈ xs, AnyK K H y) → us.any (eqU (.str b)) = inV (.str b) xs
  | _, _, .nil, _ => rfl
  | y :: xs, u :: us, .cons r t, f => by
    rw [List.any_cons, any_eqS t fun y hy => f y (List.mem_cons_of_mem _ hy)]
    unfold inV
    rw [List.any_cons]
    congr 1
    have k := f y List.mem_cons_self
    cases y with
    | ref a => cases r; rfl
    | _ => exact eqU_of r k
/-- x in xs, x a text, xs a list or a tuple of anything -/
def rInS (K : PySem.W.Frag) : R2 := fun x y H Q => ∃ (b : Str) (p : Addr) (xs : List V), x = .str b ∧ y = .ref p ∧ (SqL K H p xs ∨ SqT K H p xs) ∧ (∀ v ∈ xs, AnyK K H v) ∧ Q (.bl (inV (.str b) xs)) H
theorem op_inS (hu : X.A.units + 1 < cLine) : OpR X (compareOp .In) (rInS X.K) := by
  intro pins s σ H x y v u Q I rx ry h
  obtain ⟨b, p, xs, rfl, rfl, hq, k, q⟩ := h
  cases ry
  rcases hq with hq | hq
  · obtain ⟨its, r, pl, hz⟩ := I.list hq
    refine SeqAt.in_listAt (eqU (.str b)) pl.isList (fun w hw => str_mem_eqAt (A := X.A.in1) hu I rx r k w (by simpa using hw)) ⟨.bl _, H, I, rfl, ?_⟩
    rw [show its.toArray.any (eqU (.str b)) = its.any (eqU (.str b)) by simp, any_eqS r k]
    exact q
  · obtain ⟨its, r, pl, hz⟩ := I.tuple hq
    refine SeqAt.in_tupleAt (eqU (.str b)) pl (fun w hw => str_mem_eqAt (A := X.A.in1) hu I rx r k w (by simpa using hw)) ⟨.bl _, H, I, rfl, ?_⟩
    rw [show its.toArray.any (eqU (.str b)) = its.any (eqU (.str b)) by simp, any_eqS r k]
    exact q
end
end L2

/-! xs != ys of two lists of as many texts, whatever stands in them -/
namespace L2
open PySem PySem.Spec PyProof.Rows
section
variable {X : Cx}
def rNeTx (K : PySem.W.Frag) : R2 := fun x y H Q => ∃ (a b : Addr) (ts us : List Str), x = .ref a ∧ y = .ref b ∧ SqL K H a (ts.map V.str) ∧ SqL K H b (us.map V.str) ∧ ts.length = us.length ∧ Q (.bl (!decide (ts = us))) H
theorem neTx_at : ∀ {ts : List Str} {its : List Value}, Vals (ts.map V.str) its → ∀ j (h : j < its.length) (h' : j < ts.length), ∃ t, its[j] = .str ts[j] t
  | [], its, r, j, h, h' => by simp at h'
  | x :: ts, its, r, j, h, h' => by
    cases r with
    | cons r rr =>
      cases j with
      | zero => exact r
      | succ j => exact neTx_at rr j (by simpa using h) (by simpa using h')
theorem neTx_all : ∀ {ts us : List Str}, ts.length = us.length → ((List.range ts.length).all fun j => decide (ts[j]? = us[j]?)) = decide (ts = us) := fun {ts us} l => by
  rw [Bool.eq_iff_iff, List.all_eq_true, decide_eq_true_eq]
  constructor
  · intro h
    refine List.ext_getElem? fun j => ?_
    by_cases lj : j < ts.length
    · exact of_decide_eq_true (h j (List.mem_range.mpr lj))
    · rw [List.getElem?_eq_none (by omega), List.getElem?_eq_none (by omega)]
  · intro e j _
    rw [e]; exact decide_eq_true rfl
theorem op_neTx (hu : X.A.units + 64 < cLine) : OpR X (compareOp .NotEq) (rNeTx X.K) := by
  intro pins s σ H x y v u Q I rx ry h
  obtain ⟨a, b, ts, us, rfl, rfl, ha, hb, hl, q⟩ := h
  obtain rfl : v = Value.ref a := rx
  obtain rfl : u = Value.ref b := ry
  obtain ⟨its, rv, pl, _⟩ := I.list ha
  obtain ⟨its2, rv2, pl2, _⟩ := I.list hb
  have n1 := rv.length
  have n2 := rv2.length
  rw [List.length_map] at n1 n2
  refine SeqAt.RcNeAt.lists (e := fun j => decide (ts[j]? = us[j]?)) pl.isList pl2.isList (by simp; omega) (by omega) (fun j h1 h2 => ?_) X.prog X.w _ _ ?_
  · have h1' : j < its.length := by simpa using h1
    have h2' : j < its2.length := by simpa using h2
    obtain ⟨t, e1⟩ := neTx_at rv j h1' (by omega)
    obtain ⟨t2, e2⟩ := neTx_at rv2 j h2' (by omega)
    have e1' : its.toArray[j] = .str (ts[j]'(by omega)) t := by simpa using e1
    have e2' : its2.toArray[j] = .str (us[j]'(by omega)) t2 := by simpa using e2
    rw [e1', e2']
    have := SeqAt.EqAt.str_str (A := X.A.in1) (s := s) (ts[j]'(by omega)) t (us[j]'(by omega)) t2
    have e : ((ts[j]'(by omega)) == (us[j]'(by omega))) = decide (ts[j]? = us[j]?) := by
      rw [List.getElem?_eq_getElem (by omega), List.getElem?_eq_getElem (by omega), Bool.eq_iff_iff]
      simp
    rw [e] at this
    exact this
  · refine ⟨.bl _, H, I, rfl, ?_⟩
    have e : ((List.range its.toArray.size).all fun j => decide (ts[j]? = us[j]?)) = decide (ts = us) := by
      rw [← neTx_all hl, show its.toArray.size = ts.length by simp; omega]
    rw [e]
    exact q
end
end L2

/-! xs != ys of two lists that hold the very same things -/
namespace L2
open PySem PySem.Spec PyProof.Rows
section
variable {X : Cx}
def rNeSm (K : PySem.W.Frag) : R2 := fun x y H Q => ∃ (a b : Addr) (xs : List V), x = .ref a ∧ y = .ref b ∧ SqL K H a xs ∧ SqL K H b xs ∧ (∀ v ∈ xs, flatV v = true ∨ ∃ c, v = .ref c) ∧ Q (.bl false) H
theorem eqV_same : ∀ v : V, flatV v = true → eqV v v = true
  | .non, _ => rfl
  | .bl b, _ => by cases b <;> rfl
  | .int i, _ => by show (i == i) = true; simp
  | .str s, _ => by show (s == s) = true; simp
  | .flt _, h => nomatch h
  | .ref _, h => nomatch h
theorem same_at {A : Around} {s : Shared} : ∀ {xs : List V} {us ws : List Value}, Vals xs us → Vals xs ws → (∀ v ∈ xs, flatV v = true ∨ ∃ c, v = .ref c) → ∀ j (h : j < us.length) (h' : j < ws.length), SeqAt.EqAt A s us[j] ws[j] true
  | [], us, _, r, _, _, j, h, _ => by cases r; simp at h
  | x :: xs, us, ws, r, r', f, j, h, h' => by
    cases r with
    | cons r rr =>
      cases r' with
      | cons r2 rr2 =>
        cases j with
        | zero =>
          rcases f x List.mem_cons_self with fx | ⟨c, rfl⟩
          · have := eqAt_V (A := A) (s := s) r r2 fx fx
            rw [eqV_same x fx] at this
            exact this
          · cases r; cases r2
            exact SeqAt.EqAt.same _
        | succ j => exact same_at rr rr2 (fun v hv => f v (List.mem_cons_of_mem _ hv)) j (by simpa using h) (by simpa using h')
theorem op_neSm (hu : X.A.units + 64 < cLine) : OpR X (compareOp .NotEq) (rNeSm X.K) := by
  intro pins s σ H x y v u Q I rx ry h
  obtain ⟨a, b, xs, rfl, rfl, ha, hb, hf, q⟩ := h
  obtain rfl : v = Value.ref a := rx
  obtain rfl : u = Value.ref b := ry
  obtain ⟨its, rv, pl, _⟩ := I.list ha
  obtain ⟨its2, rv2, pl2, _⟩ := I.list hb
  have n1 := rv.length
  have n2 := rv2.length
  refine SeqAt.RcNeAt.lists (e := fun j => true) pl.isList pl2.isList (by simp; omega) (by omega) (fun j h1 h2 => ?_) X.prog X.w _ _ ?_
  · have h1' : j < its.length := by simpa using h1
    have h2' : j < its2.length := by simpa using h2
    have := same_at (A := X.A.in1) (s := s) rv rv2 hf j h1' h2'
    simpa using this
  · refine ⟨.bl _, H, I, rfl, ?_⟩
    have e : ((List.range its.toArray.size).all fun j => true) = true := by rw [List.all_eq_true]; intro _ _; rfl
    rw [e]
    exact q
end
end L2

/-! [e for x in A for y in B(x)] by two walks -/
namespace L2
open PySem PySem.Spec PyProof.Rows
/-- what is left to show of the inner walk -/
def LcIn (g1 : TG) (tt1 : TT) (te : TE) (σ2 : St) (vs1 : List Nat) (D : Addr) (J1 : It) (Nx : Hp → Prop) (H4 : Hp) : Prop := ∃ W1 : Nat → Nat → Hp → Prop, (∃ m, W1 0 m H4) ∧ ∀ j k H, W1 j k H →
  (J1.stop j H ∧ Nx H) ∨ (J1.go j H ∧ ∃ Nx1 : Hp → Prop, (∀ H', Nx1 H' → ∃ k', k' < k ∧ W1 (j + 1) k' H') ∧ ∀ x H', J1.yld j H x H' → g1 x (wipe σ2 vs1) H' fun σ3 H5 => wipe σ3 vs1 = wipe σ2 vs1 ∧ tt1 σ3 H5 fun b H6 =>
    if b = true then te σ3 H6 fun y H7 => ∃ acc, H7 D = some (.lst acc) ∧ acc.length < sizeLine ∧ Nx1 (upd H7 D (.lst (acc ++ [y]))) else Nx1 H6)
theorem lc_in {J1 : It} {n : Nat} {G : Hp → Prop} {Y : Nat → Hp → V → Hp → Prop} (w : Walk J1 n G Y) {g1 : TG} {tt1 : TT} {te : TE} {σ2 : St} {vs1 : List Nat} {D : Addr} {Nx : Hp → Prop} {H4 : Hp} (Pv : Nat → Hp → Prop) (h0 : Pv 0 H4) (hG : ∀ i H, i ≤ n → Pv i H → G H)
    (hs : ∀ i x H H', i < n → Pv i H → Y i H x H' → g1 x (wipe σ2 vs1) H' fun σ3 H5 => wipe σ3 vs1 = wipe σ2 vs1 ∧ tt1 σ3 H5 fun b H6 =>
      if b = true then te σ3 H6 fun y H7 => ∃ acc, H7 D = some (.lst acc) ∧ acc.length < sizeLine ∧ Pv (i + 1) (upd H7 D (.lst (acc ++ [y]))) else Pv (i + 1) H6) (hd : ∀ H, Pv n H → Nx H) : LcIn g1 tt1 te σ2 vs1 D J1 Nx H4 := by
  refine ⟨fun i m H => m = n - i ∧ i ≤ n ∧ Pv i H, ⟨n, by simp, Nat.zero_le _, h0⟩, ?_⟩
  rintro i m H ⟨rfl, hi, p⟩
  have q := hG i H hi p
  by_cases hlt : i < n
  · exact .inr ⟨w.goes i H hlt q, Pv (i + 1), fun H' p' => ⟨n - (i + 1), by omega, rfl, hlt, p'⟩, fun x H' y => hs i x H H' hlt p (w.yields i H x H' hlt q y)⟩
  · have e : i = n := by omega
    subst e
    exact .inl ⟨w.stops H q, hd H p⟩
theorem lc2_it {J : It} {n : Nat} {G : Hp → Prop} {Y : Nat → Hp → V → Hp → Prop} (w : Walk J n G Y) {g g1 : TG} {tt tt1 : TT} {wi1 : TI} {te : TE} {vs vs1 : List Nat} {σ : St} {H1 : Hp} {D : Addr} {Qd : Hp → Prop} (Pv : Nat → Hp → Prop) (h0 : Pv 0 (upd H1 D (.lst []))) (hG : ∀ i H, i ≤ n → Pv i H → G H)
    (hs : ∀ i x H H', i < n → Pv i H → Y i H x H' → g x (wipe σ vs) H' fun σ2 H2 => wipe σ2 vs = wipe σ vs ∧ tt σ2 H2 fun b H3 =>
      if b = true then wi1 σ2 H3 fun J1 H4 => LcIn g1 tt1 te σ2 vs1 D J1 (Pv (i + 1)) H4 else Pv (i + 1) H3) (hd : ∀ H, Pv n H → Qd H) :
    ∃ W : Nat → Nat → Hp → Prop, (∃ m, W 0 m (upd H1 D (.lst []))) ∧ ∀ i m H, W i m H →
      (J.stop i H ∧ Qd H) ∨ (J.go i H ∧ ∃ Nx : Hp → Prop, (∀ H', Nx H' → ∃ m', m' < m ∧ W (i + 1) m' H') ∧ ∀ x H', J.yld i H x H' → g x (wipe σ vs) H' fun σ2 H2 => wipe σ2 vs = wipe σ vs ∧ tt σ2 H2 fun b H3 =>
        if b = true then wi1 σ2 H3 fun J1 H4 => LcIn g1 tt1 te σ2 vs1 D J1 Nx H4 else Nx H3) := by
  refine ⟨fun i m H => m = n - i ∧ i ≤ n ∧ Pv i H, ⟨n, by simp, Nat.zero_le _, h0⟩, ?_⟩
  rintro i m H ⟨rfl, hi, p⟩
  have q := hG i H hi p
  by_cases hlt : i < n
  · exact .inr ⟨w.goes i H hlt q, Pv (i + 1), fun H' p' => ⟨n - (i + 1), by omega, rfl, hlt, p'⟩, fun x H' y => hs i x H H' hlt p (w.yields i H x H' hlt q y)⟩
  · have e : i = n := by omega
    subst e
    exact .inl ⟨w.stops H q, hd H p⟩
end L2

/-! x in xs, xs a list or a tuple of data of any depth -/
namespace L2
open PySem PySem.Spec PyProof.Rows
section
variable {X : Cx}
def rInQ (K : PySem.W.Frag) : R2 := fun x y H Q => ∃ d ds, Dp K H x d ∧ (Dp K H y (.list ds) ∨ Dp K H y (.tuple ds)) ∧ SeqAt.shaped d = true ∧ SeqAt.shaped (.list ds) = true ∧ Q (.bl (ds.any fun z => PyData.eqv z d)) H
theorem op_inQ (hu : X.A.units + 65 < cLine) : OpR X (compareOp .In) (rInQ X.K) := by
  intro pins s σ H x y v u Q I rx ry h
  obtain ⟨d, ds, hd, he, sd, se, q⟩ := h
  obtain ⟨as, r1⟩ := Dp.reads I d x v hd rx
  rcases he with he | he
  · obtain ⟨bs, r2⟩ := Dp.reads I (.list ds) y u he ry
    exact SeqAt.in_list_reads r2 r1 (SeqAt.canLay_of_shaped se) (SeqAt.canLay_of_shaped sd) (room_in_shaped sd hu) ⟨.bl _, H, I, rfl, q⟩
  · obtain ⟨bs, r2⟩ := Dp.reads I (.tuple ds) y u he ry
    exact SeqAt.in_tuple_reads r2 r1 (SeqAt.canLay_of_shaped se) (SeqAt.canLay_of_shaped sd) (room_in_shaped sd hu) ⟨.bl _, H, I, rfl, q⟩
end
end L2

/-! t[::-1] of a tuple -/
namespace HT
open PySem PySem.Spec PyProof.Rows
section
variable {prog : Program} {w : World} {A : Around} {E : Value → Shared → Prop} {s : Shared}
theorem adjust_rev (n : Nat) : Builtin.Slice.sliceAdjust none none (-1) (n : Int) = ((n : Int) - 1, -1) := rfl
theorem places_rev (n : Nat) : Builtin.Slice.slicePlaces ((n : Int) - 1) (-1) (-1) = n := by
  unfold Builtin.Slice.slicePlaces
  have h1 : ¬ ((-1 : Int) > 0) := by omega
  simp only [h1, if_false, show (-(-1 : Int)) = 1 from rfl, Int.ediv_one]
  split <;> omega
theorem fm_congr {α β : Type} {f g : α → Option β} : ∀ l : List α, (∀ x ∈ l, f x = g x) → l.filterMap f = l.filterMap g
  | [], _ => rfl
  | x :: l, h => by rw [List.filterMap_cons, List.filterMap_cons, h x List.mem_cons_self, fm_congr l fun y hy => h y (List.mem_cons_of_mem _ hy)]
theorem pick_rev (xs : Array Value) : ((List.range xs.size).filterMap fun (m : Nat) => xs[(((xs.size : Int) - 1) + (m : Int) * (-1)).toNat]?).toArray = xs.toList.reverse.toArray := by
  have h := pick_gen xs.toList.reverse.toArray 0 xs.size
  rw [show ((xs.toList.reverse.toArray.toList.drop 0).take xs.size) = xs.toList.reverse by rw [List.drop_zero, List.take_of_length_le (by simp)]] at h
  rw [← h]
  congr 1
  refine fm_congr _ fun m hm => ?_
  have lm := List.mem_range.mp hm
  have e1 : (((xs.size : Int) - 1) + (m : Int) * (-1)).toNat = xs.size - 1 - m := by omega
  have e2 : (((0 : Nat) : Int) + (m : Int) * 1).toNat = m := by omega
  rw [e1, e2]
  simp only [List.getElem?_toArray]
  rw [List.getElem?_reverse (by simpa using lm)]
  simp
theorem sliceApplied_rev {sl : Addr} {vl vu vs : Value} {n : Nat} {Q : Int × Int × Nat → Shared → Prop} (hs : s.heap.IsSliceOf sl vl vu vs) (pl : IsPart vl none) (pu : IsPart vu none) (ps : IsPart vs (some (-1)))
    (h : Q ((n : Int) - 1, -1, n) s) : wpAny (model prog w) A (Builtin.Slice.sliceApplied (.ref sl) (pure (n : Int))) Q E s := by
  obtain ⟨os, hos, hcs, hds⟩ := id hs
  unfold Builtin.Slice.sliceApplied Builtin.Slice.sliceFields
  refine wpAny_bind (wpAny_bind (wpAny_field hos hds (x := vl) rfl (wpAny_bind (wpAny_field hos hds (x := vu) rfl (wpAny_bind (wpAny_field hos hds (x := vs) rfl (wpAny_pure ?_)))))))
  refine wpAny_bind (slicePart_ ps ?_)
  show wpAny _ _ (if ((-1 : Int) == 0) = true then _ else _) _ _ s
  rw [if_neg (by decide)]
  refine wpAny_bind (slicePart_ pl (wpAny_bind (slicePart_ pu (wpAny_bind (wpAny_pure ?_)))))
  show wpAny _ _ (match Builtin.Slice.sliceAdjust none none (-1) (n : Int) with | (lo, hi) => pure (lo, (-1 : Int), Builtin.Slice.slicePlaces lo hi (-1))) _ _ s
  rw [adjust_rev n]
  show wpAny _ _ (pure ((n : Int) - 1, (-1 : Int), Builtin.Slice.slicePlaces ((n : Int) - 1) (-1) (-1))) _ _ s
  rw [places_rev]
  exact wpAny_pure h
theorem getItem_tuple_rev {t sl : Addr} {items : Array Value} {vl vu vs : Value} {Q : Value → Shared → Prop} (ht : IsTup s.heap t items) (hs : s.heap.IsSliceOf sl vl vu vs) (pl : IsPart vl none) (pu : IsPart vu none) (ps : IsPart vs (some (-1)))
    (h : Q (.ref s.heap.objs.size) { s with heap := s.heap.push { cls := .type "tuple", data := .seq items.toList.reverse.toArray } })
    (hsz : items.size ≤ sizeLine) : wpAny (model prog w) A (getItem (.ref t) (.ref sl)) Q E s := by
  have htake : sizeOk (.seq items.toList.reverse.toArray) := by
    show items.toList.reverse.toArray.size ≤ sizeLine
    rw [List.size_toArray, List.length_reverse, Array.length_toList]
    exact hsz
  obtain ⟨os, hos, hcs, hds⟩ := id hs
  have hTs : s.TypeIs (.ref sl) "slice" := ⟨os, hos, hcs⟩
  unfold getItem
  try with_reducible refine wpAny_holding ?_
  first | refine wpAny_bind (wpAny_pure ?_) | skip
  refine wpAny_bind (wpAny_sequenceKey ht.typeIs (by decide) ?_)
  refine wpAny_bind (wpAny_callSpecial?_slot (name := Str.ofString "__getitem__") ht.typeIs PyProof.Rows.slot_tuple_getitem
    (wpAny_call_entry PyProof.Rows.slot_tuple_getitem ht.typeIs entry_tuple_getitem ?_ (args_tuple_getitem _ _)))
  show wpAny _ _ (Builtin.Tuple.tupleItemsOf (.ref t) >>= _) _ _ s
  refine wpAny_bind (tupleItemsOf_ ht ?_)
  refine wpAny_bind (wpAny_typeOf hTs ?_)
  rw [if_pos (by decide)]
  refine wpAny_bind (sliceApplied_rev hs pl pu ps ?_)
  have hno : ¬ ((((items.size : Int) - 1) == 0 && (-1 : Int) == 1 && items.size == items.size) = true) := by
    intro q
    rw [Bool.and_eq_true, Bool.and_eq_true] at q
    have := q.1.2
    revert this
    decide
  show wpAny _ _ (if (((items.size : Int) - 1) == 0 && (-1 : Int) == 1 && items.size == items.size) = true then _ else _) _ _ s
  rw [if_neg hno, pick_rev]
  first
    | exact wpAny_bind (m := Builtin.Tuple.tupleExact _) (wpAny_newObj_type (wpAny_pure ⟨_, rfl, wpAny_pure h⟩) htake)
    | exact wpAny_bind (m := Builtin.Tuple.tupleExact _) (wpAny_newObj_type (wpAny_bind (wpAny_pure (wpAny_pure ⟨_, rfl, wpAny_pure h⟩))) htake)
    | exact wpAny_bind (wpAny_bind (m := Builtin.Tuple.tupleExact _) (wpAny_newObj_type (wpAny_pure (wpAny_pure ⟨_, rfl, wpAny_pure h⟩)) htake))
    | exact wpAny_bind (wpAny_bind (m := Builtin.Tuple.tupleExact _) (wpAny_newObj_type (wpAny_pure ⟨_, rfl, wpAny_pure h⟩) htake))
end
end HT
namespace L2
open PySem PySem.Spec PyProof.Rows
section
variable {X : Cx}
def tRevT (K : PySem.W.Frag) (te : TE) : TE := fun σ H Q => te σ H fun x H1 => ∃ a xs, x = .ref a ∧ SqT K H1 a xs ∧ ∀ p, H1 p = none → Q (.ref p) (upd H1 p (.tup xs.reverse))
theorem pe_revT {e : Expr} {te : TE} {k : Nat} {p1 p2 p3 pos : Pos} (he : PE X e te) : PE X (.Subscript e (.Slice none none (some (.UnaryOp .USub (.Constant (.int 1) k p1) p2)) p3) pos) (tRevT X.K te) := by
  refine ⟨fun pins s σ H Q I h => ?_⟩
  refine Subscript_ (thn (he.run pins s σ H _ I h) fun v s1 ⟨x, H1, I1, r1, q1⟩ => ?_)
  obtain ⟨a, xs, ex, hx, q⟩ := q1
  subst ex
  cases r1
  have hst : PO X (some (.UnaryOp .USub (.Constant (.int 1) k p1) p2)) (tPart (tUn (rU fun i => .int (-i)) (tC (.int 1)))) := po_some (pe_un un_neg pe_int)
  refine wpAny_Slice (thn (po_none.run pins s1 σ H1 (fun o H2 => o = none ∧ H2 = H1) I1 ⟨rfl, rfl⟩) fun vl s2 ⟨l, H2, I2, pl, el, e2⟩ => ?_)
  subst el e2
  refine thn (po_none.run pins s2 σ H2 (fun o H3 => o = none ∧ H3 = H2) I2 ⟨rfl, rfl⟩) fun vu s3 ⟨u, H3, I3, pu, eu, e3⟩ => ?_
  subst eu e3
  refine thn (hst.run pins s3 σ H3 (fun o H4 => o = some (-1) ∧ H4 = H3) I3 ⟨1, rfl, -1, rfl, rfl, rfl⟩) fun vs s4 ⟨o, H4, I4, ps, eo, e4⟩ => ?_
  subst eo e4
  have I5 : Inv X pins σ H4 { s4 with heap := s4.heap.push { cls := .type "slice", data := .fields #[vl, vu, vs] } } := I4.kept (t' := s4.toks) fun b ob q => Heap.get?_push_of_some _ q
  obtain ⟨its, r, ht, hz⟩ := I5.tuple hx
  have hlen := r.length
  show wpAny (model X.prog X.w) X.A (subscriptTail e (.Slice none none (some (.UnaryOp .USub (.Constant (.int 1) k p1) p2)) p3) (.ref a) (.ref s4.heap.objs.size)) (EP X pins σ Q) X.xe { s4 with heap := s4.heap.push { cls := .type "slice", data := .fields #[vl, vu, vs] } }
  refine tail_any (ops := [.ref a, .ref s4.heap.objs.size]) ht.typeIs (PyProof.Rows.slot_tuple_getitem.lookup) ?_ (by with_unfolding_all rfl)
  refine HT.getItem_tuple_rev ht (Heap.IsSliceOf.new _ vl vu vs) pl pu ps ?_ (by rw [List.size_toArray]; omega)
  refine ⟨.ref _, _, I5.laid (t' := s4.toks) (o := .tup xs.reverse) (fun b ob q => Heap.get?_push_of_some _ q) (Nat.le_refl _) ?_, rfl, q _ (I5.hok.fresh (Nat.le_refl _))⟩
  exact ⟨by rw [List.length_reverse]; exact hz, _, r.reverse, IsTup.new _ _⟩
end
end L2

namespace K46
open PySem PySem.Spec PyProof.Rows L2 TL
/-! ### heaps: all but the bag's list stays -/
def Fr (b : Addr) (H H' : Hp) : Prop := ∀ a o, a ≠ b → H a = some o → H' a = some o
theorem Fr.refl (b : Addr) (H : Hp) : Fr b H H := fun _ _ _ h => h
theorem Fr.trans {b : Addr} {H H1 H2 : Hp} (x : Fr b H H1) (y : Fr b H1 H2) : Fr b H H2 := fun a o n h => y a o n (x a o n h)
theorem Fr.of_same {b : Addr} {H H1 : Hp} (x : Same H H1) : Fr b H H1 := fun a o _ h => x a o h
theorem Fr.new {b p : Addr} {H : Hp} {o : HO} (h : H p = none) : Fr b H (upd H p o) := fun a u _ e => by
  rw [upd_ne (ne_of_none e h)]; exact e
theorem Fr.upd_b {b : Addr} {H H1 : Hp} {o : HO} (x : Fr b H H1) : Fr b H (upd H1 b o) := fun a u n e => by
  rw [upd_ne n]; exact x a u n e
theorem Fr.free {b p : Addr} {H H' : Hp} (x : Fr b H H') (hb : p ≠ b) (h : H' p = none) : H p = none := by
  cases q : H p with
  | none => rfl
  | some o => rw [x p o hb q] at h; cases h
theorem Fr.upd_p {b p : Addr} {H H1 : Hp} {o : HO} (x : Fr b H H1) (h : H p = none) : Fr b H (upd H1 p o) := fun a u n e => by
  rw [upd_ne (ne_of_none e h)]; exact x a u n e
theorem Same.new {p : Addr} {H : Hp} {o : HO} (h : H p = none) : Same H (upd H p o) := fun a u e => by
  rw [upd_ne (ne_of_none e h)]; exact e
theorem Same.upd_p {p : Addr} {H H1 : Hp} {o : HO} (x : Same H H1) (h : H p = none) : Same H (upd H1 p o) := fun a u e => by
  rw [upd_ne (ne_of_none e h)]; exact x a u e
theorem Fr.seq {K : PySem.W.Frag} {b : Addr} {H H' : Hp} {a : Addr} {xs : List V} (e : Fr b H H') (n : a ≠ b) (h : SqL K H a xs) : SqL K H' a xs := by
  rcases h with (h | ⟨o, h⟩) | h
  · exact .inl (.inl (e _ _ n h))
  · exact .inl (.inr ⟨o, e _ _ n h⟩)
  · exact .inr h
/-- a bag of digits: what is left of the cell, the seed, the count of draws -/
def Bag (H : Hp) (b : Addr) (n : Nat) : Prop := ∃ x y z : Int, H b = some (.lst [.int x, .int y, .int z]) ∧ 0 ≤ x ∧ 0 ≤ y ∧ y < 2147483629 ∧ 0 ≤ z ∧ z ≤ n
theorem Bag.mono {H : Hp} {b : Addr} {n m : Nat} (h : Bag H b n) (l : n ≤ m) : Bag H b m := by
  obtain ⟨x, y, z, e, h1, h2, h3, h4, h5⟩ := h
  exact ⟨x, y, z, e, h1, h2, h3, h4, by omega⟩
theorem Bag.same {H H' : Hp} {b : Addr} {n : Nat} (h : Bag H b n) (s : Same H H') : Bag H' b n := by
  obtain ⟨x, y, z, e, r⟩ := h
  exact ⟨x, y, z, s _ _ e, r⟩
theorem Bag.ne {H : Hp} {b p : Addr} {n : Nat} (h : Bag H b n) (q : H p = none) : b ≠ p := by
  obtain ⟨x, y, z, e, r⟩ := h
  exact ne_of_none e q
theorem Bag.upd {H : Hp} {b p : Addr} {n : Nat} {o : HO} (h : Bag H b n) (q : b ≠ p) : Bag (upd H p o) b n := by
  obtain ⟨x, y, z, e, r⟩ := h
  exact ⟨x, y, z, by rw [upd_ne q]; exact e, r⟩
theorem Bag.some {H : Hp} {b : Addr} {n : Nat} (h : Bag H b n) : ∃ o, H b = some o := by
  obtain ⟨x, y, z, e, r⟩ := h
  exact ⟨_, e⟩
/-! ### the promises that all such laws share -/
def sp_cell (K : PySem.W.Frag) : Sp := fun vs H Q _ => ∃ (l : Addr) (ns : List Int) (j : Int), vs = [.ref l, .int j] ∧ SqL K H l (ns.map V.int) ∧ 0 ≤ j ∧ ∀ v : Int, Q (.int v) H
def sp_bag (K : PySem.W.Frag) : Sp := fun vs H Q _ => ∃ c : Int, vs = [.int c] ∧ ∀ p H', Same H H' → H p = none → Bag H' p 0 → Q (.ref p) H'
def sp_take (K : PySem.W.Frag) : Sp := fun vs H Q _ => ∃ (b : Addr) (n : Nat) (c : Int), vs = [.ref b, .int c] ∧ Bag H b n ∧ n ≤ 1000000 ∧ 0 < c ∧ c < 2 ^ 200 ∧
  ∀ (d : Int) H', Fr b H H' → Bag H' b (n + 1) → 0 ≤ d → d < c → Q (.int d) H'
def sp_law (K : PySem.W.Frag) : Sp := fun vs H Q _ => ∃ (a : Addr) (ns : List Int), vs = [.ref a] ∧ SqL K H a (ns.map V.int) ∧ ns.length ≤ 63 ∧ ∀ H', Q (.bl true) H'
/-! ### small facts -/
theorem atI_in {α : Type} {xs : List α} {i : Int} (h0 : 0 ≤ i) (h1 : i < (xs.length : Int)) : ∃ v, xs[i.toNat]? = some v ∧ atI xs i = some v := by
  have hj : i.toNat < xs.length := by omega
  refine ⟨xs[i.toNat], List.getElem?_eq_getElem hj, ?_⟩
  have e : ((i.toNat : Nat) : Int) = i := Int.toNat_of_nonneg h0
  have := atI_nat (xs := xs) (j := i.toNat) (List.getElem?_eq_getElem hj)
  rw [e] at this
  exact this
theorem atI_ints {ns : List Int} {i : Int} (h0 : 0 ≤ i) (h1 : i < (ns.length : Int)) : ∃ v : Int, atI (ns.map V.int) i = some (.int v) := by
  obtain ⟨v, e, h⟩ := atI_in (xs := ns.map V.int) h0 (by rw [List.length_map]; exact h1)
  rw [List.getElem?_map] at e
  cases q : ns[i.toNat]? with
  | none => rw [q] at e; cases e
  | some u => rw [q] at e; cases e; exact ⟨u, h⟩
theorem lt_of_dec {a b : Int} (h : decide (a < b) = true) : a < b := of_decide_eq_true h
theorem nlt_of_dec {a b : Int} (h : ¬ decide (a < b) = true) : ¬ a < b := fun x => h (decide_eq_true x)
theorem emod_in (a : Int) {m : Int} (h : 0 < m) : 0 ≤ a % m ∧ a % m < m := ⟨Int.emod_nonneg a (by omega), Int.emod_lt_of_pos a h⟩
/-! ### texts -/
theorem joinL_len (S : List Nat) : ∀ ps : List (List Nat), (joinL S ps).length ≤ (ps.map List.length).sum + ps.length * S.length
  | [] => by simp [joinL]
  | [p] => by simp [joinL]
  | p :: q :: r => by
    have h := joinL_len S (q :: r)
    show (p ++ (S ++ joinL S (q :: r))).length ≤ _
    simp only [List.length_append, List.map_cons, List.sum_cons, List.length_cons, Nat.add_mul, Nat.one_mul] at h ⊢
    omega
theorem join_len (a : Str) (ys : List Str) : (Txt.join a ys).length ≤ (ys.map (·.length)).sum + ys.length * a.length := by
  rw [join_eq, len_tl, tl_join, len_tl a]
  have h := joinL_len (tl a) (ys.map tl)
  rw [List.map_map, List.length_map] at h
  have e : ys.map (List.length ∘ tl) = ys.map (·.length) := List.map_congr_left fun x _ => (len_tl x).symm
  rw [e] at h
  exact h
theorem sum_len {ys : List Str} {L : Nat} (h : ∀ s ∈ ys, s.length ≤ L) : (ys.map (·.length)).sum ≤ ys.length * L := by
  induction ys with
  | nil => simp
  | cons a r ih =>
    have h1 := h a List.mem_cons_self
    have h2 := ih fun s hs => h s (List.mem_cons_of_mem _ hs)
    simp only [List.map_cons, List.sum_cons, List.length_cons, Nat.add_mul, Nat.one_mul]
    omega
theorem join_size {a : Str} {ys : List Str} {L n A : Nat} (h : ∀ s ∈ ys, s.length ≤ L) (hn : ys.length ≤ n) (ha : a.length ≤ A) : (ys.map (·.length)).sum + ys.length * a.length ≤ n * L + n * A :=
  Nat.add_le_add (Nat.le_trans (sum_len h) (Nat.mul_le_mul_right _ hn)) (Nat.mul_le_mul hn ha)
theorem app_len (a b : Str) : (a ++ b).length = a.length + b.length := by
  rw [len_tl, tl_append, List.length_append, ← len_tl, ← len_tl]
def rRepS : R2 := fun x y H Q => ∃ z i, x = .str z ∧ y = .int i ∧ z.length ≤ 100 ∧ 0 ≤ i ∧ i ≤ 1000 ∧ ∀ s : Str, s.length ≤ z.length * i.toNat → Q (.str s) H
theorem op_repS {X : Cx} : OpR X (binaryOp .Mult) rRepS := by
  intro pins s σ H x y v u Q I rx ry h
  obtain ⟨z, i, rfl, rfl, hz, h0, h1, q⟩ := h
  obtain ⟨t, rfl⟩ := rx
  obtain ⟨t', rfl⟩ := ry
  have hm : z.length * i.toNat ≤ 100 * 1000 := Nat.mul_le_mul hz (by omega)
  refine SB.mul ⟨?_, fun _ _ => ?_, fun _ _ => ?_⟩ (fun t'' k => ⟨.str (Txt.mul z i), H, I.tok _, ⟨_, rfl⟩, q _ ?_⟩)
  · rw [Bool.or_eq_false_iff]
    exact ⟨decide_eq_false (by omega), decide_eq_false (by omega)⟩
  · have h2 : (1000 : Int) ≤ (2 ^ 63 - 1) / i ∨ i = 0 := by
      by_cases e : i = 0
      · exact .inr e
      · left
        rw [Int.le_ediv_iff_mul_le (by omega)]
        omega
    rcases h2 with h2 | h2
    · omega
    · subst h2
      omega
  · have hz2 : sizeLine = 16777216 := sizeLine_eq
    unfold Builtin.Str.tooLong
    exact decide_eq_false (by omega)
  · have hl := PyProof.Rows.len_mul z i
    have e : (if decide (i < 0) = true then 0 else i) = i := by rw [if_neg (by simp; omega)]
    rw [e] at hl
    have e2 : (i.toNat : Int) = i := Int.toNat_of_nonneg h0
    rw [show (z.length : Int) * i = ((z.length * i.toNat : Nat) : Int) by rw [Int.natCast_mul, e2]] at hl
    omega
/-- a list of draws that are texts, made at D -/
def PvS (b D : Addr) (H1 : Hp) (n0 c L : Nat) (i : Nat) (H' : Hp) : Prop := H1 D = none ∧ D ≠ b ∧ ∃ ys : List Str, ys.length = i ∧ (∀ s ∈ ys, s.length ≤ L) ∧ H' D = some (.lst (ys.map V.str)) ∧ Fr b H1 H' ∧ Bag H' b (n0 + c * i)
theorem pvS_0 {b D : Addr} {H1 : Hp} {n0 c L : Nat} (hB : Bag H1 b n0) (hD : H1 D = none) : PvS b D H1 n0 c L 0 (upd H1 D (.lst [])) :=
  ⟨hD, (hB.ne hD).symm, [], rfl, fun _ h => (nomatch h), upd_same, Fr.new hD, (hB.upd (hB.ne hD)).mono (by omega)⟩
theorem pvS_put {b D : Addr} {H1 H' H4 : Hp} {n0 c L i : Nat} {s : Str} (p : PvS b D H1 n0 c L i H') (f4 : Fr b H' H4) (b4 : Bag H4 b (n0 + c * (i + 1))) (hs4 : s.length ≤ L) (hi : i < 100000) :
    ∃ acc, H4 D = some (.lst acc) ∧ acc.length < sizeLine ∧ PvS b D H1 n0 c L (i + 1) (upd H4 D (.lst (acc ++ [V.str s]))) := by
  obtain ⟨hD, n1, ys, hl, hs, hD', hF, hB'⟩ := p
  refine ⟨ys.map V.str, f4 D _ n1 hD', ?_, hD, n1, ys ++ [s], by rw [List.length_append, hl]; rfl, ?_, ?_, (hF.trans f4).upd_p hD, b4.upd n1.symm⟩
  · rw [List.length_map, hl]
    have : sizeLine = 16777216 := sizeLine_eq
    omega
  · intro x hx
    rcases List.mem_append.mp hx with h | h
    · exact hs x h
    · rw [List.mem_singleton.mp h]; exact hs4
  · rw [upd_same, List.map_append]; rfl
/-- a def that draws a text -/
def sp_str (c L : Nat) : Sp := fun vs H Q _ => ∃ (b : Addr) (n : Nat), vs = [.ref b] ∧ Bag H b n ∧ n + c ≤ 1000000 ∧ ∀ (s : Str) H', Fr b H H' → Bag H' b (n + c) → s.length ≤ L → Q (.str s) H'
theorem slen {n : Nat} (h : n ≤ 100000) : n ≤ sizeLine := Nat.le_trans h (by decide)
theorem str_at {xs : List V} {i : Int} {L : Nat} (h0 : 0 ≤ i) (h1 : i < (xs.length : Int)) (h : ∀ v ∈ xs, ∃ s : Str, v = .str s ∧ s.length ≤ L) : ∃ s : Str, atI xs i = some (.str s) ∧ s.length ≤ L := by
  obtain ⟨v, e, a⟩ := atI_in h0 h1
  obtain ⟨s, rfl, hs⟩ := h v (List.mem_of_getElem? e)
  exact ⟨s, a, hs⟩
theorem lenk {α : Type} {xs : List α} (n : Nat) (h : xs.length = n) (hn : n ≤ 100000) : xs.length ≤ sizeLine := slen (by omega)

end K46
namespace K46
open PySem PySem.Spec PyProof.Rows L2 TL
theorem ok_l_cell {P : Program} {w : World} {K : PySem.W.Frag} {mg : Str → Option Value} {base : Heap} (T : Txt P K mg) : FnOk P w K mg base CX0 1 T.f_l_cell T.fd_l_cell ["_law_script", "_law_k"] (sp_cell K) := by
  refine T.F_l_cell.ok sc_l_cell (fun vs H Q E h => ?_) (fun cdv A outer s H vs Q E hr h => ?_)
  · obtain ⟨_, _, _, rfl, _⟩ := h; rfl
  · obtain ⟨l, ns, j, rfl, hS, hj, q⟩ := h
    refine ⟨_, PSs.nox (pss_cons (ps_if (pt_cmpR op_lt (pv 1) (pe_callB (show CallR _ _ (rLenSeq K) from call_len_seq) (by rfl) T.n_len (by decide +kernel) (pa_cons (pv 0) pa_nil)) (nomark _)) (pss_one (ps_ret (pe_ix (show IxR _ (rIxL K) from ix_list) (pv 0) (pv 1) (fun _ _ => rfl)))) pss_nil)
      (pss_one (ps_ret (pe_op op_add (pe_op op_mul pe_int (pv 1)) pe_int)))), ?_⟩
    refine ⟨_, rfl, _, rfl, l, _, rfl, .inl hS, _, _, rfl, rfl, _, rfl, ite2 (fun e => ?_) (fun e => ?_)⟩
    · have e1 := lt_of_dec e
      rw [List.length_map] at e1
      obtain ⟨v, hv⟩ := atI_ints hj e1
      exact ⟨_, rfl, _, rfl, l, _, _, _, rfl, rfl, hS, hv, q v⟩
    · exact ⟨_, rfl, _, _, rfl, rfl, .inl ⟨by decide, by decide⟩, _, _, rfl, rfl, q _⟩
theorem ok_l_box {P : Program} {w : World} {K : PySem.W.Frag} {mg : Str → Option Value} {base : Heap} (T : Txt P K mg) : FnOk P w K mg base CX0 1 T.f_l_box T.fd_l_box ["_law_cell_here"] (sp_bag K) := by
  refine T.F_l_box.ok sc_l_box (fun vs H Q E h => ?_) (fun cdv A outer s H vs Q E hr h => ?_)
  · obtain ⟨_, rfl, _⟩ := h; rfl
  · obtain ⟨c, rfl, q⟩ := h
    refine ⟨_, PSs.nox (pss_one (ps_ret (pe_lst (pa_cons (pe_callB (call_max2 rfl) (by rfl) T.n_max (by decide +kernel) (pa_cons pe_int (pa_cons (pe_op op_sub (pv 0) (pe_op op_pow pe_int pe_int)) pa_nil))) (pa_cons (pe_op op_mod (pv 0) pe_int) (pa_cons pe_int pa_nil)))))), ?_⟩
    refine ⟨_, rfl, _, _, rfl, rfl, ⟨by decide, by decide, by decide⟩, _, _, rfl, rfl, _, _, rfl, _, rfl, _, _, rfl, rfl, (show (0 : Int) < _ by decide), ?_⟩
    refine ⟨(by show 3 ≤ sizeLine; decide), fun p np => q p _ (Same.new np) np ⟨_, _, _, upd_same, ?_, (emod_in c (by decide)).1, (emod_in c (by decide)).2, Int.le_refl 0, Int.le_refl 0⟩⟩
    split <;> omega
theorem ok_l_take {P : Program} {w : World} {K : PySem.W.Frag} {mg : Str → Option Value} {base : Heap} (T : Txt P K mg) : FnOk P w K mg base CX0 1 T.f_l_take T.fd_l_take ["_law_box_here", "_law_many"] (sp_take K) := by
  refine T.F_l_take.ok sc_l_take (fun vs H Q E h => ?_) (fun cdv A outer s H vs Q E hr h => ?_)
  · obtain ⟨_, _, _, rfl, _⟩ := h; rfl
  · obtain ⟨b, n, c, rfl, ⟨x, y, z, hb, hx, hy, hy2, hz, hz2⟩, hn, hc, hc2, q⟩ := h
    have wc : CDivW x c := wide_div hc (b := 200) (by omega) (by decide) (by decide)
    refine ⟨_, PSs.nox (pss_cons (ps_if (pt_cmpR op_gt (pe_ix (show IxR _ (rIxL K) from ix_list) (pv 0) pe_int (fun _ _ => rfl)) pe_int (nomark _)) (pss_cons (ps_set (i := 2) sc_l_take.nd rfl (Or.inl rfl) (pe_op op_mod (pe_ix (show IxR _ (rIxL K) from ix_list) (pv 0) pe_int (fun _ _ => rfl)) (pv 1)))
      (pss_cons (ps_asg (pe_op op_fdivW (pe_ix (show IxR _ (rIxL K) from ix_list) (pv 0) pe_int (fun _ _ => rfl)) (pv 1)) (pg_sub (pv 0) pe_int set_list))
      (pss_one (ps_ret (pv 2))))) pss_nil)
      (pss_cons (ps_asg (pe_op op_add (pe_ix (show IxR _ (rIxL K) from ix_list) (pv 0) pe_int (fun _ _ => rfl)) pe_int) (pg_sub (pv 0) pe_int set_list))
      (pss_cons (ps_set (i := 3) sc_l_take.nd rfl (Or.inl rfl) (pe_op op_mod (pe_op op_pow (pe_op op_add (pe_op op_add (pe_ix (show IxR _ (rIxL K) from ix_list) (pv 0) pe_int (fun _ _ => rfl)) (pe_op op_mul pe_int (pe_ix (show IxR _ (rIxL K) from ix_list) (pv 0) pe_int (fun _ _ => rfl)))) pe_int) pe_int) pe_int))
      (pss_cons (ps_set (i := 3) sc_l_take.nd rfl (Or.inl rfl) (pe_op op_mod (pe_op op_pow (pe_op op_add (pv 3) (pe_op op_mul pe_int (pe_ix (show IxR _ (rIxL K) from ix_list) (pv 0) pe_int (fun _ _ => rfl)))) pe_int) pe_int))
      (pss_one (ps_ret (pe_op op_mod (pe_op op_fdivW (pv 3) pe_int) (pv 1)))))))), ?_⟩
    refine ⟨_, rfl, b, _, _, _, rfl, rfl, SqL.of hb, rfl, _, _, rfl, rfl, _, rfl, ite2 (fun e => ?_) (fun e => ?_)⟩
    · -- a digit of the cell
      refine ⟨_, rfl, b, _, _, _, rfl, rfl, SqL.of hb, rfl, _, rfl, _, _, rfl, rfl, hc, ?_⟩
      refine ⟨_, rfl, b, _, _, _, rfl, rfl, SqL.of hb, rfl, _, rfl, _, _, rfl, rfl, wc, ?_⟩
      refine ⟨_, rfl, b, _, _, 0, rfl, rfl, hb, rfl, ?_⟩
      refine ⟨_, rfl, q _ _ (Fr.upd_b (Fr.refl b H)) ⟨_, _, _, upd_same, Int.ediv_nonneg hx (by omega), hy, hy2, hz, by omega⟩ (emod_in x hc).1 (emod_in x hc).2⟩
    · -- a mixed one
      refine ⟨_, rfl, b, _, _, _, rfl, rfl, SqL.of hb, rfl, _, _, rfl, rfl, ?_⟩
      refine ⟨_, rfl, b, _, _, 2, rfl, rfl, hb, rfl, ?_⟩
      have hb2 : upd H b (.lst ([V.int x, V.int y, V.int z].set 2 (V.int (z + 1)))) b = some (.lst [.int x, .int y, .int (z + 1)]) := upd_same
      refine ⟨_, rfl, b, _, _, _, rfl, rfl, SqL.of hb2, rfl, _, rfl, b, _, _, _, rfl, rfl, SqL.of hb2, rfl, _, _, rfl, rfl, .inl ⟨by decide, by decide⟩, _, _, rfl, rfl, _, _, rfl, rfl, _, _, rfl, rfl, ⟨by decide, by decide, by omega⟩, _, _, rfl, rfl, (show (0 : Int) < _ by decide), ?_⟩
      have m1 := emod_in ((y + 9059 * (z + 1) + 193) ^ (5 : Int).toNat) (m := 2147483647) (by decide)
      generalize (y + 9059 * (z + 1) + 193) ^ (5 : Int).toNat % 2147483647 = t at m1
      refine ⟨_, rfl, _, rfl, b, _, _, _, rfl, rfl, SqL.of hb2, rfl, _, _, rfl, rfl, .inl ⟨by decide, by decide⟩, _, _, rfl, rfl, _, _, rfl, rfl, ⟨by decide, by decide, by omega⟩, _, _, rfl, rfl, (show (0 : Int) < _ by decide), ?_⟩
      have m2 := emod_in ((t + 104729 * (z + 1)) ^ (3 : Int).toNat) (m := 2147483587) (by decide)
      generalize (t + 104729 * (z + 1)) ^ (3 : Int).toNat % 2147483587 = u at m2
      refine ⟨_, rfl, _, _, rfl, rfl, wide_div (by decide) (b := 10) (by decide) (by decide) (by decide), _, rfl, _, _, rfl, rfl, hc, ?_⟩
      exact q _ _ (Fr.upd_b (Fr.refl b H)) ⟨_, _, _, upd_same, hx, hy, hy2, by omega, by omega⟩ (emod_in _ hc).1 (emod_in _ hc).2

end K46
namespace K46
open PySem PySem.Spec PyProof.Rows L2 TL
/-! ### data that stand: variables, events -/
theorem pd_get {α β : Type} {F : α → β → Prop} : ∀ {l₁ : List α} {l₂ : List β} {i : Nat} {x : α}, Paired F l₁ l₂ → l₁[i]? = some x → ∃ y, l₂[i]? = some y ∧ F x y
  | _, _, _, _, .nil, e => by simp at e
  | _, _, 0, _, .cons r _, e => by simp at e; subst e; exact ⟨_, rfl, r⟩
  | _, _, i + 1, x, .cons _ t, e => by
    obtain ⟨y, h1, h2⟩ := pd_get (i := i) (x := x) t (by simpa using e)
    exact ⟨y, by simpa using h1, h2⟩
theorem pd_get' {α β : Type} {F : α → β → Prop} : ∀ {l₁ : List α} {l₂ : List β} {i : Nat} {y : β}, Paired F l₁ l₂ → l₂[i]? = some y → ∃ x, l₁[i]? = some x ∧ F x y
  | _, _, _, _, .nil, e => by simp at e
  | _, _, 0, _, .cons r _, e => by simp at e; subst e; exact ⟨_, rfl, r⟩
  | _, _, i + 1, y, .cons _ t, e => by
    obtain ⟨x, h1, h2⟩ := pd_get' (i := i) (y := y) t (by simpa using e)
    exact ⟨x, by simpa using h1, h2⟩
theorem pd_app {α β : Type} {F : α → β → Prop} : ∀ {a b : List α} {c d : List β}, Paired F a c → Paired F b d → Paired F (a ++ b) (c ++ d)
  | _, _, _, _, .nil, h => h
  | _, _, _, _, .cons r t, h => .cons r (pd_app t h)
theorem pd_map {α β : Type} {F : α → β → Prop} (f : β → α) : ∀ {l : List β}, (∀ y ∈ l, F (f y) y) → Paired F (l.map f) l
  | [], _ => .nil
  | y :: r, h => .cons (h y List.mem_cons_self) (pd_map f fun z hz => h z (List.mem_cons_of_mem _ hz))
/-- what does not stand in W stays -/
def Mv (W : Addr → Prop) (H H' : Hp) : Prop := ∀ a o, ¬ W a → H a = some o → H' a = some o
theorem Mv.of_same {W : Addr → Prop} {H H' : Hp} (h : Same H H') : Mv W H H' := fun a o _ e => h a o e
theorem Mv.of_fr {b : Addr} {H H' : Hp} (h : Fr b H H') : Mv (fun a => a = b) H H' := fun a o n e => h a o n e
/-- a list or a tuple at a place of F -/
def LT (H : Hp) (F : Addr → Prop) (a : Addr) (xs : List V) : Prop := F a ∧ (H a = some (.lst xs) ∨ H a = some (.tup xs))
theorem LT.sq {K : PySem.W.Frag} {H : Hp} {F : Addr → Prop} {a : Addr} {xs : List V} (h : LT H F a xs) : SqL K H a xs ∨ SqT K H a xs := by
  obtain ⟨_, h | h⟩ := h
  · exact .inl (SqL.of h)
  · exact .inr (.inl (.inl h))
theorem LT.mv {H H' : Hp} {F W : Addr → Prop} {a : Addr} {xs : List V} (h : LT H F a xs) (m : Mv W H H') (d : ∀ a, F a → ¬ W a) : LT H' F a xs := by
  obtain ⟨f, h | h⟩ := h
  · exact ⟨f, .inl (m _ _ (d _ f) h)⟩
  · exact ⟨f, .inr (m _ _ (d _ f) h)⟩
def isPair (H : Hp) (G : Addr → Prop) (x : V) (q : Str × Int) : Prop := ∃ t, x = .ref t ∧ G t ∧ H t = some (.tup [.str q.1, .int q.2])
def isTupI (H : Hp) (G : Addr → Prop) (x : V) (ns : List Int) : Prop := ∃ t, x = .ref t ∧ G t ∧ H t = some (.tup (ns.map V.int))
abbrev Row := Str × List Str × List (List Int)
def isRow (H : Hp) (F G : Addr → Prop) (x : V) (r : Row) : Prop := ∃ p a b ys, x = .ref p ∧ F p ∧ H p = some (.tup [.str r.1, .ref a, .ref b]) ∧ LT H F a (r.2.1.map V.str) ∧ LT H F b ys ∧ Paired (isTupI H G) ys r.2.2
def isVars (H : Hp) (F G : Addr → Prop) (v : V) (L : List (Str × Int)) : Prop := ∃ a xs, v = .ref a ∧ LT H F a xs ∧ Paired (isPair H G) xs L
def isEvs (H : Hp) (F G : Addr → Prop) (v : V) (R : List Row) : Prop := ∃ a xs, v = .ref a ∧ LT H F a xs ∧ Paired (isRow H F G) xs R
section
variable {H H' : Hp} {F F' G G' W : Addr → Prop}
theorem isPair.mv {x : V} {q : Str × Int} (h : isPair H G x q) (m : Mv W H H') (d : ∀ a, G a → ¬ W a) : isPair H' G x q := by
  obtain ⟨t, e, g, h⟩ := h
  exact ⟨t, e, g, m _ _ (d _ g) h⟩
theorem isTupI.mv {x : V} {ns : List Int} (h : isTupI H G x ns) (m : Mv W H H') (d : ∀ a, G a → ¬ W a) : isTupI H' G x ns := by
  obtain ⟨t, e, g, h⟩ := h
  exact ⟨t, e, g, m _ _ (d _ g) h⟩
theorem isRow.mv {x : V} {r : Row} (h : isRow H F G x r) (m : Mv W H H') (d : ∀ a, F a → ¬ W a) (d' : ∀ a, G a → ¬ W a) : isRow H' F G x r := by
  obtain ⟨p, a, b, ys, e, f, h, la, lb, hp⟩ := h
  exact ⟨p, a, b, ys, e, f, m _ _ (d _ f) h, la.mv m d, lb.mv m d, Paired.mono (fun _ _ z => z.mv m d') hp⟩
theorem isVars.mv {v : V} {L : List (Str × Int)} (h : isVars H F G v L) (m : Mv W H H') (d : ∀ a, F a → ¬ W a) (d' : ∀ a, G a → ¬ W a) : isVars H' F G v L := by
  obtain ⟨a, xs, e, la, hp⟩ := h
  exact ⟨a, xs, e, la.mv m d, Paired.mono (fun _ _ z => z.mv m d') hp⟩
theorem isEvs.mv {v : V} {R : List Row} (h : isEvs H F G v R) (m : Mv W H H') (d : ∀ a, F a → ¬ W a) (d' : ∀ a, G a → ¬ W a) : isEvs H' F G v R := by
  obtain ⟨a, xs, e, la, hp⟩ := h
  exact ⟨a, xs, e, la.mv m d, Paired.mono (fun _ _ z => z.mv m d d') hp⟩
theorem LT.wk {a : Addr} {xs : List V} (h : LT H F a xs) (f : ∀ a, F a → F' a) : LT H F' a xs := ⟨f _ h.1, h.2⟩
theorem isPair.wk {x : V} {q : Str × Int} (h : isPair H G x q) (f : ∀ a, G a → G' a) : isPair H G' x q := by
  obtain ⟨t, e, g, h⟩ := h
  exact ⟨t, e, f _ g, h⟩
theorem isTupI.wk {x : V} {ns : List Int} (h : isTupI H G x ns) (f : ∀ a, G a → G' a) : isTupI H G' x ns := by
  obtain ⟨t, e, g, h⟩ := h
  exact ⟨t, e, f _ g, h⟩
theorem isRow.wk {x : V} {r : Row} (h : isRow H F G x r) (f : ∀ a, F a → F' a) (g : ∀ a, G a → G' a) : isRow H F' G' x r := by
  obtain ⟨p, a, b, ys, e, ff, h, la, lb, hp⟩ := h
  exact ⟨p, a, b, ys, e, f _ ff, h, la.wk f, lb.wk f, Paired.mono (fun _ _ z => z.wk g) hp⟩
theorem isVars.wk {v : V} {L : List (Str × Int)} (h : isVars H F G v L) (f : ∀ a, F a → F' a) (g : ∀ a, G a → G' a) : isVars H F' G' v L := by
  obtain ⟨a, xs, e, la, hp⟩ := h
  exact ⟨a, xs, e, la.wk f, Paired.mono (fun _ _ z => z.wk g) hp⟩
theorem isEvs.wk {v : V} {R : List Row} (h : isEvs H F G v R) (f : ∀ a, F a → F' a) (g : ∀ a, G a → G' a) : isEvs H F' G' v R := by
  obtain ⟨a, xs, e, la, hp⟩ := h
  exact ⟨a, xs, e, la.wk f, Paired.mono (fun _ _ z => z.wk f g) hp⟩
theorem isPair.same {x : V} {q : Str × Int} (h : isPair H G x q) (m : Same H H') : isPair H' G x q := h.mv (Mv.of_same m (W := fun _ => False)) fun _ _ z => z
theorem isTupI.same {x : V} {ns : List Int} (h : isTupI H G x ns) (m : Same H H') : isTupI H' G x ns := h.mv (Mv.of_same m (W := fun _ => False)) fun _ _ z => z
theorem isRow.same {x : V} {r : Row} (h : isRow H F G x r) (m : Same H H') : isRow H' F G x r := h.mv (Mv.of_same m (W := fun _ => False)) (fun _ _ z => z) fun _ _ z => z
theorem isVars.same {v : V} {L : List (Str × Int)} (h : isVars H F G v L) (m : Same H H') : isVars H' F G v L := h.mv (Mv.of_same m (W := fun _ => False)) (fun _ _ z => z) fun _ _ z => z
theorem isEvs.same {v : V} {R : List Row} (h : isEvs H F G v R) (m : Same H H') : isEvs H' F G v R := h.mv (Mv.of_same m (W := fun _ => False)) (fun _ _ z => z) fun _ _ z => z
theorem LT.same {a : Addr} {xs : List V} (h : LT H F a xs) (m : Same H H') : LT H' F a xs := h.mv (Mv.of_same m (W := fun _ => False)) fun _ _ z => z
end
/-- a row whose scope and bad tuples are lists -/
def isRowS (H : Hp) (F G : Addr → Prop) (x : V) (r : Row) : Prop := ∃ p a b ys, x = .ref p ∧ F p ∧ H p = some (.tup [.str r.1, .ref a, .ref b]) ∧ (F a ∧ H a = some (.lst (r.2.1.map V.str))) ∧ (F b ∧ H b = some (.lst ys)) ∧ Paired (isTupI H G) ys r.2.2
section
variable {H H' : Hp} {F F' G G' W : Addr → Prop}
theorem isRowS.row {x : V} {r : Row} (h : isRowS H F G x r) : isRow H F G x r := by
  obtain ⟨p, a, b, ys, e, f, h, la, lb, hp⟩ := h
  exact ⟨p, a, b, ys, e, f, h, ⟨la.1, .inl la.2⟩, ⟨lb.1, .inl lb.2⟩, hp⟩
theorem isRowS.mv {x : V} {r : Row} (h : isRowS H F G x r) (m : Mv W H H') (d : ∀ a, F a → ¬ W a) (d' : ∀ a, G a → ¬ W a) : isRowS H' F G x r := by
  obtain ⟨p, a, b, ys, e, f, h, la, lb, hp⟩ := h
  exact ⟨p, a, b, ys, e, f, m _ _ (d _ f) h, ⟨la.1, m _ _ (d _ la.1) la.2⟩, ⟨lb.1, m _ _ (d _ lb.1) lb.2⟩, Paired.mono (fun _ _ z => z.mv m d') hp⟩
theorem isRowS.wk {x : V} {r : Row} (h : isRowS H F G x r) (f : ∀ a, F a → F' a) (g : ∀ a, G a → G' a) : isRowS H F' G' x r := by
  obtain ⟨p, a, b, ys, e, ff, h, la, lb, hp⟩ := h
  exact ⟨p, a, b, ys, e, f _ ff, h, ⟨f _ la.1, la.2⟩, ⟨f _ lb.1, lb.2⟩, Paired.mono (fun _ _ z => z.wk g) hp⟩
theorem isRowS.same {x : V} {r : Row} (h : isRowS H F G x r) (m : Same H H') : isRowS H' F G x r := h.mv (Mv.of_same m (W := fun _ => False)) (fun _ _ z => z) fun _ _ z => z
end
/-! ### what is asked of them -/
def NameOk (s : Str) : Prop := 1 ≤ (tl s).length ∧ (tl s).length ≤ 8 ∧ ∀ c ∈ tl s, 97 ≤ c ∧ c ≤ 122
def sizeOf (L : List (Str × Int)) (x : Str) : Int := ((L.find? fun q => decide (q.1 = x)).map (·.2)).getD 0
structure VarsOk (L : List (Str × Int)) : Prop where
  pos : 1 ≤ L.length
  few : L.length ≤ 8
  nm : ∀ q ∈ L, NameOk q.1
  sz : ∀ q ∈ L, 1 ≤ q.2 ∧ q.2 ≤ 6
  nd : (L.map (·.1)).Nodup
structure RowOk (L : List (Str × Int)) (r : Row) : Prop where
  nm : NameOk r.1
  pos : 1 ≤ r.2.1.length
  few : r.2.1.length ≤ 4
  sub : ∀ x ∈ r.2.1, x ∈ L.map (·.1)
  nd : r.2.1.Nodup
  bfew : r.2.2.length ≤ 12
  bnd : r.2.2.Nodup
  bl : ∀ ns ∈ r.2.2, ns.length = r.2.1.length
  bv : ∀ ns ∈ r.2.2, ∀ (i : Nat) (x : Str) (v : Int), r.2.1[i]? = some x → ns[i]? = some v → 0 ≤ v ∧ v < sizeOf L x
structure EvsOk (L : List (Str × Int)) (R : List Row) : Prop where
  few : R.length ≤ 8
  ok : ∀ r ∈ R, RowOk L r
  nd : (R.map (·.1)).Nodup

end K46
namespace K46
open PySem PySem.Spec PyProof.Rows L2 TL
/-! ### names that share a stem -/
theorem joinL_nil : ∀ ps : List (List Nat), joinL [] ps = ps.flatten
  | [] => rfl
  | [p] => by simp [joinL]
  | p :: q :: r => by
    show p ++ ([] ++ joinL [] (q :: r)) = _
    rw [joinL_nil (q :: r)]
    simp
theorem tl_join0 (ys : List Str) : tl (Txt.join (Str.ofString "") ys) = (ys.map tl).flatten := by
  rw [join_eq, tl_join, show tl (Str.ofString "") = [] by decide +kernel, joinL_nil]
theorem tl_cut0 (z : Str) (a : Nat) : tl (cutS z none (some (a : Int))) = (tl z).take a := by
  show ((z.cps.toList.drop 0).take (HT.sIx z.length z.length (some (a : Int)) - 0)) = _
  rw [HT.sIx_nat, List.drop_zero, Nat.sub_zero, show z.length = (tl z).length from len_tl z]
  show (tl z).take _ = _
  rw [← List.take_take, List.take_length]
theorem tl_cut2 (z : Str) (a b : Nat) (h : a ≤ (tl z).length) : tl (cutS z (some (a : Int)) (some (b : Int))) = ((tl z).drop a).take (b - a) := by
  show ((z.cps.toList.drop (HT.sIx z.length 0 (some (a : Int)))).take (HT.sIx z.length z.length (some (b : Int)) - HT.sIx z.length 0 (some (a : Int)))) = _
  rw [HT.sIx_nat, HT.sIx_nat, show z.length = (tl z).length from len_tl z, Nat.min_eq_left h]
  show ((tl z).drop a).take _ = _
  by_cases hb : b ≤ (tl z).length
  · rw [Nat.min_eq_left hb]
  · rw [Nat.min_eq_right (by omega), List.take_of_length_le (by rw [List.length_drop]; omega), List.take_of_length_le (by rw [List.length_drop]; omega)]
def AZ : Str := Str.ofString "abcdefghijklmnopqrstuvwxyz"
theorem az_list : AZ.cps.toList = List.range' 97 26 := by decide +kernel
theorem az_at {d : Int} (h0 : 0 ≤ d) (h1 : d < 26) : atI AZ.cps.toList d = some (97 + d.toNat) := by
  have e : ((d.toNat : Nat) : Int) = d := Int.toNat_of_nonneg h0
  have h := atI_nat (xs := AZ.cps.toList) (j := d.toNat) (v := 97 + d.toNat) (by rw [az_list, List.getElem?_range' (by omega)]; simp)
  rw [e] at h
  exact h
theorem az_len : AZ.length ≤ sizeLine := slen (by decide +kernel)
/-- a list of draws that are texts of a kind, made at D -/
def PvP (b D : Addr) (H1 : Hp) (n0 c : Nat) (P : Str → Prop) (i : Nat) (H' : Hp) : Prop := H1 D = none ∧ D ≠ b ∧ ∃ ys : List Str, ys.length = i ∧ (∀ s ∈ ys, P s) ∧ H' D = some (.lst (ys.map V.str)) ∧ Fr b H1 H' ∧ Bag H' b (n0 + c * i)
theorem pvP_0 {b D : Addr} {H1 : Hp} {n0 c : Nat} {P : Str → Prop} (hB : Bag H1 b n0) (hD : H1 D = none) : PvP b D H1 n0 c P 0 (upd H1 D (.lst [])) :=
  ⟨hD, (hB.ne hD).symm, [], rfl, fun _ h => (nomatch h), upd_same, Fr.new hD, (hB.upd (hB.ne hD)).mono (by omega)⟩
theorem pvP_put {b D : Addr} {H1 H' H4 : Hp} {n0 c i : Nat} {P : Str → Prop} {s : Str} (p : PvP b D H1 n0 c P i H') (f4 : Fr b H' H4) (b4 : Bag H4 b (n0 + c * (i + 1))) (hs4 : P s) (hi : i < 100000) :
    ∃ acc, H4 D = some (.lst acc) ∧ acc.length < sizeLine ∧ PvP b D H1 n0 c P (i + 1) (upd H4 D (.lst (acc ++ [V.str s]))) := by
  obtain ⟨hD, n1, ys, hl, hs, hD', hF, hB'⟩ := p
  refine ⟨ys.map V.str, f4 D _ n1 hD', ?_, hD, n1, ys ++ [s], by rw [List.length_append, hl]; rfl, ?_, ?_, (hF.trans f4).upd_p hD, b4.upd n1.symm⟩
  · rw [List.length_map, hl]
    have : sizeLine = 16777216 := sizeLine_eq
    omega
  · intro x hx
    rcases List.mem_append.mp hx with h | h
    · exact hs x h
    · rw [List.mem_singleton.mp h]; exact hs4
  · rw [upd_same, List.map_append]; rfl
def One (s : Str) : Prop := ∃ c : Nat, s = ⟨#[c]⟩ ∧ 97 ≤ c ∧ c ≤ 122
theorem one_flat : ∀ {ys : List Str}, (∀ s ∈ ys, One s) → (ys.map tl).flatten.length = ys.length ∧ ∀ c ∈ (ys.map tl).flatten, 97 ≤ c ∧ c ≤ 122
  | [], _ => ⟨rfl, by simp⟩
  | y :: r, h => by
    obtain ⟨h1, h2⟩ := one_flat (ys := r) fun s hs => h s (List.mem_cons_of_mem _ hs)
    obtain ⟨c, rfl, c1, c2⟩ := h y List.mem_cons_self
    have e : tl (⟨#[c]⟩ : Str) = [c] := rfl
    rw [List.map_cons, List.flatten_cons, e]
    refine ⟨by rw [List.length_append, h1]; simp; omega, fun x hx => ?_⟩
    rcases List.mem_append.mp hx with q | q
    · rw [List.mem_singleton.mp q]; exact ⟨c1, c2⟩
    · exact h2 x q
/-- the j-th name of a stem -/
theorem nodup_of_key {α β : Type} {l : List α} (key : α → β) (h : ∀ (i j : Nat) (x y : α), i < j → l[i]? = some x → l[j]? = some y → key x ≠ key y) : l.Nodup := by
  rw [List.nodup_iff_pairwise_ne, List.pairwise_iff_getElem]
  intro i j hi hj hij e
  exact h i j _ _ hij (List.getElem?_eq_getElem hi) (List.getElem?_eq_getElem hj) (by rw [e])
/-! ### a scope: some of the names, in a drawn order -/
theorem seq_at {n : Nat} {i : Int} (h0 : 0 ≤ i) (h1 : i < (n : Int)) : seqIndex? i n = some i.toNat := by
  refine (ixN_seq (j := i.toNat) ?_).1
  unfold ixN
  rw [if_pos h0, if_pos h1]
theorem map_erase {α β : Type} (f : α → β) : ∀ (l : List α) (k : Nat), (l.map f).eraseIdx k = (l.eraseIdx k).map f
  | [], _ => rfl
  | _ :: _, 0 => rfl
  | a :: r, k + 1 => congrArg (f a :: ·) (map_erase f r k)
/-! ### data: shapes, equality -/
def Shd (k : Nat) (d : PyData) : Prop := d.canLay0 = true ∧ d.depth ≤ k
theorem Shd.shaped {k : Nat} {d : PyData} (h : Shd k d) (hk : k ≤ 64) : SeqAt.shaped d = true := by
  unfold SeqAt.shaped
  rw [h.1, Bool.true_and]
  exact decide_eq_true (Nat.le_trans h.2 hk)
theorem shd_all {k : Nat} : ∀ {ds : List PyData}, (∀ d ∈ ds, Shd k d) → PyData.canLayAll0 ds = true ∧ PyData.depthAll ds ≤ k
  | [], _ => ⟨by simp [PyData.canLayAll0], by simp [PyData.depthAll]⟩
  | d :: r, h => by
    obtain ⟨h1, h2⟩ := shd_all (ds := r) fun x hx => h x (List.mem_cons_of_mem _ hx)
    obtain ⟨h3, h4⟩ := h d List.mem_cons_self
    exact ⟨by simp only [PyData.canLayAll0]; rw [h3, h1]; rfl, by simp only [PyData.depthAll]; omega⟩
theorem Shd.tuple {k : Nat} {ds : List PyData} (h : ∀ d ∈ ds, Shd k d) : Shd (k + 1) (.tuple ds) := by
  obtain ⟨h1, h2⟩ := shd_all h
  exact ⟨by simp only [PyData.canLay0]; exact h1, by simp only [PyData.depth]; omega⟩
theorem Shd.list {k : Nat} {ds : List PyData} (h : ∀ d ∈ ds, Shd k d) : Shd (k + 1) (.list ds) := by
  obtain ⟨h1, h2⟩ := shd_all h
  exact ⟨by simp only [PyData.canLay0]; exact h1, by simp only [PyData.depth]; omega⟩
theorem Shd.int (i : Int) : Shd 0 (.int i) := ⟨by simp only [PyData.canLay0], by simp only [PyData.depth]; omega⟩
theorem Shd.str {s : Str} (h : NameOk s) : Shd 0 (.str s) := by
  refine ⟨?_, by simp only [PyData.depth]; omega⟩
  simp only [PyData.canLay0]
  show s.cps.all _ = true
  rw [Array.all_eq_true']
  intro c hc
  have := h.2.2 c (Array.mem_toList_iff.mpr hc)
  exact decide_eq_true (by omega)
def tupD (ns : List Int) : PyData := .tuple (ns.map PyData.int)
theorem shd_tup (ns : List Int) : Shd 1 (tupD ns) := Shd.tuple fun d hd => by
  obtain ⟨i, _, rfl⟩ := List.mem_map.mp hd
  exact Shd.int i
theorem shd_tups (l : List (List Int)) : Shd 2 (.list (l.map tupD)) := Shd.list fun d hd => by
  obtain ⟨i, _, rfl⟩ := List.mem_map.mp hd
  exact shd_tup i
theorem eqv_ints : ∀ ns ms : List Int, PyData.eqvAll (ns.map PyData.int) (ms.map PyData.int) = decide (ns = ms)
  | [], [] => by simp [PyData.eqvAll]
  | [], _ :: _ => by simp [PyData.eqvAll]
  | _ :: _, [] => by simp [PyData.eqvAll]
  | n :: ns, m :: ms => by
    simp only [List.map_cons, PyData.eqvAll, PyData.eqv]
    rw [eqv_ints ns ms]
    by_cases h : n = m
    · subst h; simp
    · have : (n == m) = false := by simpa using h
      rw [this, Bool.false_and]
      symm
      exact decide_eq_false fun e => h (List.cons.inj e).1
theorem eqv_tup (ns ms : List Int) : PyData.eqv (tupD ns) (tupD ms) = decide (ns = ms) := by
  unfold tupD
  simp only [PyData.eqv]
  exact eqv_ints ns ms
theorem any_tups (l : List (List Int)) (ns : List Int) : ((l.map tupD).any fun z => PyData.eqv z (tupD ns)) = decide (ns ∈ l) := by
  induction l with
  | nil => rfl
  | cons a r ih =>
    rw [List.map_cons, List.any_cons, ih, eqv_tup]
    by_cases h : a = ns
    · subst h; simp
    · rw [decide_eq_false h, Bool.false_or]
      by_cases h2 : ns ∈ r
      · rw [decide_eq_true h2, decide_eq_true (List.mem_cons_of_mem _ h2)]
      · rw [decide_eq_false h2, decide_eq_false fun z => by rcases List.mem_cons.mp z with z | z; exact h z.symm; exact h2 z]
theorem dp_ints {K : PySem.W.Frag} {H : Hp} : ∀ ns : List Int, DpAll K H (ns.map V.int) (ns.map PyData.int)
  | [] => .nil
  | n :: r => .cons (.int n) (dp_ints r)
theorem dp_tup {K : PySem.W.Frag} {H : Hp} {G : Addr → Prop} {x : V} {ns : List Int} (h : isTupI H G x ns) : Dp K H x (tupD ns) := by
  obtain ⟨t, rfl, _, h⟩ := h
  exact .tup (.inl (.inl h)) (dp_ints ns)
theorem dp_all {K : PySem.W.Frag} {H : Hp} {α : Type} {F : V → α → Prop} {f : α → PyData} (hf : ∀ x y, F x y → Dp K H x (f y)) : ∀ {xs : List V} {ys : List α}, Paired F xs ys → DpAll K H xs (ys.map f)
  | _, _, .nil => .nil
  | _, _, .cons r t => .cons (hf _ _ r) (dp_all hf t)
/-! ### bad tuples: distinct tuples of values of a scope -/
def rowVals (kvs : List (Key × V)) (sc : List Str) (sz : Str → Int) : Prop := ∀ x ∈ sc, valV kvs (Sum.inr x) = some (.int (sz x)) ∧ 1 ≤ sz x ∧ sz x ≤ 6
def okVals (sc : List Str) (sz : Str → Int) (ns : List Int) : Prop := ns.length = sc.length ∧ ∀ (i : Nat) (x : Str) (v : Int), sc[i]? = some x → ns[i]? = some v → 0 ≤ v ∧ v < sz x

end K46
namespace K46
open PySem PySem.Spec PyProof.Rows L2 TL
/-! ### variables and events, drawn -/
def NewTo (H : Hp) (b : Addr) : Addr → Prop := fun t => H t = none ∧ t ≠ b
theorem ints_at {ns : List Int} {i : Int} (h0 : 0 ≤ i) (h1 : i < (ns.length : Int)) : ∃ v : Int, atI (ns.map V.int) i = some (.int v) ∧ v ∈ ns := by
  obtain ⟨v, hv, _⟩ := atI_in (xs := ns) h0 h1
  refine ⟨v, ?_, List.mem_of_getElem? hv⟩
  have e : ((i.toNat : Nat) : Int) = i := Int.toNat_of_nonneg h0
  have := atI_nat (xs := ns.map V.int) (j := i.toNat) (v := .int v) (by rw [List.getElem?_map, hv]; rfl)
  rw [e] at this
  exact this
def kvL (L : List (Str × Int)) : List (Key × V) := L.map fun q => (Sum.inr q.1, V.int q.2)
theorem kvL_val (L : List (Str × Int)) (x : Str) : valV (kvL L) (Sum.inr x) = (L.find? fun q => decide (q.1 = x)).map fun q => V.int q.2 := by
  unfold kvL valV
  rw [List.find?_map, Option.map_map]
  have e : ((fun kv : Key × V => decide (kv.1 = Sum.inr x)) ∘ fun q : Str × Int => ((Sum.inr q.1 : Key), V.int q.2)) = fun q => decide (q.1 = x) := by
    funext q
    show decide ((Sum.inr q.1 : Key) = Sum.inr x) = _
    by_cases h : q.1 = x
    · rw [h]; simp
    · rw [decide_eq_false h, decide_eq_false fun z => h (Sum.inr.inj z)]
  rw [e]
  rfl
theorem find_mem {L : List (Str × Int)} {x : Str} (h : x ∈ L.map (·.1)) : ∃ q ∈ L, q.1 = x ∧ (L.find? fun q => decide (q.1 = x)) = some q := by
  cases e : L.find? fun q => decide (q.1 = x) with
  | none =>
    obtain ⟨q, hq, ex⟩ := List.mem_map.mp h
    have := List.find?_eq_none.mp e q hq
    exact absurd (decide_eq_true ex) this
  | some q =>
    have h1 := List.find?_some e
    exact ⟨q, List.mem_of_find?_eq_some e, of_decide_eq_true h1, rfl⟩
theorem sizes_val {L : List (Str × Int)} (h : VarsOk L) {x : Str} (hx : x ∈ L.map (·.1)) : valV (kvL L) (Sum.inr x) = some (.int (sizeOf L x)) ∧ 1 ≤ sizeOf L x ∧ sizeOf L x ≤ 6 := by
  obtain ⟨q, hq, _, e⟩ := find_mem hx
  have hs : sizeOf L x = q.2 := by unfold sizeOf; rw [e]; rfl
  rw [kvL_val, e, hs]
  exact ⟨rfl, h.sz q hq⟩
theorem merge_new : ∀ (more kvs : List (Key × V)), (more.map (·.1)).Nodup → (∀ k ∈ more.map (·.1), k ∉ kvs.map (·.1)) → mergeK kvs more = kvs ++ more
  | [], kvs, _, _ => by simp [mergeK]
  | (k, v) :: r, kvs, nd, dj => by
    rw [List.map_cons, List.nodup_cons] at nd
    have hk : putK kvs k v = kvs ++ [(k, v)] := by
      unfold putK
      rw [if_neg]
      intro h
      obtain ⟨p, hp, e⟩ := List.any_eq_true.mp h
      exact dj k (by simp) (List.mem_map.mpr ⟨p, hp, of_decide_eq_true e⟩)
    show mergeK (putK kvs k v) r = _
    rw [hk, merge_new r _ nd.2 fun k' hk' hm => ?_, List.append_assoc]
    · rfl
    · rw [List.map_append] at hm
      rcases List.mem_append.mp hm with h | h
      · exact dj k' (List.mem_cons_of_mem _ hk') h
      · have : k' = k := by simpa using h
        rw [this] at hk'
        exact nd.1 hk'
theorem kvL_keys (L : List (Str × Int)) : (kvL L).map (·.1) = (L.map (·.1)).map Sum.inr := by
  unfold kvL
  rw [List.map_map, List.map_map]
  rfl
theorem inr_nodup {l : List Str} (h : l.Nodup) : (l.map (Sum.inr : Str → Key)).Nodup := by
  rw [List.nodup_iff_pairwise_ne, List.pairwise_map]
  exact (List.nodup_iff_pairwise_ne.mp h).imp fun {a b} z e => z (Sum.inr.inj e)
theorem merge_kvL {L : List (Str × Int)} (h : VarsOk L) : mergeK [] (kvL L) = kvL L := by
  rw [merge_new _ _ (by rw [kvL_keys]; exact inr_nodup h.nd) fun k _ hm => by cases hm]
  rfl
theorem pair_addrs {H : Hp} {G : Addr → Prop} : ∀ {xs : List V} {L : List (Str × Int)}, Paired (isPair H G) xs L → ∃ ps : List Addr, xs = ps.map V.ref ∧ ∀ K : PySem.W.Frag, Paired (fun p (kv : Key × V) => SqT K H p [kV kv.1, kv.2]) ps (kvL L)
  | _, _, .nil => ⟨[], rfl, fun _ => .nil⟩
  | _, _, .cons ⟨t, e, _, h⟩ r => by
    obtain ⟨ps, e2, p2⟩ := pair_addrs r
    exact ⟨t :: ps, by rw [e, e2]; rfl, fun K => .cons (.inl (.inl h)) (p2 K)⟩
theorem inV_str (l : List Str) (y : Str) : inV (.str y) (l.map V.str) = decide (y ∈ l) := by
  unfold inV
  induction l with
  | nil => rfl
  | cons a r ih =>
    rw [List.map_cons, List.any_cons, ih]
    show (a == y || decide (y ∈ r)) = _
    by_cases h : a = y
    · subst h; simp
    · have : (a == y) = false := by simpa using h
      rw [this, Bool.false_or]
      by_cases h2 : y ∈ r
      · rw [decide_eq_true h2, decide_eq_true (List.mem_cons_of_mem _ h2)]
      · rw [decide_eq_false h2, decide_eq_false fun z => by rcases List.mem_cons.mp z with z | z; exact h z.symm; exact h2 z]
theorem flat_str (l : List Str) : (l.map V.str).all flatV = true := by
  rw [List.all_map, List.all_eq_true]
  intro x _; rfl
theorem cutV0 (xs : List V) (k : Nat) : cutV xs none (some (k : Int)) = xs.take k := by
  unfold cutV
  rw [HT.sIx_nat, HT.sIx_none, List.drop_zero, Nat.sub_zero]
  rw [← List.take_take, List.take_length]

end K46
namespace K46
open PySem PySem.Spec PyProof.Rows L2 TL
/-! ### what names, integers, lists are -/
theorem a97 : (Str.ofString "a").cps.toList = [97] := by decide +kernel
theorem z122 : (Str.ofString "z").cps.toList = [122] := by decide +kernel
theorem ge_chr (c d : Nat) : (!decide ([c] < [d])) = decide (d ≤ c) := by
  rw [show decide ([c] < [d]) = decide (c < d) by rw [decide_eq_decide, List.cons_lt_cons_iff]; simp, ← decide_not, decide_eq_decide]; omega
theorem kit_ii {K : PySem.W.Frag} : PySem.W.kitOne K (.type "int") (.type "int") = some true := kit_ty (show kitB "int" "int" = some true by decide +kernel)
theorem kit_ib {K : PySem.W.Frag} : PySem.W.kitOne K (.type "int") (.type "bool") = some false := kit_ty (show kitB "int" "bool" = some false by decide +kernel)
theorem kit_ss {K : PySem.W.Frag} : PySem.W.kitOne K (.type "str") (.type "str") = some true := kit_ty (show kitB "str" "str" = some true by decide +kernel)
theorem kit_tt {K : PySem.W.Frag} : PySem.W.kitOne K (.type "tuple") (.type "tuple") = some true := kit_ty (show kitB "tuple" "tuple" = some true by decide +kernel)
theorem kit_ll {K : PySem.W.Frag} : PySem.W.kitOne K (.type "list") (.type "list") = some true := kit_ty (show kitB "list" "list" = some true by decide +kernel)
theorem kit_tl {K : PySem.W.Frag} : PySem.W.kitOne K (.type "tuple") (.type "list") = some false := kit_ty (show kitB "tuple" "list" = some false by decide +kernel)
theorem kitA_l {K : PySem.W.Frag} : PySem.W.kitAny K (.type "list") [.type "list", .type "tuple"] = some true := by
  simp only [PySem.W.kitAny, kit_ll]
theorem kitA_t {K : PySem.W.Frag} : PySem.W.kitAny K (.type "tuple") [.type "list", .type "tuple"] = some true := by
  simp only [PySem.W.kitAny, kit_tl, kit_tt]
/-- a list or a tuple: one that stands here, or the empty one of the program's own text -/
def Sq (K : PySem.W.Frag) (H : Hp) (a : Addr) (xs : List V) : Prop := H a = some (.lst xs) ∨ H a = some (.tup xs) ∨ (EXV.IsE K a ∧ xs = [])
section
variable {K : PySem.W.Frag} {H H' : Hp} {a : Addr} {xs : List V}
theorem Sq.sq (h : Sq K H a xs) : SqL K H a xs ∨ SqT K H a xs := by
  rcases h with h | h | ⟨h, rfl⟩
  · exact .inl (SqL.of h)
  · exact .inr (.inl (.inl h))
  · exact .inr (h.sq H)
theorem Sq.same (h : Sq K H a xs) (s : Same H H') : Sq K H' a xs := by
  rcases h with h | h | h
  · exact .inl (s _ _ h)
  · exact .inr (.inl (s _ _ h))
  · exact .inr (.inr h)
theorem Sq.kit (h : Sq K H a xs) : ∃ t, TyX K H (.ref a) t ∧ PySem.W.kitAny K t [.type "list", .type "tuple"] = some true := by
  rcases h with h | h | ⟨⟨o, n, h1, h2, _⟩, _⟩
  · exact ⟨_, .base (.lst h), kitA_l⟩
  · exact ⟨_, .base (.tup h), kitA_t⟩
  · exact ⟨_, .kTuple h1 h2, kitA_t⟩
theorem sq_same (h : SqL K H a xs ∨ SqT K H a xs) (s : Same H H') : SqL K H' a xs ∨ SqT K H' a xs := (Kp.at fun o e => s a o e).sq h
theorem LT.s {F : Addr → Prop} (h : LT H F a xs) : Sq K H a xs := by
  obtain ⟨_, h | h⟩ := h
  · exact .inl h
  · exact .inr (.inl h)
theorem TyX.same {v : V} {t : Value} (h : TyX K H v t) (s : Same H H') : TyX K H' v t := by
  cases h with
  | base h =>
    cases h with
    | non => exact .base .non
    | bl b => exact .base (.bl b)
    | int i => exact .base (.int i)
    | str z => exact .base (.str z)
    | flt z => exact .base (.flt z)
    | lst e => exact .base (.lst (s _ _ e))
    | frz e => exact .base (.frz (s _ _ e))
    | tup e => exact .base (.tup (s _ _ e))
    | dK e => exact .base (.dK (s _ _ e))
    | dT e => exact .base (.dT (s _ _ e))
    | ins e c ha hn ht hm => exact .base (.ins (s _ _ e) c ha hn ht hm)
  | byt b => exact .byt b
  | set e => exact .set (s _ _ e)
  | kList e c => exact .kList e c
  | kTuple e c => exact .kTuple e c
  | kDict e c => exact .kDict e c
  | fTuple e => exact .fTuple (s _ _ e)
  | fDict e => exact .fDict (s _ _ e)
theorem kp_same {b : Addr} (s : Same H H') : Kp K b H H' := Kp.at fun o e => s b o e
end
theorem or_walkA {K : PySem.W.Frag} {tl : TE} {σ : L2.St} {H0 H : Hp} {R : It → Hp → Prop} {a : Addr} {xs : List V} (ht : ∀ R' : VK, R' (.ref a) H → tl σ H R') (hS : SqL K H0 a xs ∨ SqT K H0 a xs) (k0 : ∀ o, H0 a = some o → H a = some o)
    (h : ∀ (J : It) (G : Hp → Prop), Walk J xs.length G (YAt xs) → (∀ H', (∀ o, H0 a = some o → H' a = some o) → G H') → R J H) : iList K tl σ H R ∨ iTup K tl σ H R := by
  rcases hS with hS | hS
  · exact .inl (ht _ ⟨a, rfl, ⟨xs, (Kp.at k0).1 xs hS⟩, h _ _ walk_list fun H' k => (Kp.at k).1 xs hS⟩)
  · exact .inr (ht _ ⟨a, rfl, ⟨xs, (Kp.at k0).2 xs hS⟩, h _ _ walk_tup fun H' k => (Kp.at k).2 xs hS⟩)
theorem walk_zipM {K : PySem.W.Frag} {a b : Addr} {xs ys : List V} : Walk (Itzm K a b xs ys) (min xs.length ys.length) (fun H => SqT K H a xs ∧ SqL K H b ys) (YPair (fun i => xs[i]?) (fun i => ys[i]?)) :=
  ⟨fun _ _ hi q => ⟨q, hi⟩, fun _ q => ⟨q, Nat.le_refl _⟩, fun _ _ _ _ _ _ y => y⟩
def sp_isname : Sp := fun vs H Q _ => ∃ s : Str, vs = [.str s] ∧ NameOk s ∧ ∀ H', Same H H' → Q (.bl true) H'
theorem ok_is_name {P : Program} {w : World} {K : PySem.W.Frag} {mg : Str → Option Value} {base : Heap} (T : Txt P K mg) : FnOk P w K mg base CX0 1 T.f_is_name T.fd_is_name ["value"] (sp_isname) := by
  refine T.F_is_name.ok sc_is_name (fun vs H Q E h => ?_) (fun cdv A outer s H vs Q E hr h => ?_)
  · obtain ⟨_, rfl, _⟩ := h; rfl
  · obtain ⟨z, rfl, ⟨n1, n2, n3⟩, q⟩ := h
    refine ⟨_, PSs.nox (pss_cons (ps_if (PW.pt (pw_or (pt_not (pt_val (pe_callB (show CallR _ _ (rIsi K) from call_isi) (by rfl) T.n_isinstance (by decide +kernel) (pa_cons (pv 0) (pa_cons (pe_bltn (v := .ty "str") (by rfl) T.n_str (by decide +kernel) rfl) pa_nil))))) (pw_or1 (pt_not (pt_chain op_le op_le pe_int (pe_callB call_len_str (by rfl) T.n_len (by decide +kernel) (pa_cons (pv 0) pa_nil)) pe_int))))) (pss_one (ps_ret pe_bl)) pss_nil)
      (pss_one (ps_ret (pe_callB (show CallR _ _ (rAll K) from cr_all rfl) (by rfl) T.n_all (by decide +kernel) (pa_cons (pe_lc (own := [("letter", 1)]) (g := gName 1) rfl sc_is_name.nd (pi_str (pv 0)) (blkOk_by (own := [("letter", 1)]) (N := N_is_name) (sc := defScope s_is_name) (by decide +kernel)) (fun _ _ _ _ _ => (pg_name (i := 1) sc_is_name.nd rfl (Or.inl rfl))) (fun _ _ _ _ _ => pts_nil) (fun _ _ _ _ _ => (pe_chain op_le_str op_le_str pe_str (pv 1) pe_str))) pa_nil))))), ?_⟩
    have zl : z.length = (tl z).length := len_tl z
    refine ⟨_, rfl, _, _, _, _, _, rfl, .ty _, .base (.str _), kit_ss, _, rfl, ?_⟩
    refine ⟨_, rfl, z, rfl, slen (by omega), _, _, rfl, rfl, _, rfl, ite2 (fun e1 => ?_) (fun e1 => absurd (decide_eq_true (by omega)) e1)⟩
    refine ⟨_, _, rfl, rfl, _, rfl, ite2 (fun e2 => absurd (decide_eq_true (show (z.length : Int) ≤ 8 by omega)) (by simpa using e2)) (fun e2 => ?_)⟩
    refine ⟨_, rfl, z, rfl, fun D nD => lc_it walk_str (fun i H' => H' D = some (.lst (List.replicate i (.bl true))) ∧ Same H H') ⟨upd_same, Same.new nD⟩ (fun _ _ _ _ => trivial) (fun i x H' H'' hi p y => ?_) (fun H' p => ?_)⟩
    · obtain ⟨p1, p2⟩ := p
      obtain ⟨rfl, c, hc, rfl⟩ := y
      have cm : c ∈ tl z := Array.mem_toList_iff.mpr (Array.mem_of_getElem? hc)
      have cb := n3 c cm
      have il : i < z.length := hi
      refine ⟨rfl, _, rfl, _, _, rfl, rfl, _, rfl, ite2 (fun e3 => ?_) (fun e3 => absurd (by rw [a97, ge_chr]; exact decide_eq_true cb.1) e3)⟩
      refine ⟨_, _, rfl, rfl, ?_⟩
      have el : (!decide ((Str.ofString "z").cps.toList < (⟨#[c]⟩ : Str).cps.toList)) = true := by
        rw [z122, ge_chr]; exact decide_eq_true cb.2
      rw [el]
      exact ⟨_, p1, by rw [List.length_replicate, sizeLine_eq]; omega, by rw [upd_same, List.replicate_succ'], Same.upd_p p2 nD⟩
    · obtain ⟨p1, p2⟩ := p
      refine ⟨D, List.replicate z.cps.size true, rfl, SqL.of (by rw [p1, List.map_replicate]), ?_⟩
      have : (List.replicate z.cps.size true).all id = true := by simp
      rw [this]
      exact q H' p2
/-- not an integer: isinstance says no, or it is a bool -/
def NotI (K : PySem.W.Frag) (H : Hp) (u : V) : Prop := ∃ t, TyX K H u t ∧ (PySem.W.kitOne K t (.type "int") = some false ∨ (PySem.W.kitOne K t (.type "int") = some true ∧ PySem.W.kitOne K t (.type "bool") = some true))
theorem NotI.same {K : PySem.W.Frag} {H H' : Hp} {u : V} (h : NotI K H u) (s : Same H H') : NotI K H' u := by
  obtain ⟨t, ty, k⟩ := h
  exact ⟨t, TyX.same ty s, k⟩
def sp_anyint (K : PySem.W.Frag) : Sp := fun vs H Q _ => ∃ v, vs = [v] ∧ ((∃ i : Int, v = .int i ∧ Q (.bl true) H) ∨ (NotI K H v ∧ Q (.bl false) H))
theorem ok_is_any_integer {P : Program} {w : World} {K : PySem.W.Frag} {mg : Str → Option Value} {base : Heap} (T : Txt P K mg) : FnOk P w K mg base CX0 1 T.f_is_any_integer T.fd_is_any_integer ["value"] (sp_anyint K) := by
  refine T.F_is_any_integer.ok sc_is_any_integer (fun vs H Q E h => ?_) (fun cdv A outer s H vs Q E hr h => ?_)
  · obtain ⟨_, rfl, _⟩ := h; rfl
  · obtain ⟨v, rfl, q⟩ := h
    refine ⟨_, PSs.nox (pss_one (ps_ret (pe_and (pe_callB (show CallR _ _ (rIsi K) from call_isi) (by rfl) T.n_isinstance (by decide +kernel) (pa_cons (pv 0) (pa_cons (pe_bltn (v := .ty "int") (by rfl) T.n_int (by decide +kernel) rfl) pa_nil))) (pe_one (pe_not (pe_callB (show CallR _ _ (rIsi K) from call_isi) (by rfl) T.n_isinstance (by decide +kernel) (pa_cons (pv 0) (pa_cons (pe_bltn (v := .ty "bool") (by rfl) T.n_bool (by decide +kernel) rfl) pa_nil)))))))), ?_⟩
    rcases q with ⟨i, rfl, q⟩ | ⟨⟨t, ty, k | ⟨k, k2⟩⟩, q⟩
    · exact ⟨_, rfl, _, _, _, _, _, rfl, .ty _, .base (.int i), kit_ii, _, rfl, _, rfl, _, _, _, _, _, rfl, .ty _, .base (.int i), kit_ib, _, rfl, q⟩
    · exact ⟨_, rfl, _, _, t, _, _, rfl, .ty _, ty, k, _, rfl, q⟩
    · exact ⟨_, rfl, _, _, t, _, _, rfl, .ty _, ty, k, _, rfl, _, rfl, _, _, t, _, _, rfl, .ty _, ty, k2, _, rfl, q⟩
def inI (lo hi : Int) : V → Bool | .int i => decide (lo ≤ i) && decide (i ≤ hi) | _ => false
def sp_isint (K : PySem.W.Frag) : Sp := fun vs H Q _ => ∃ (v : V) (lo hi : Int), vs = [v, .int lo, .int hi] ∧ ((∃ i, v = .int i) ∨ NotI K H v) ∧ Q (.bl (inI lo hi v)) H
theorem NotI.no {K : PySem.W.Frag} {H : Hp} {i : Int} (h : NotI K H (.int i)) : False := by
  obtain ⟨t, ty, k⟩ := h
  cases ty with
  | base b =>
    cases b
    rw [kit_ii, kit_ib] at k
    rcases k with k | ⟨_, k⟩ <;> cases k
theorem NotI.inI {K : PySem.W.Frag} {H : Hp} {v : V} (h : NotI K H v) (lo hi : Int) : inI lo hi v = false := by
  cases v with
  | int i => exact absurd h fun z => z.no
  | _ => rfl
theorem ok_is_integer {P : Program} {w : World} {K : PySem.W.Frag} {mg : Str → Option Value} {base : Heap} (T : Txt P K mg) : FnOk P w K mg base CX0 2 T.f_is_integer T.fd_is_integer ["value", "low", "high"] (sp_isint K) := by
  refine T.F_is_integer.ok sc_is_integer (fun vs H Q E h => ?_) (fun cdv A outer s H vs Q E hr h => ?_)
  · obtain ⟨_, _, _, rfl, _⟩ := h; rfl
  · obtain ⟨v, lo, hi, rfl, h1, q⟩ := h
    refine ⟨_, PSs.nox (pss_one (ps_ret (pe_and (pe_call (ok_is_any_integer T) (hr.mono (by decide)) (by rfl) T.g_is_any_integer T.F_is_any_integer.kp (b_is_any_integer T) .nil pass0 (pa_cons (pv 0) pa_nil)) (pe_one (pe_chain op_le op_le (pv 1) (pv 0) (pv 2)))))), ?_⟩
    rcases h1 with ⟨i, rfl⟩ | h1
    · refine ⟨_, rfl, _, rfl, .inl ⟨i, rfl, _, rfl, ?_⟩⟩
      have en : inI lo hi (.int i) = (decide (lo ≤ i) && decide (i ≤ hi)) := rfl
      rw [en] at q
      refine ⟨_, rfl, _, rfl, _, _, rfl, rfl, _, rfl, ite2 (fun e1 => ?_) (fun e1 => ?_)⟩
      · rw [e1, Bool.true_and] at q
        exact ⟨_, rfl, _, _, rfl, rfl, q⟩
      · rw [Bool.eq_false_iff.mpr e1, Bool.false_and] at q
        exact q
    · rw [h1.inI] at q
      exact ⟨_, rfl, _, rfl, .inr ⟨h1, _, rfl, q⟩⟩
def sp_islist (K : PySem.W.Frag) : Sp := fun vs H Q _ => ∃ (a : Addr) (xs : List V) (lo hi : Int), vs = [.ref a, .int lo, .int hi] ∧ Sq K H a xs ∧ lo ≤ xs.length ∧ xs.length ≤ hi ∧ ∀ H', Same H H' → Q (.bl true) H'
theorem ok_is_list {P : Program} {w : World} {K : PySem.W.Frag} {mg : Str → Option Value} {base : Heap} (T : Txt P K mg) : FnOk P w K mg base CX0 1 T.f_is_list T.fd_is_list ["value", "low", "high"] (sp_islist K) := by
  refine T.F_is_list.ok sc_is_list (fun vs H Q E h => ?_) (fun cdv A outer s H vs Q E hr h => ?_)
  · obtain ⟨_, _, _, _, rfl, _⟩ := h; rfl
  · obtain ⟨a, xs, lo, hi, rfl, hS, h1, h2, q⟩ := h
    refine ⟨_, PSs.nox (pss_one (ps_ret (pe_and (pe_callB (show CallR _ _ (rIsiT K) from call_isiT) (by rfl) T.n_isinstance (by decide +kernel) (pa_cons (pv 0) (pa_cons (pe_tup (pa_cons (pe_bltn (v := .ty "list") (by rfl) T.n_list (by decide +kernel) rfl) (pa_cons (pe_bltn (v := .ty "tuple") (by rfl) T.n_tuple (by decide +kernel) rfl) pa_nil))) pa_nil))) (pe_one (pe_chain op_le op_le (pv 1) (pe_callB (show CallR _ _ (rLenSeq K) from call_len_seq) (by rfl) T.n_len (by decide +kernel) (pa_cons (pv 0) pa_nil)) (pv 2)))))), ?_⟩
    refine ⟨_, rfl, lenk 2 rfl (by decide), fun tp ntp => ?_⟩
    have sm : Same H (upd H tp (.tup [.ty "list", .ty "tuple"])) := Same.new ntp
    have ht : upd H tp (.tup [.ty "list", .ty "tuple"]) tp = some (.tup [.ty "list", .ty "tuple"]) := upd_same
    obtain ⟨t, ty, kk⟩ := (hS.same sm).kit
    refine ⟨_, tp, _, t, _, _, rfl, ht, .cons (.ty _) (.cons (.ty _) .nil), ty, kk, _, rfl, ?_⟩
    refine ⟨_, rfl, _, rfl, a, _, rfl, (hS.same sm).sq, _, _, rfl, rfl, _, rfl, ite2 (fun e1 => ?_) (fun e1 => absurd (decide_eq_true h1) e1)⟩
    refine ⟨_, rfl, _, _, rfl, rfl, ?_⟩
    show Q (.bl (decide ((xs.length : Int) ≤ hi))) _
    rw [decide_eq_true h2]
    exact q _ sm
def sp_distinct (K : PySem.W.Frag) : Sp := fun vs H Q _ => ∃ (a : Addr) (ns : List Str), vs = [.ref a] ∧ (SqL K H a (ns.map V.str) ∨ SqT K H a (ns.map V.str)) ∧ ns.Nodup ∧ ns.length ≤ 8 ∧ ∀ H', Same H H' → Q .non H'
theorem val_none {α : Type} {l : List α} {f : α → Str} {g : α → V} {x : Str} (h : x ∉ l.map f) : valV (l.map fun y => ((Sum.inr (f y) : Key), g y)) (Sum.inr x) = none := by
  unfold valV
  rw [Option.map_eq_none_iff, List.find?_eq_none]
  intro kv hkv e
  obtain ⟨y, hy, rfl⟩ := List.mem_map.mp hkv
  exact h (List.mem_map.mpr ⟨y, hy, Sum.inr.inj (of_decide_eq_true e)⟩)
theorem not_mem_take {α : Type} {l : List α} (nd : l.Nodup) {i : Nat} (hi : i < l.length) : l[i] ∉ l.take i := by
  intro h
  obtain ⟨j, hj⟩ := List.getElem?_of_mem h
  obtain ⟨lj, gj⟩ := List.getElem?_eq_some_iff.mp hj
  rw [List.length_take] at lj
  rw [List.getElem_take] at gj
  have n1 := List.nodup_iff_pairwise_ne.mp nd
  rw [List.pairwise_iff_getElem] at n1
  exact n1 j i (by omega) hi (by omega) gj
theorem str_at' {sc : List Str} {j : Nat} {x : V} (h : (sc.map V.str)[j]? = some x) : ∃ hj : j < sc.length, x = .str sc[j] := by
  rw [List.getElem?_map] at h
  cases e : sc[j]? with
  | none => rw [e] at h; cases h
  | some y =>
    rw [e] at h
    obtain ⟨hj, ey⟩ := List.getElem?_eq_some_iff.mp e
    exact ⟨hj, by rw [ey]; exact (Option.some.inj h).symm⟩
theorem take_snoc {α : Type} {l : List α} {i : Nat} (hi : i < l.length) : l.take (i + 1) = l.take i ++ [l[i]] := by
  rw [List.take_succ, List.getElem?_eq_getElem hi]; rfl
theorem ok_check_distinct {P : Program} {w : World} {K : PySem.W.Frag} {mg : Str → Option Value} {base : Heap} (T : Txt P K mg) : FnOk P w K mg base CX0 1 T.f_check_distinct T.fd_check_distinct ["names"] (sp_distinct K) := by
  refine T.F_check_distinct.ok sc_check_distinct (fun vs H Q E h => ?_) (fun cdv A outer s H vs Q E hr h => ?_)
  · obtain ⟨_, _, rfl, _⟩ := h; rfl
  · obtain ⟨a, ns, rfl, hS, nd, n8, q⟩ := h
    refine ⟨_, PSs.nox (pss_cons (ps_set (i := 1) sc_check_distinct.nd rfl (Or.inl rfl) pe_dnewK)
      (pss_one (ps_for PassesOwn.never rfl (pi_or (pi_list (pv 0)) (pi_tup (pv 0))) (pg_name (i := 2) sc_check_distinct.nd rfl (Or.inl rfl)) (pss_cons (ps_if (pt_cmp (pc_din (hu_of hr) (pv 2) (pv 1))) (pss_one ps_never) pss_nil)
      (pss_one (ps_asg pe_bl (pg_sub (pv 1) (pv 2) (set_dict (hu_of hr))))))))), ?_⟩
    intro D nD
    refine or_walkA (fun R' h => ⟨_, rfl, h⟩) hS (fun o e => Same.new nD a o e) fun J G w g => for_it w (fun i σ H' => ∃ x2, σ = [some (.ref a), some (.ref D), x2] ∧ Same H H' ∧ H' D = some (.dK ((ns.take i).map fun x => (Sum.inr x, .bl true)))) ?_ ?_ ?_ ?_
    · exact ⟨_, rfl, Same.new nD, upd_same⟩
    · rintro i σ H' _ ⟨x2, rfl, s1, hD⟩
      exact g H' (s1 a)
    · rintro i x σ Hx H' hi ⟨x2, rfl, s1, hD⟩ ⟨rfl, hx⟩
      obtain ⟨hj, rfl⟩ := str_at' hx
      have hn := val_none (l := ns.take i) (f := id) (g := fun _ => .bl true) (x := ns[i]) (by rw [List.map_id]; exact not_mem_take nd hj)
      replace hn : valV ((ns.take i).map fun x => ((Sum.inr x : Key), V.bl true)) (Sum.inr ns[i]) = none := hn
      have dg : DGet H' D (.str ns[i]) none := by rw [← hn]; exact DGet.k (k := Sum.inr ns[i]) hD
      refine ⟨_, rfl, _, rfl, D, _, rfl, dg, _, rfl, ?_⟩
      refine ⟨_, rfl, _, rfl, D, _, rfl, DPut.k (k := Sum.inr ns[i]) hD (by rw [List.length_map, List.length_take, sizeLine_eq]; omega), ?_⟩
      refine ⟨_, rfl, Same.upd_p s1 nD, ?_⟩
      rw [upd_same, putK_new _ hn, take_snoc hj, List.map_append]
      rfl
    · rintro σ H' ⟨x2, rfl, s1, hD⟩
      exact q H' s1

end K46
namespace K46
open PySem PySem.Spec PyProof.Rows L2 TL
/-! ### bad tuples in ascending order -/
theorem code_inj {B : Int} : ∀ {r q : List Int}, r.length = q.length → TS.Bd B r → TS.Bd B q → TS.code B r ≤ TS.code B q → TS.code B q ≤ TS.code B r → r = q
  | [], [], _, _, _, _, _ => rfl
  | [], _ :: _, h, _, _, _, _ => by simp at h
  | _ :: _, [], h, _, _, _, _ => by simp at h
  | d :: r, e :: q, hl, hr, hq, h1, h2 => by
    have hl' : r.length = q.length := by simpa using hl
    have he : d = e := by
      rcases Int.lt_trichotomy d e with h | h | h
      · have := TS.code_lt (B := B) hl' hr.tail hq.tail h; omega
      · exact h
      · have := TS.code_lt (B := B) hl'.symm hq.tail hr.tail h; omega
    subst he
    have a1 : ¬ TS.code B q < TS.code B r := fun h => by have := (TS.code_same (B := B) (d := d) hl'.symm).mpr h; omega
    have a2 : ¬ TS.code B r < TS.code B q := fun h => by have := (TS.code_same (B := B) (d := d) hl').mpr h; omega
    rw [code_inj hl' hr.tail hq.tail (by omega) (by omega)]
def Srt (bad out : List (List Int)) : Prop := out.Perm bad ∧ out.Pairwise fun x y => TS.code 6 x ≤ TS.code 6 y
theorem Srt.uniq {bad o1 o2 : List (List Int)} {d : Nat} (hb : ∀ ns ∈ bad, ns.length = d ∧ TS.Bd 6 ns) (h1 : Srt bad o1) (h2 : Srt bad o2) : o1 = o2 :=
  List.Perm.eq_of_pairwise (fun a b ha hb' l1 l2 => code_inj ((hb a (h1.1.mem_iff.mp ha)).1.trans (hb b (h2.1.mem_iff.mp hb')).1.symm) (hb a (h1.1.mem_iff.mp ha)).2 (hb b (h2.1.mem_iff.mp hb')).2 l1 l2) h1.2 h2.2 (h1.1.trans h2.1.symm)
theorem row_bd {L : List (Str × Int)} (ok : VarsOk L) {r : Row} (h : RowOk L r) : ∀ ns ∈ r.2.2, ns.length = r.2.1.length ∧ TS.Bd 6 ns := fun ns hns => by
  refine ⟨h.bl ns hns, fun v hv => ?_⟩
  obtain ⟨i, hi⟩ := List.getElem?_of_mem hv
  obtain ⟨li, _⟩ := List.getElem?_eq_some_iff.mp hi
  rw [h.bl ns hns] at li
  have hx := List.getElem?_eq_getElem li
  obtain ⟨a, b⟩ := h.bv ns hns i _ v hx hi
  have := (sizes_val ok (h.sub _ (List.getElem_mem li))).2.2
  omega
def intOf : V → Int | .int i => i | _ => 0
def rdT (H : Hp) : V → List Int | .ref t => (match H t with | some (.tup vs) => vs.map intOf | _ => []) | _ => []
theorem rdT_is {H : Hp} {G : Addr → Prop} {x : V} {ns : List Int} (h : isTupI H G x ns) : rdT H x = ns := by
  obtain ⟨t, rfl, _, ht⟩ := h
  unfold rdT
  simp only [ht, List.map_map]
  have : (intOf ∘ V.int) = id := rfl
  rw [this, List.map_id]
theorem pd_mem {α β : Type} {F : α → β → Prop} : ∀ {l₁ : List α} {l₂ : List β}, Paired F l₁ l₂ → ∀ x ∈ l₁, ∃ y ∈ l₂, F x y
  | _, _, .nil, _, h => by cases h
  | _, _, .cons r t, x, h => by
    rcases List.mem_cons.mp h with rfl | h
    · exact ⟨_, List.mem_cons_self, r⟩
    · obtain ⟨y, hy, f⟩ := pd_mem t x h
      exact ⟨y, List.mem_cons_of_mem _ hy, f⟩
theorem map_rdT {H : Hp} {G : Addr → Prop} : ∀ {xs : List V} {bad : List (List Int)}, Paired (isTupI H G) xs bad → xs.map (rdT H) = bad
  | _, _, .nil => rfl
  | _, _, .cons r t => by rw [List.map_cons, rdT_is r, map_rdT t]
theorem pd_all {α β : Type} {F : α → β → Prop} (f : α → β) : ∀ {l : List α}, (∀ x ∈ l, F x (f x)) → Paired F l (l.map f)
  | [], _ => .nil
  | x :: r, h => .cons (h x List.mem_cons_self) (pd_all f fun z hz => h z (List.mem_cons_of_mem _ hz))
theorem sort_out {H : Hp} {G : Addr → Prop} {xs ys : List V} {bad : List (List Int)} (pd : Paired (isTupI H G) xs bad) (pm : ys.Perm xs) (pw : ys.Pairwise fun x y => TS.code 6 (rdT H x) ≤ TS.code 6 (rdT H y)) :
    Srt bad (ys.map (rdT H)) ∧ Paired (isTupI H G) ys (ys.map (rdT H)) := by
  refine ⟨⟨?_, ?_⟩, pd_all _ fun x hx => ?_⟩
  · rw [← map_rdT pd]; exact pm.map _
  · rw [List.pairwise_map]; exact pw
  · obtain ⟨ns, _, h⟩ := pd_mem pd x (pm.mem_iff.mp hx)
    rw [rdT_is h]; exact h
theorem sort_in {K : PySem.W.Frag} {H : Hp} {G : Addr → Prop} {xs : List V} {bad : List (List Int)} {d : Nat} (pd : Paired (isTupI H G) xs bad) (hb : ∀ ns ∈ bad, ns.length = d ∧ TS.Bd 6 ns) :
    ∀ x ∈ xs, ∃ t, x = V.ref t ∧ SqT K H t ((rdT H x).map V.int) ∧ (rdT H x).length = d ∧ TS.Bd 6 (rdT H x) := fun x hx => by
  obtain ⟨ns, hns, h⟩ := pd_mem pd x hx
  obtain ⟨h1, h2⟩ := hb ns hns
  rw [rdT_is h]
  obtain ⟨t, rfl, _, ht⟩ := h
  exact ⟨t, rfl, .inl (.inl ht), h1, h2⟩
/-! ### neighbors -/
def share (a b : List Str) : Bool := a.any fun x => decide (x ∈ b)
def nbs (R : List Row) (r : Row) : List Str := (R.filter fun s => (!decide (s.1 = r.1)) && share r.2.1 s.2.1).map (·.1)
abbrev Ent := Str × Addr × Addr
def kvS (E : List Ent) : List (Key × V) := E.map fun q => ((Sum.inr q.1 : Key), V.ref q.2.1)
def kvB (E : List Ent) : List (Key × V) := E.map fun q => ((Sum.inr q.1 : Key), V.ref q.2.2)
theorem val_map {α : Type} (f : α → Str) (g : α → V) : ∀ {l : List α} {x : α}, (l.map f).Nodup → x ∈ l → valV (l.map fun y => ((Sum.inr (f y) : Key), g y)) (Sum.inr (f x)) = some (g x)
  | y :: r, x, nd, h => by
    rw [List.map_cons, List.nodup_cons] at nd
    rcases List.mem_cons.mp h with rfl | h
    · exact valV_pos rfl
    · have ne : f y ≠ f x := fun e => nd.1 (by rw [e]; exact List.mem_map.mpr ⟨x, h, rfl⟩)
      rw [List.map_cons, valV_neg (fun z => ne (Sum.inr.inj z))]
      exact val_map f g nd.2 h
theorem Same.none {H H' : Hp} {p : Addr} (s : Same H H') (h : H' p = none) : H p = none := by
  cases e : H p with
  | none => rfl
  | some o => rw [s _ _ e] at h; cases h
def scAt (H : Hp) (q : Ent) (r : Row) : Prop := q.1 = r.1 ∧ H q.2.1 = some (.lst (r.2.1.map V.str))
theorem sc_keys {H : Hp} : ∀ {E : List Ent} {R : List Row}, Paired (scAt H) E R → E.map (·.1) = R.map (·.1)
  | _, _, .nil => rfl
  | _, _, .cons r t => by rw [List.map_cons, List.map_cons, r.1, sc_keys t]
theorem dec_vstr {x y : Str} : decide (V.str x = V.str y) = decide (x = y) := by
  by_cases h : x = y
  · subst h; simp
  · rw [decide_eq_false h, decide_eq_false fun z => h (V.str.inj z)]
def sp_nb : Sp := fun vs H Q _ => ∃ (d : Addr) (o : Obj) (E : List Ent) (R : List Row) (r : Row), vs = [.str r.1, .ref d] ∧ H d = some (.frz o (.dK (kvS E))) ∧ R.length ≤ 8 ∧ (R.map (·.1)).Nodup ∧ r ∈ R ∧ Paired (scAt H) E R ∧ (∀ r ∈ R, r.2.1.length ≤ 4) ∧
  ∀ p H', Same H H' → H p = none → H' p = some (.lst ((nbs R r).map V.str)) → Q (.ref p) H'
theorem ok__neighbors_of {P : Program} {w : World} {K : PySem.W.Frag} {mg : Str → Option Value} {base : Heap} (T : Txt P K mg) : FnOk P w K mg base CX0 1 T.f__neighbors_of T.fd__neighbors_of ["event", "scopes"] (sp_nb) := by
  refine T.F__neighbors_of.ok sc__neighbors_of (fun vs H Q E h => ?_) (fun cdv A outer s H vs Q E hr h => ?_)
  · obtain ⟨_, _, _, _, _, rfl, _⟩ := h; rfl
  · obtain ⟨d, o, E, R, r, rfl, hd, r8, nd, hr', pd, l4, qq⟩ := h
    have lE := pd.length
    have ndE : (E.map (·.1)).Nodup := by rw [sc_keys pd]; exact nd
    obtain ⟨ir, hir⟩ := List.getElem?_of_mem hr'
    obtain ⟨q, hq, eq, hsc⟩ := pd_get' pd hir
    have mq := List.mem_of_getElem? hq
    have r4 := l4 r hr'
    refine ⟨_, PSs.nox (pss_cons (ps_set (i := 2) sc__neighbors_of.nd rfl (Or.inl rfl) (pe_lst pa_nil))
      (pss_cons (ps_for PassesOwn.never rfl (pi_items (pv 1)) (pg_tup rfl (pgs_cons (pg_name (i := 3) sc__neighbors_of.nd rfl (Or.inl rfl)) (pgs_cons (pg_name (i := 4) sc__neighbors_of.nd rfl (Or.inr rfl)) pgs_nil))) (pss_one (ps_if (PW.pt (pw_and (pt_cmpR op_ne (pv 3) (pv 0) (nomark _)) (pw_and1 (pt_val (pe_callB (show CallR _ _ (rAny K) from cr_any rfl) (by rfl) T.n_any (by decide +kernel) (pa_cons (pe_lc (own := [("variable", 5)]) (g := gName 5) rfl sc__neighbors_of.nd (pi_list (pe_dget (hu_of hr) (pv 1) (pv 0) (fun _ _ => rfl))) (blkOk_by (own := [("variable", 5)]) (N := N__neighbors_of) (sc := defScope s__neighbors_of) (by decide +kernel)) (fun _ _ _ _ _ => (pg_name (i := 5) sc__neighbors_of.nd rfl (Or.inl rfl))) (fun _ _ _ _ _ => pts_nil) (fun _ _ _ _ _ => (pe_cmpR (show OpR _ (compareOp .In) (rIn K false) from op_in_seq) (pv 5) (pv 4) (by first | rfl | with_unfolding_all rfl)))) pa_nil)))))) (pss_one (ps_expr (pe_bm PySem.F.plainAttrs_list PySem.F.slot_list_append PySem.F.type_list_append mt_append (pv 2) (pa_cons (pv 3) pa_nil)))) pss_nil)))
      (pss_one (ps_ret (pv 2))))), ?_⟩
    refine ⟨Nat.zero_le _, fun p np => ?_⟩
    refine ⟨_, rfl, d, o, kvS E, rfl, Same.new np _ _ hd, for_it walk_items (fun i σ H' => ∃ x3 x4, σ = [some (.str r.1), some (.ref d), some (.ref p), x3, x4, none] ∧ Same H H' ∧ H' p = some (.lst ((nbs (R.take i) r).map V.str))) ?_ ?_ ?_ ?_⟩
    · exact ⟨_, _, rfl, Same.new np, upd_same⟩
    · rintro i σ H' _ ⟨x3, x4, rfl, s1, hp⟩
      exact s1 _ _ hd
    · rintro i x σ H1 H2 hi ⟨x3, x4, rfl, s1, hp⟩ ⟨T, y1, y2, rfl, nT, rfl, e1, e2⟩
      have li : i < E.length := by unfold kvS at hi; rwa [List.length_map] at hi
      have liR : i < R.length := by omega
      obtain ⟨w, hw, ew, hsc2⟩ := pd_get pd (List.getElem?_eq_getElem li)
      obtain ⟨_, ew2⟩ := List.getElem?_eq_some_iff.mp hw
      have eq1 : (kvS E)[i]? = some (Sum.inr w.1, V.ref E[i].2.1) := by unfold kvS; rw [List.getElem?_map, List.getElem?_eq_getElem li, ← ew]; rfl
      simp only [eq1, Option.map_some] at e1 e2
      cases e1
      cases e2
      have s2 := Same.upd_p (o := .tup [kV (Sum.inr w.1), .ref E[i].2.1]) s1 (Same.none s1 nT)
      have hp2 : upd H1 T (.tup [kV (Sum.inr w.1), .ref E[i].2.1]) p = some (.lst ((nbs (R.take i) r).map V.str)) := by rw [upd_ne (ne_of_none hp nT)]; exact hp
      have hT2 : upd H1 T (.tup [kV (Sum.inr w.1), .ref E[i].2.1]) T = some (.tup [kV (Sum.inr w.1), .ref E[i].2.1]) := upd_same
      generalize upd H1 T (.tup [kV (Sum.inr w.1), .ref E[i].2.1]) = H2 at s2 hp2 hT2
      have e3 : nbs (R.take (i + 1)) r = nbs (R.take i) r ++ (if ((!decide (w.1 = r.1)) && share r.2.1 w.2.1) = true then [w.1] else []) := by
        unfold nbs
        rw [take_snoc liR, ew2, List.filter_append, List.map_append]
        congr 1
        by_cases h : ((!decide (w.1 = r.1)) && share r.2.1 w.2.1) = true
        · rw [if_pos h, List.filter_cons, if_pos h]; rfl
        · rw [if_neg h, List.filter_cons, if_neg h]; rfl
      have skip : ((!decide (w.1 = r.1)) && share r.2.1 w.2.1) = false → nbs (R.take (i + 1)) r = nbs (R.take i) r := fun h => by rw [e3, h]; simp
      have ln : (nbs (R.take i) r).length ≤ 8 := by
        unfold nbs
        rw [List.length_map]
        have := List.length_filter_le (fun s : Row => (!decide (s.1 = r.1)) && share r.2.1 s.2.1) (R.take i)
        rw [List.length_take] at this
        omega
      refine ⟨T, _, rfl, .inl (.inl hT2), rfl, _, _, rfl, _, _, rfl, rfl, ?_⟩
      refine ⟨_, rfl, _, rfl, rfl, _, rfl, ite2 (fun c => ?_) (fun c => ⟨_, _, rfl, s2, by
        have c' : (!decide (w.1 = r.1)) = false := by rw [← dec_vstr]; exact Bool.eq_false_iff.mpr c
        rw [skip (by rw [c', Bool.false_and])]
        exact hp2⟩)⟩
      have dg : DGet H2 d (.str r.1) (some (.ref q.2.1)) := .inl ⟨kvS E, Sum.inr r.1, .inr ⟨o, s2 _ _ hd⟩, rfl, by rw [← eq]; exact (val_map (fun q => q.1) (fun q => V.ref q.2.1) ndE mq).symm⟩
      refine ⟨_, rfl, _, rfl, d, _, rfl, dg, q.2.1, rfl, ⟨_, SqL.of (s2 _ _ hsc)⟩, fun D nD => ?_⟩
      refine lc_it (walk_list (K := K) (a := q.2.1) (xs := r.2.1.map V.str)) (fun j H' => H' D = some (.lst (((r.2.1.take j).map fun x => decide (x ∈ w.2.1)).map V.bl)) ∧ Same H2 H') ⟨upd_same, Same.new nD⟩ ?_ ?_ ?_
      · rintro j H' _ ⟨h1, h3⟩
        exact SqL.of (h3 _ _ (s2 _ _ hsc))
      · rintro j x H3 H4 hj ⟨h1, h3⟩ ⟨rfl, hx⟩
        rw [List.length_map] at hj
        obtain ⟨lj, rfl⟩ := str_at' hx
        refine ⟨rfl, _, rfl, _, rfl, E[i].2.1, _, rfl, .inl (SqL.of (h3 _ _ (s2 _ _ hsc2))), rfl, flat_str _, _, h1, by rw [List.length_map, List.length_map, List.length_take, sizeLine_eq]; omega, ?_, Same.upd_p h3 nD⟩
        rw [upd_same, inV_str, take_snoc lj, List.map_append, List.map_append]; rfl
      · rintro H3 ⟨h1, h3⟩
        rw [List.length_map, List.take_length] at h1
        refine ⟨D, r.2.1.map (fun x => decide (x ∈ w.2.1)), rfl, SqL.of h1, _, rfl, ?_⟩
        have es : (r.2.1.map fun x => decide (x ∈ w.2.1)).any id = share r.2.1 w.2.1 := by unfold share; rw [List.any_map]; rfl
        rw [es]
        have c' : (!decide (w.1 = r.1)) = true := by rw [← dec_vstr]; exact c
        by_cases hs : share r.2.1 w.2.1 = true
        · rw [hs]
          refine iteT ⟨_, rfl, .inl ⟨rfl, _, SqL.of (h3 _ _ hp2)⟩, _, rfl, p, _, _, rfl, rfl, h3 _ _ hp2, by rw [List.length_map, sizeLine_eq]; omega, ?_⟩
          refine ⟨_, _, rfl, Same.upd_p (s2.trans h3) np, ?_⟩
          rw [upd_same, e3, c', hs, if_pos (show (true && true) = true from rfl), List.map_append]; rfl
        · have hs' : share r.2.1 w.2.1 = false := Bool.eq_false_iff.mpr hs
          rw [hs']
          exact iteF ⟨_, _, rfl, s2.trans h3, by rw [skip (by rw [hs', Bool.and_false])]; exact h3 _ _ hp2⟩
    · rintro σ H' ⟨x3, x4, rfl, s1, hp⟩
      refine ⟨_, rfl, qq p H' s1 np ?_⟩
      have : (kvS E).length = R.length := by unfold kvS; rw [List.length_map, lE]
      rw [this, List.take_length] at hp
      exact hp

end K46
namespace K46
open PySem PySem.Spec PyProof.Rows L2 TL
/-! ### a problem that stands -/
def pfl (av ds dp ae dsc dbt dn : Addr) : List (Str × V) :=
  putF "_neighbors" (.ref dn) (putF "_bad_tuples" (.ref dbt) (putF "_scopes" (.ref dsc) (putF "_events" (.ref ae) (putF "_places" (.ref dp) (putF "_sizes" (.ref ds) (putF "_variables" (.ref av) []))))))
section
variable (av ds dp ae dsc dbt dn : Addr)
theorem pfl_variables : (pfl av ds dp ae dsc dbt dn).lookup ("_variables" : Str) = some (.ref av) := by
  unfold pfl
  iterate 6 refine (lookup_putF ..).trans ((if_neg (by decide +kernel)).trans ?_)
  exact (lookup_putF ..).trans (if_pos rfl)
theorem pfl_sizes : (pfl av ds dp ae dsc dbt dn).lookup ("_sizes" : Str) = some (.ref ds) := by
  unfold pfl
  iterate 5 refine (lookup_putF ..).trans ((if_neg (by decide +kernel)).trans ?_)
  exact (lookup_putF ..).trans (if_pos rfl)
theorem pfl_events : (pfl av ds dp ae dsc dbt dn).lookup ("_events" : Str) = some (.ref ae) := by
  unfold pfl
  iterate 3 refine (lookup_putF ..).trans ((if_neg (by decide +kernel)).trans ?_)
  exact (lookup_putF ..).trans (if_pos rfl)
theorem pfl_scopes : (pfl av ds dp ae dsc dbt dn).lookup ("_scopes" : Str) = some (.ref dsc) := by
  unfold pfl
  iterate 2 refine (lookup_putF ..).trans ((if_neg (by decide +kernel)).trans ?_)
  exact (lookup_putF ..).trans (if_pos rfl)
theorem pfl_bad : (pfl av ds dp ae dsc dbt dn).lookup ("_bad_tuples" : Str) = some (.ref dbt) := by
  unfold pfl
  iterate 1 refine (lookup_putF ..).trans ((if_neg (by decide +kernel)).trans ?_)
  exact (lookup_putF ..).trans (if_pos rfl)
end
def isEv (H : Hp) (F : Addr → Prop) (x : V) (q : Ent) : Prop := ∃ t, x = .ref t ∧ F t ∧ H t = some (.tup [.str q.1, .ref q.2.1, .ref q.2.2])
def isEnt (H : Hp) (F G : Addr → Prop) (q : Ent) (r : Row) : Prop := q.1 = r.1 ∧ F q.2.1 ∧ F q.2.2 ∧ H q.2.1 = some (.lst (r.2.1.map V.str)) ∧ ∃ ys out, H q.2.2 = some (.lst ys) ∧ Srt r.2.2 out ∧ Paired (isTupI H G) ys out
def kvN (N : List (Str × Addr)) : List (Key × V) := N.map fun q => ((Sum.inr q.1 : Key), V.ref q.2)
def isNb (H : Hp) (F : Addr → Prop) (R : List Row) (z : Str × Addr) (r : Row) : Prop := z.1 = r.1 ∧ F z.2 ∧ H z.2 = some (.lst ((nbs R r).map V.str))
def NbAt (H : Hp) (F : Addr → Prop) (R : List Row) (dn : Addr) : Prop := ∃ N, F dn ∧ H dn = some (.dK (kvN N)) ∧ Paired (isNb H F R) N R
def kvP (L : List (Str × Int)) : List (Key × V) := (L.map (·.1)).zipIdx.map fun z => ((Sum.inr z.1 : Key), V.int ((z.2 : Nat) : Int))
def PlAt (H : Hp) (F : Addr → Prop) (L : List (Str × Int)) (dp : Addr) : Prop := F dp ∧ H dp = some (.dK (kvP L))
def IsP (C : Addr) (H : Hp) (F G : Addr → Prop) (p : Addr) (L : List (Str × Int)) (R : List Row) : Prop := ∃ (dx av ds dp ae dsc dbt dn : Addr) (E : List Ent) (xs es : List V),
  H p = some (.ins C dx (pfl av ds dp ae dsc dbt dn)) ∧ (F p ∧ F av ∧ F ds ∧ F ae ∧ F dsc ∧ F dbt ∧ NbAt H F R dn ∧ PlAt H F L dp) ∧ (H av = some (.lst xs) ∧ Paired (isPair H G) xs L) ∧ H ds = some (.dK (kvL L)) ∧
  (H ae = some (.lst es) ∧ Paired (isEv H F) es E ∧ Paired (isEnt H F G) E R) ∧ H dsc = some (.dK (kvS E)) ∧ H dbt = some (.dK (kvB E))
section
variable {C : Addr} {H H' : Hp} {F F' G W : Addr → Prop}
theorem isEv.mv {x : V} {q : Ent} (h : isEv H F x q) (m : Mv W H H') (d : ∀ a, F a → ¬ W a) : isEv H' F x q := by
  obtain ⟨t, e, f, h⟩ := h
  exact ⟨t, e, f, m _ _ (d _ f) h⟩
theorem isEnt.mv {q : Ent} {r : Row} (h : isEnt H F G q r) (m : Mv W H H') (d : ∀ a, F a → ¬ W a) (d' : ∀ a, G a → ¬ W a) : isEnt H' F G q r := by
  obtain ⟨e, f1, f2, h1, ys, out, h2, s, pd⟩ := h
  exact ⟨e, f1, f2, m _ _ (d _ f1) h1, ys, out, m _ _ (d _ f2) h2, s, Paired.mono (fun _ _ z => z.mv m d') pd⟩
theorem isEv.wk {x : V} {q : Ent} (h : isEv H F x q) (f : ∀ a, F a → F' a) : isEv H F' x q := by
  obtain ⟨t, e, g, h⟩ := h
  exact ⟨t, e, f _ g, h⟩
theorem isEnt.wk {q : Ent} {r : Row} (h : isEnt H F G q r) (f : ∀ a, F a → F' a) : isEnt H F' G q r := by
  obtain ⟨e, f1, f2, h1, h2⟩ := h
  exact ⟨e, f _ f1, f _ f2, h1, h2⟩
theorem isNb.mv {R : List Row} {z : Str × Addr} {r : Row} (h : isNb H F R z r) (m : Mv W H H') (d : ∀ a, F a → ¬ W a) : isNb H' F R z r := ⟨h.1, h.2.1, m _ _ (d _ h.2.1) h.2.2⟩
theorem NbAt.mv {R : List Row} {dn : Addr} (h : NbAt H F R dn) (m : Mv W H H') (d : ∀ a, F a → ¬ W a) : NbAt H' F R dn := by
  obtain ⟨N, f, h1, h2⟩ := h
  exact ⟨N, f, m _ _ (d _ f) h1, Paired.mono (fun _ _ z => z.mv m d) h2⟩
theorem IsP.mv {p : Addr} {L : List (Str × Int)} {R : List Row} (h : IsP C H F G p L R) (m : Mv W H H') (d : ∀ a, F a → ¬ W a) (d' : ∀ a, G a → ¬ W a) : IsP C H' F G p L R := by
  obtain ⟨dx, av, ds, dp, ae, dsc, dbt, dn, E, xs, es, hp, ⟨f1, f2, f3, f4, f5, f6, f7⟩, ⟨h1, h2⟩, h3, ⟨h4, h5, h6⟩, h7, h8⟩ := h
  exact ⟨dx, av, ds, dp, ae, dsc, dbt, dn, E, xs, es, m _ _ (d _ f1) hp, ⟨f1, f2, f3, f4, f5, f6, f7.1.mv m d, f7.2.1, m _ _ (d _ f7.2.1) f7.2.2⟩, ⟨m _ _ (d _ f2) h1, Paired.mono (fun _ _ z => z.mv m d') h2⟩, m _ _ (d _ f3) h3,
    ⟨m _ _ (d _ f4) h4, Paired.mono (fun _ _ z => z.mv m d) h5, Paired.mono (fun _ _ z => z.mv m d d') h6⟩, m _ _ (d _ f5) h7, m _ _ (d _ f6) h8⟩
theorem IsP.same {p : Addr} {L : List (Str × Int)} {R : List Row} (h : IsP C H F G p L R) (m : Same H H') : IsP C H' F G p L R := h.mv (Mv.of_same m (W := fun _ => False)) (fun _ _ z => z) fun _ _ z => z
end
def Old (H : Hp) : Addr → Prop := fun a => ∃ o, H a = some o
def New (H : Hp) : Addr → Prop := fun a => H a = none
theorem isPair.old {H : Hp} {G : Addr → Prop} {x : V} {q : Str × Int} (h : isPair H G x q) : isPair H (Old H) x q := by
  obtain ⟨t, e, _, h⟩ := h
  exact ⟨t, e, ⟨_, h⟩, h⟩
theorem isTupI.old {H : Hp} {G : Addr → Prop} {x : V} {ns : List Int} (h : isTupI H G x ns) : isTupI H (Old H) x ns := by
  obtain ⟨t, e, _, h⟩ := h
  exact ⟨t, e, ⟨_, h⟩, h⟩
theorem LT.old {H : Hp} {F : Addr → Prop} {a : Addr} {xs : List V} (h : LT H F a xs) : LT H (Old H) a xs := ⟨h.2.elim (fun e => ⟨_, e⟩) fun e => ⟨_, e⟩, h.2⟩
theorem isRow.old {H : Hp} {F G : Addr → Prop} {x : V} {r : Row} (h : isRow H F G x r) : isRow H (Old H) (Old H) x r := by
  obtain ⟨p, a, b, ys, e, f, h, la, lb, hp⟩ := h
  exact ⟨p, a, b, ys, e, ⟨_, h⟩, h, la.old, lb.old, Paired.mono (fun _ _ z => z.old) hp⟩
theorem Mv.same_old {H H' : Hp} (s : Same H H') : ∀ a, Old H a → ∃ o, H' a = some o := fun a ⟨o, e⟩ => ⟨o, s _ _ e⟩
/-- what a dict's lock leaves -/
theorem Same.unlock {H H' : Hp} {d : Addr} {o : Obj} {u : HO} (h : H d = some u) (s : Same (upd H d (.frz o u)) H') : Same H (upd H' d u) := fun a v e => by
  by_cases ha : a = d
  · subst ha
    rw [h] at e
    cases e
    exact upd_same
  · rw [upd_ne ha]
    exact s a v (by rw [upd_ne ha]; exact e)
theorem frz_at {H H' : Hp} {d : Addr} {o : Obj} {u : HO} (s : Same (upd H d (.frz o u)) H') : H' d = some (.frz o u) := s _ _ upd_same
theorem kvL_take_len (L : List (Str × Int)) (i : Nat) : (kvL (L.take i)).length ≤ L.length := by
  unfold kvL; rw [List.length_map, List.length_take]; omega
theorem kvL_put {L : List (Str × Int)} (nd : (L.map (·.1)).Nodup) {i : Nat} (hi : i < L.length) : putK (kvL (L.take i)) (Sum.inr L[i].1) (.int L[i].2) = kvL (L.take (i + 1)) := by
  have hn := val_none (l := L.take i) (f := fun q => q.1) (g := fun q => V.int q.2) (x := L[i].1) (by
    have h := not_mem_take nd (i := i) (by rw [List.length_map]; exact hi)
    rw [List.getElem_map, ← List.map_take] at h
    exact h)
  unfold kvL
  rw [putK_new _ hn, take_snoc hi, List.map_append]
  rfl
theorem ent_put {g : Ent → V} {E : List Ent} (nd : (E.map (·.1)).Nodup) {i : Nat} (hi : i < E.length) : putK ((E.take i).map fun q => ((Sum.inr q.1 : Key), g q)) (Sum.inr E[i].1) (g E[i]) = (E.take (i + 1)).map fun q => ((Sum.inr q.1 : Key), g q) := by
  have hn := val_none (l := E.take i) (f := fun q => q.1) (g := g) (x := E[i].1) (by
    have h := not_mem_take nd (i := i) (by rw [List.length_map]; exact hi)
    rw [List.getElem_map, ← List.map_take] at h
    exact h)
  rw [putK_new _ hn, take_snoc hi, List.map_append]
  rfl

theorem kvP_snoc (L : List (Str × Int)) (q : Str × Int) : kvP (L ++ [q]) = kvP L ++ [((Sum.inr q.1 : Key), V.int ((L.length : Nat) : Int))] := by
  unfold kvP
  rw [List.map_append, List.zipIdx_append, List.map_append]
  simp
theorem zip_fst : ∀ (l : List Str) (k : Nat), (l.zipIdx k).map (fun z => (Sum.inr z.1 : Key)) = l.map Sum.inr
  | [], _ => rfl
  | x :: r, k => by rw [List.zipIdx_cons, List.map_cons, List.map_cons, zip_fst r (k + 1)]
theorem kvP_keys (L : List (Str × Int)) : (kvP L).map (·.1) = (L.map (·.1)).map Sum.inr := by
  unfold kvP
  rw [List.map_map]
  exact zip_fst _ 0
theorem kvP_len (L : List (Str × Int)) : (kvP L).length = L.length := by
  unfold kvP; simp
theorem kvP_put {L : List (Str × Int)} (nd : (L.map (·.1)).Nodup) {i : Nat} (hi : i < L.length) : putK (kvP (L.take i)) (Sum.inr L[i].1) (.int (i : Nat)) = kvP (L.take (i + 1)) := by
  have hn : valV (kvP (L.take i)) (Sum.inr L[i].1) = none := by
    unfold valV
    rw [Option.map_eq_none_iff, List.find?_eq_none]
    intro kv hkv e
    have h1 : kv.1 ∈ (kvP (L.take i)).map (·.1) := List.mem_map.mpr ⟨kv, hkv, rfl⟩
    rw [of_decide_eq_true e, kvP_keys] at h1
    obtain ⟨y, hy, e2⟩ := List.mem_map.mp h1
    cases (Sum.inr.inj e2)
    have h := not_mem_take nd (i := i) (by rw [List.length_map]; exact hi)
    rw [List.getElem_map, ← List.map_take] at h
    exact h hy
  rw [putK_new _ hn, take_snoc hi, kvP_snoc, List.length_take, Nat.min_eq_left (Nat.le_of_lt hi)]

end K46
namespace K46
open PySem PySem.Spec PyProof.Rows L2 TL
/-! ### the checks of variables and events, of good ones -/
def sp_vrow : Sp := fun vs H Q _ => ∃ (t : Addr) (q : Str × Int), vs = [.ref t] ∧ H t = some (.tup [.str q.1, .int q.2]) ∧ NameOk q.1 ∧ 1 ≤ q.2 ∧ q.2 ≤ 6 ∧ ∀ H', Same H H' → Q (.bl true) H'
theorem ok__is_variable_row {P : Program} {w : World} {K : PySem.W.Frag} {mg : Str → Option Value} {base : Heap} (T : Txt P K mg) : FnOk P w K mg base CX0 3 T.f__is_variable_row T.fd__is_variable_row ["row"] (sp_vrow) := by
  refine T.F__is_variable_row.ok sc__is_variable_row (fun vs H Q E h => ?_) (fun cdv A outer s H vs Q E hr h => ?_)
  · obtain ⟨_, _, rfl, _⟩ := h; rfl
  · obtain ⟨t, q, rfl, ht, hn, h1, h6, qq⟩ := h
    refine ⟨_, PSs.nox (pss_one (ps_ret (pe_and (pe_callB (show CallR _ _ (rIsi K) from call_isi) (by rfl) T.n_isinstance (by decide +kernel) (pa_cons (pv 0) (pa_cons (pe_bltn (v := .ty "tuple") (by rfl) T.n_tuple (by decide +kernel) rfl) pa_nil))) (pe_and (pe_cmpR op_eq (pe_callB (show CallR _ _ (rLenSeq K) from call_len_seq) (by rfl) T.n_len (by decide +kernel) (pa_cons (pv 0) pa_nil)) pe_int (nomark _)) (pe_and (pe_call (ok_is_name T) (hr.mono (by decide)) (by rfl) T.g_is_name T.F_is_name.kp (b_is_name T) .nil pass0 (pa_cons (pe_ix (show IxR _ (rIxT K) from ix_tup) (pv 0) pe_int (fun _ _ => rfl)) pa_nil)) (pe_one (pe_call (ok_is_integer T) (hr.mono (by decide)) (by rfl) T.g_is_integer T.F_is_integer.kp (b_is_integer T) .nil pass0 (pa_cons (pe_ix (show IxR _ (rIxT K) from ix_tup) (pv 0) pe_int (fun _ _ => rfl)) (pa_cons pe_int (pa_cons pe_int pa_nil)))))))))), ?_⟩
    refine ⟨_, rfl, _, _, _, _, _, rfl, .ty _, .base (.tup ht), kit_tt, _, rfl, ?_⟩
    refine ⟨_, rfl, t, _, rfl, .inr (.inl (.inl ht)), rfl, _, rfl, ?_⟩
    refine ⟨_, rfl, t, _, (0 : Int), _, rfl, rfl, .inl (.inl ht), rfl, q.1, rfl, hn, fun H1 s1 => ?_⟩
    have ht1 := s1 _ _ ht
    refine ⟨_, rfl, ?_⟩
    refine ⟨_, rfl, t, _, (1 : Int), _, rfl, rfl, .inl (.inl ht1), rfl, .int q.2, 1, 6, rfl, .inl ⟨q.2, rfl⟩, by show Q (.bl (decide (1 ≤ q.2) && decide (q.2 ≤ 6))) H1; rw [decide_eq_true h1, decide_eq_true h6]; exact qq _ s1⟩
def sp_vars (K : PySem.W.Frag) : Sp := fun vs H Q _ => ∃ (a : Addr) (xs : List V) (G : Addr → Prop) (L : List (Str × Int)), vs = [.ref a] ∧ Sq K H a xs ∧ Paired (isPair H G) xs L ∧ VarsOk L ∧ ∀ H', Same H H' → Q .non H'
theorem ok__check_variables {P : Program} {w : World} {K : PySem.W.Frag} {mg : Str → Option Value} {base : Heap} (T : Txt P K mg) : FnOk P w K mg base CX0 4 T.f__check_variables T.fd__check_variables ["variables"] (sp_vars K) := by
  refine T.F__check_variables.ok sc__check_variables (fun vs H Q E h => ?_) (fun cdv A outer s H vs Q E hr h => ?_)
  · obtain ⟨_, _, _, _, rfl, _⟩ := h; rfl
  · obtain ⟨a, xs, G, L, rfl, hS, pd, ok, q⟩ := h
    have lxs := pd.length
    have h1 := ok.pos
    have h8 := ok.few
    refine ⟨_, PSs.nox (pss_cons (ps_if (PW.pt (pw_or (pt_not (pt_val (pe_call (ok_is_list T) (hr.mono (by decide)) (by rfl) T.g_is_list T.F_is_list.kp (b_is_list T) .nil pass0 (pa_cons (pv 0) (pa_cons pe_int (pa_cons (pe_glob (v := .int 8) (by rfl) T.c_MOST_VARIABLES.choose_spec ⟨_, rfl⟩) pa_nil)))))) (pw_or1 (pt_not (pt_val (pe_callB (show CallR _ _ (rAll K) from cr_all rfl) (by rfl) T.n_all (by decide +kernel) (pa_cons (pe_lc (own := [("row", 3)]) (g := gName 3) rfl sc__check_variables.nd (pi_or (pi_list (pv 0)) (pi_tup (pv 0))) (blkOk_by (own := [("row", 3)]) (N := N__check_variables) (sc := defScope s__check_variables) (by decide +kernel)) (fun _ _ _ _ _ => (pg_name (i := 3) sc__check_variables.nd rfl (Or.inl rfl))) (fun _ _ _ _ _ => pts_nil) (fun _ _ _ _ _ => (pe_call (ok__is_variable_row T) (hr.mono (by decide)) (by rfl) T.g__is_variable_row T.F__is_variable_row.kp (b__is_variable_row T) .nil pass0 (pa_cons (pv 3) pa_nil)))) pa_nil))))))) (pss_one ps_never) pss_nil)
      (pss_one (ps_expr (pe_call (ok_check_distinct T) (hr.mono (by decide)) (by rfl) T.g_check_distinct T.F_check_distinct.kp (b_check_distinct T) .nil pass0 (pa_cons (pe_lc (own := [("name", 1), ("_", 2)]) (g := gTup K 2 (gCons (gName 1) (gCons (gName 2) gNil))) rfl sc__check_variables.nd (pi_or (pi_list (pv 0)) (pi_tup (pv 0))) (blkOk_by (own := [("name", 1), ("_", 2)]) (N := N__check_variables) (sc := defScope s__check_variables) (by decide +kernel)) (fun _ _ _ _ _ => (pg_tup rfl (pgs_cons (pg_name (i := 1) sc__check_variables.nd rfl (Or.inl rfl)) (pgs_cons (pg_name (i := 2) sc__check_variables.nd rfl (Or.inl rfl)) pgs_nil)))) (fun _ _ _ _ _ => pts_nil) (fun _ _ _ _ _ => (pv 1))) pa_nil))))), ?_⟩
    refine ⟨_, rfl, a, xs, 1, 8, rfl, hS, by omega, by omega, fun H1 s1 => ?_⟩
    refine ⟨_, rfl, ?_⟩
    refine or_walkA (fun R' h => ⟨_, rfl, h⟩) hS.sq (s1 a) fun J G1 w g D nD => ?_
    refine lc_it w (fun i H' => H' D = some (.lst (List.replicate i (.bl true))) ∧ Same H1 H') ⟨upd_same, Same.new nD⟩ (fun i H' _ p => g H' fun o e => p.2 a o (s1 a o e)) ?_ ?_
    · rintro i x H2 H3 hi ⟨p1, p2⟩ ⟨rfl, hx⟩
      obtain ⟨y, hy, t, rfl, _, ht⟩ := pd_get pd hx
      refine ⟨rfl, _, rfl, t, y, rfl, p2 _ _ (s1 _ _ ht), ok.nm y (List.mem_of_getElem? hy), (ok.sz y (List.mem_of_getElem? hy)).1, (ok.sz y (List.mem_of_getElem? hy)).2, fun H4 s4 => ?_⟩
      exact ⟨_, s4 _ _ p1, by rw [List.length_replicate, sizeLine_eq]; omega, by rw [upd_same, List.replicate_succ'], Same.upd_p (p2.trans s4) nD⟩
    · rintro H2 ⟨p1, p2⟩
      refine ⟨D, List.replicate xs.length true, rfl, SqL.of (by rw [p1, List.map_replicate]), ?_⟩
      have e : (List.replicate xs.length true).all id = true := by simp
      rw [e]
      refine ⟨_, rfl, ?_⟩
      have s2 := s1.trans p2
      refine or_walkA (fun R' h => ⟨_, rfl, h⟩) hS.sq (s2 a) fun J2 G2 w2 g2 D2 nD2 => ?_
      refine lc_it w2 (fun i H' => H' D2 = some (.lst ((L.take i).map fun z => V.str z.1)) ∧ Same H2 H') ⟨upd_same, Same.new nD2⟩ (fun i H' _ p => g2 H' fun o e => p.2 a o (s2 a o e)) ?_ ?_
      · rintro i x H3 H4 hi ⟨r1, r2⟩ ⟨rfl, hx⟩
        obtain ⟨y, hy, t, rfl, _, ht⟩ := pd_get pd hx
        have ht3 := r2 _ _ (s2 _ _ ht)
        refine ⟨t, _, rfl, .inl (.inl ht3), rfl, _, _, rfl, _, _, rfl, rfl, rfl, _, rfl, _, r1, by rw [List.length_map, List.length_take, sizeLine_eq]; omega, ?_, Same.upd_p r2 nD2⟩
        obtain ⟨li, ey⟩ := List.getElem?_eq_some_iff.mp hy
        rw [upd_same, take_snoc li, List.map_append, ey]; rfl
      · rintro H3 ⟨r1, r2⟩
        rw [lxs, List.take_length, show (L.map fun z => V.str z.1) = (L.map (·.1)).map V.str by rw [List.map_map]; rfl] at r1
        exact ⟨D2, L.map (·.1), rfl, .inl (SqL.of r1), ok.nd, by rw [List.length_map]; omega, fun H4 s4 => q H4 ((s2.trans r2).trans s4)⟩
def sp_var : Sp := fun vs H Q _ => ∃ (x : Str) (d : Addr) (kvs : List (Key × V)) (v : V), vs = [.str x, .ref d] ∧ H d = some (.dK kvs) ∧ valV kvs (Sum.inr x) = some v ∧ Q .non H
theorem ok__check_variable {P : Program} {w : World} {K : PySem.W.Frag} {mg : Str → Option Value} {base : Heap} (T : Txt P K mg) : FnOk P w K mg base CX0 1 T.f__check_variable T.fd__check_variable ["value", "sizes"] (sp_var) := by
  refine T.F__check_variable.ok sc__check_variable (fun vs H Q E h => ?_) (fun cdv A outer s H vs Q E hr h => ?_)
  · obtain ⟨_, _, _, _, rfl, _⟩ := h; rfl
  · obtain ⟨x, d, kvs, v, rfl, hd, hv, q⟩ := h
    refine ⟨_, PSs.nox (pss_one (ps_if (PW.pt (pw_or (pt_not (pt_val (pe_callB (show CallR _ _ (rIsi K) from call_isi) (by rfl) T.n_isinstance (by decide +kernel) (pa_cons (pv 0) (pa_cons (pe_bltn (v := .ty "str") (by rfl) T.n_str (by decide +kernel) rfl) pa_nil))))) (pw_or1 (pt_cmp (pc_dnotin (hu_of hr) (pv 0) (pv 1)))))) (pss_one ps_never) pss_nil)), ?_⟩
    have dg : DGet H d (.str x) (some v) := by rw [← hv]; exact DGet.k (k := Sum.inr x) hd
    exact ⟨_, rfl, _, _, _, _, _, rfl, .ty _, .base (.str _), kit_ss, _, rfl, _, rfl, _, rfl, d, _, rfl, dg, _, rfl, q⟩
def sp_chkscope (K : PySem.W.Frag) : Sp := fun vs H Q _ => ∃ (a d : Addr) (sc : List Str) (kvs : List (Key × V)), vs = [.ref a, .ref d] ∧ (SqL K H a (sc.map V.str) ∨ SqT K H a (sc.map V.str)) ∧ H d = some (.dK kvs) ∧ (∀ x ∈ sc, ∃ v, valV kvs (Sum.inr x) = some v) ∧ sc.Nodup ∧ sc.length ≤ 8 ∧ ∀ H', Same H H' → Q .non H'
theorem ok__check_scope {P : Program} {w : World} {K : PySem.W.Frag} {mg : Str → Option Value} {base : Heap} (T : Txt P K mg) : FnOk P w K mg base CX0 2 T.f__check_scope T.fd__check_scope ["scope", "sizes"] (sp_chkscope K) := by
  refine T.F__check_scope.ok sc__check_scope (fun vs H Q E h => ?_) (fun cdv A outer s H vs Q E hr h => ?_)
  · obtain ⟨_, _, _, _, rfl, _⟩ := h; rfl
  · obtain ⟨a, d, sc, kvs, rfl, hS, hd, hv, nd, s8, q⟩ := h
    refine ⟨_, PSs.nox (pss_cons (ps_for PassesOwn.never rfl (pi_or (pi_list (pv 0)) (pi_tup (pv 0))) (pg_name (i := 2) sc__check_scope.nd rfl (Or.inl rfl)) (pss_one (ps_expr (pe_call (ok__check_variable T) (hr.mono (by decide)) (by rfl) T.g__check_variable T.F__check_variable.kp (b__check_variable T) .nil pass0 (pa_cons (pv 2) (pa_cons (pv 1) pa_nil))))))
      (pss_one (ps_expr (pe_call (ok_check_distinct T) (hr.mono (by decide)) (by rfl) T.g_check_distinct T.F_check_distinct.kp (b_check_distinct T) .nil pass0 (pa_cons (pv 0) pa_nil))))), ?_⟩
    refine or_walkA (fun R' h => ⟨_, rfl, h⟩) hS (fun o e => e) fun J G w g => for_it w (fun i σ H' => ∃ x2, σ = [some (.ref a), some (.ref d), x2] ∧ H' = H) ?_ ?_ ?_ ?_
    · exact ⟨_, rfl, rfl⟩
    · rintro i σ H' _ ⟨x2, rfl, rfl⟩
      exact g _ fun o e => e
    · rintro i x σ Hx H' hi ⟨x2, rfl, rfl⟩ ⟨rfl, hx⟩
      obtain ⟨hj, rfl⟩ := str_at' hx
      obtain ⟨v, hv⟩ := hv _ (List.getElem_mem hj)
      exact ⟨_, rfl, _, rfl, _, d, kvs, v, rfl, hd, hv, _, rfl, rfl⟩
    · rintro σ H' ⟨x2, rfl, rfl⟩
      exact ⟨_, rfl, a, sc, rfl, hS, nd, s8, fun H' s' => q H' s'⟩
theorem int_at' {ns : List Int} {j : Nat} {x : V} (h : (ns.map V.int)[j]? = some x) : ∃ n, ns[j]? = some n ∧ x = .int n := by
  rw [List.getElem?_map] at h
  cases e : ns[j]? with
  | none => rw [e] at h; cases h
  | some y => rw [e] at h; exact ⟨y, rfl, (Option.some.inj h).symm⟩
/-- whether these are values, one for each of the sizes -/
def valsB (vs : List V) (zs : List Int) : Bool := decide (vs.length = zs.length) && (vs.zip zs).all fun z => inI 0 (z.2 - 1) z.1
theorem valsB_ok {ns zs : List Int} (l : ns.length = zs.length) (h : ∀ (i : Nat) (n z : Int), ns[i]? = some n → zs[i]? = some z → 0 ≤ n ∧ n < z) : valsB (ns.map V.int) zs = true := by
  unfold valsB
  rw [List.length_map, decide_eq_true l, Bool.true_and, List.all_eq_true]
  intro z hz
  obtain ⟨i, hi⟩ := List.getElem?_of_mem hz
  obtain ⟨h1, h2⟩ := List.getElem?_zip_eq_some.mp hi
  obtain ⟨n, hn, e⟩ := int_at' h1
  obtain ⟨a, b⟩ := h i n z.2 hn h2
  rw [e]
  show (decide (0 ≤ n) && decide (n ≤ z.2 - 1)) = true
  rw [decide_eq_true a, decide_eq_true (by omega)]; rfl
def sp_arevals (K : PySem.W.Frag) : Sp := fun vs H Q _ => ∃ (v : V) (p : Addr) (zs : List Int), vs = [v, .ref p] ∧ H p = some (.lst (zs.map V.int)) ∧ zs.length ≤ 8 ∧
  ((∃ ty, TyX K H v ty ∧ PySem.W.kitOne K ty (.type "tuple") = some false ∧ Q (.bl false) H) ∨
   ∃ t ws, v = .ref t ∧ H t = some (.tup ws) ∧ (∀ x ∈ ws, (∃ i, x = .int i) ∨ NotI K H x) ∧ ∀ H', Same H H' → Q (.bl (valsB ws zs)) H')
theorem ok__are_values {P : Program} {w : World} {K : PySem.W.Frag} {mg : Str → Option Value} {base : Heap} (T : Txt P K mg) : FnOk P w K mg base CX0 3 T.f__are_values T.fd__are_values ["value", "sizes"] (sp_arevals K) := by
  refine T.F__are_values.ok sc__are_values (fun vs H Q E h => ?_) (fun cdv A outer s H vs Q E hr h => ?_)
  · obtain ⟨_, _, _, rfl, _⟩ := h; rfl
  · obtain ⟨v, p, zs, rfl, hp, z8, h⟩ := h
    refine ⟨_, PSs.nox (pss_cons (ps_if (PW.pt (pw_or (pt_not (pt_val (pe_callB (show CallR _ _ (rIsi K) from call_isi) (by rfl) T.n_isinstance (by decide +kernel) (pa_cons (pv 0) (pa_cons (pe_bltn (v := .ty "tuple") (by rfl) T.n_tuple (by decide +kernel) rfl) pa_nil))))) (pw_or1 (pt_cmpR op_ne (pe_callB (show CallR _ _ (rLenSeq K) from call_len_seq) (by rfl) T.n_len (by decide +kernel) (pa_cons (pv 0) pa_nil)) (pe_callB (show CallR _ _ (rLenSeq K) from call_len_seq) (by rfl) T.n_len (by decide +kernel) (pa_cons (pv 1) pa_nil)) (nomark _))))) (pss_one (ps_ret pe_bl)) pss_nil)
      (pss_one (ps_ret (pe_callB (show CallR _ _ (rAll K) from cr_all rfl) (by rfl) T.n_all (by decide +kernel) (pa_cons (pe_lc (own := [("item", 2), ("size", 3)]) (g := gTup K 2 (gCons (gName 2) (gCons (gName 3) gNil))) rfl sc__are_values.nd (pi_zipM (by rfl) T.n_zip (pa_cons (pv 0) (pa_cons (pv 1) pa_nil))) (blkOk_by (own := [("item", 2), ("size", 3)]) (N := N__are_values) (sc := defScope s__are_values) (by decide +kernel)) (fun _ _ _ _ _ => (pg_tup rfl (pgs_cons (pg_name (i := 2) sc__are_values.nd rfl (Or.inl rfl)) (pgs_cons (pg_name (i := 3) sc__are_values.nd rfl (Or.inl rfl)) pgs_nil)))) (fun _ _ _ _ _ => pts_nil) (fun _ _ _ _ _ => (pe_call (ok_is_integer T) (hr.mono (by decide)) (by rfl) T.g_is_integer T.F_is_integer.kp (b_is_integer T) .nil pass0 (pa_cons (pv 2) (pa_cons pe_int (pa_cons (pe_op op_sub (pv 3) pe_int) pa_nil)))))) pa_nil))))), ?_⟩
    rcases h with ⟨ty, hty, k, q⟩ | ⟨t, ws, rfl, ht, hw, q⟩
    · exact ⟨_, rfl, _, _, ty, _, _, rfl, .ty _, hty, k, _, rfl, q⟩
    · refine ⟨_, rfl, _, _, _, _, _, rfl, .ty _, .base (.tup ht), kit_tt, _, rfl, ?_⟩
      refine ⟨_, rfl, t, _, rfl, .inr (.inl (.inl ht)), _, rfl, p, _, rfl, .inl (SqL.of hp), rfl, _, rfl, ite2 (fun e => ?_) (fun e => ?_)⟩
      · have ne : ¬ ws.length = zs.length := fun z => by rw [List.length_map, z] at e; simp at e
        have en : valsB ws zs = false := by unfold valsB; rw [decide_eq_false ne, Bool.false_and]
        rw [en] at q
        exact q H (Same.refl H)
      · have el : ws.length = zs.length := by
          rw [List.length_map] at e
          simp at e
          omega
        refine ⟨_, rfl, _, rfl, t, p, _, _, rfl, .inl (.inl ht), SqL.of hp, fun D nD => ?_⟩
        have mn : min ws.length (zs.map V.int).length = zs.length := by rw [List.length_map, el, Nat.min_self]
        refine lc_it walk_zipM (fun i H' => H' D = some (.lst ((((ws.zip zs).take i).map fun z => inI 0 (z.2 - 1) z.1).map V.bl)) ∧ Same H H') ⟨upd_same, Same.new nD⟩ (fun i H' _ p' => ⟨.inl (.inl (p'.2 _ _ ht)), SqL.of (p'.2 _ _ hp)⟩) ?_ ?_
        · rintro i x H2 H3 hi ⟨p1, p2⟩ ⟨T', x1, x2, rfl, nT, rfl, e1, e2⟩
          obtain ⟨z, hz, rfl⟩ := int_at' e2
          have mx := hw x1 (List.mem_of_getElem? e1)
          have li : i < (ws.zip zs).length := by rw [List.length_zip]; rw [List.length_map] at hi; exact hi
          have ez : (ws.zip zs)[i] = (x1, z) := by
            have := List.getElem?_zip_eq_some.mpr ⟨(show ws[i]? = some (x1, z).1 from e1), (show zs[i]? = some (x1, z).2 from hz)⟩
            exact (List.getElem?_eq_some_iff.mp this).2
          have hDT : upd H2 T' (.tup [x1, .int z]) D = some (.lst ((((ws.zip zs).take i).map fun z => inI 0 (z.2 - 1) z.1).map V.bl)) := by rw [upd_ne (ne_of_none p1 nT)]; exact p1
          have s3 := p2.trans (Same.new (o := .tup [x1, .int z]) nT)
          refine ⟨T', _, rfl, .inl (.inl upd_same), rfl, _, _, rfl, _, _, rfl, rfl, rfl, ?_⟩
          refine ⟨_, rfl, _, rfl, _, _, rfl, rfl, x1, 0, z - 1, rfl, mx.imp id fun h => h.same s3, ?_⟩
          refine ⟨_, hDT, by rw [List.length_map, List.length_map, List.length_take, sizeLine_eq]; omega, ?_, Same.upd_p s3 nD⟩
          rw [upd_same, take_snoc li, ez, List.map_append, List.map_append]; rfl
        · rintro H2 ⟨p1, p2⟩
          have lz : (ws.zip zs).length = min ws.length (zs.map V.int).length := by rw [List.length_zip, List.length_map]
          rw [← lz, List.take_length] at p1
          refine ⟨D, (ws.zip zs).map (fun z => inI 0 (z.2 - 1) z.1), rfl, SqL.of p1, ?_⟩
          have en : ((ws.zip zs).map fun z => inI 0 (z.2 - 1) z.1).all id = valsB ws zs := by
            unfold valsB; rw [decide_eq_true el, Bool.true_and, List.all_map]; rfl
          rw [en]
          exact q H2 p2

end K46
namespace K46
open PySem PySem.Spec PyProof.Rows L2 TL
theorem sizes_zs {L : List (Str × Int)} (ok : VarsOk L) {sc : List Str} (h : ∀ x ∈ sc, x ∈ L.map (·.1)) : ∀ x ∈ sc, valV (kvL L) (Sum.inr x) = some (.int (sizeOf L x)) := fun x hx => (sizes_val ok (h x hx)).1
def sp_arebad (K : PySem.W.Frag) : Sp := fun vs H Q _ => ∃ (a p : Addr) (ys : List V) (bad : List (List Int)) (G : Addr → Prop) (zs : List Int), vs = [.ref a, .ref p] ∧ Sq K H a ys ∧ Paired (isTupI H G) ys bad ∧ H p = some (.lst (zs.map V.int)) ∧ zs.length ≤ 8 ∧ bad.length ≤ 12 ∧ bad.Nodup ∧ (∀ ns ∈ bad, ns.length = zs.length) ∧
  (∀ ns ∈ bad, ∀ (i : Nat) (n z : Int), ns[i]? = some n → zs[i]? = some z → 0 ≤ n ∧ n < z) ∧ ∀ H', Same H H' → Q (.bl true) H'
theorem pd_take {α β : Type} {F : α → β → Prop} : ∀ {l₁ : List α} {l₂ : List β} (i : Nat), Paired F l₁ l₂ → Paired F (l₁.take i) (l₂.take i)
  | _, _, 0, _ => by simp only [List.take_zero]; exact .nil
  | _, _, _ + 1, .nil => .nil
  | _, _, i + 1, .cons r t => .cons r (pd_take i t)
theorem ok__are_bad_tuples {P : Program} {w : World} {K : PySem.W.Frag} {mg : Str → Option Value} {base : Heap} (T : Txt P K mg) : FnOk P w K mg base CX0 4 T.f__are_bad_tuples T.fd__are_bad_tuples ["bad_tuples", "sizes"] (sp_arebad K) := by
  refine T.F__are_bad_tuples.ok sc__are_bad_tuples (fun vs H Q E h => ?_) (fun cdv A outer s H vs Q E hr h => ?_)
  · obtain ⟨_, _, _, _, _, _, rfl, _⟩ := h; rfl
  · obtain ⟨a, p, ys, bad, G, zs, rfl, hS, pd, hp, z8, b12, nd, bl, bv, q⟩ := h
    have lys := pd.length
    refine ⟨_, PSs.nox (pss_cons (ps_set (i := 2) sc__are_bad_tuples.nd rfl (Or.inl rfl) (pe_lst pa_nil))
      (pss_cons (ps_for PassesOwn.never rfl (pi_or (pi_list (pv 0)) (pi_tup (pv 0))) (pg_name (i := 3) sc__are_bad_tuples.nd rfl (Or.inl rfl)) (pss_cons (ps_if (PW.pt (pw_or (pt_not (pt_val (pe_call (ok__are_values T) (hr.mono (by decide)) (by rfl) T.g__are_values T.F__are_values.kp (b__are_values T) .nil pass0 (pa_cons (pv 3) (pa_cons (pv 1) pa_nil))))) (pw_or1 (pt_cmpR (show OpR _ (compareOp .In) (rInD K) from op_inD (hu65 hr)) (pv 3) (pv 2) (by first | rfl | with_unfolding_all rfl))))) (pss_one (ps_ret pe_bl)) pss_nil)
      (pss_one (ps_expr (pe_bm PySem.F.plainAttrs_list PySem.F.slot_list_append PySem.F.type_list_append mt_append (pv 2) (pa_cons (pv 3) pa_nil))))))
      (pss_one (ps_ret pe_bl)))), ?_⟩
    refine ⟨Nat.zero_le _, fun l nl => ?_⟩
    refine or_walkA (fun R' h => ⟨_, rfl, h⟩) hS.sq (fun o e => Same.new nl a o e) fun J G1 w g => for_it w (fun i σ H' => ∃ x3, σ = [some (.ref a), some (.ref p), some (.ref l), x3] ∧ Same H H' ∧ H' l = some (.lst (ys.take i))) ?_ ?_ ?_ ?_
    · exact ⟨_, rfl, Same.new nl, upd_same⟩
    · rintro i σ H' _ ⟨x3, rfl, s1, hl⟩
      exact g H' (s1 a)
    · rintro i x σ Hx H' hi ⟨x3, rfl, s1, hl⟩ ⟨rfl, hx⟩
      obtain ⟨ns, hn, hT⟩ := pd_get pd hx
      obtain ⟨li, ens⟩ := List.getElem?_eq_some_iff.mp hn
      have hT' := hT
      obtain ⟨t, rfl, _, ht⟩ := hT'
      have mm := List.mem_of_getElem? hn
      refine ⟨_, rfl, _, rfl, .ref t, p, zs, rfl, s1 _ _ hp, z8, .inr ⟨t, _, rfl, s1 _ _ ht, fun x hx => (by obtain ⟨i, _, rfl⟩ := List.mem_map.mp hx; exact .inl ⟨i, rfl⟩), fun H2 s2 => ?_⟩⟩
      rw [valsB_ok (bl ns mm) (bv ns mm)]
      have s12 := s1.trans s2
      refine ⟨_, rfl, ?_⟩
      refine ⟨_, rfl, _, rfl, tupD ns, (bad.take i).map tupD, dp_tup (hT.same s12), .lst (SqL.of (s2 _ _ hl)) (dp_all (fun _ _ z => dp_tup z) (pd_take i (Paired.mono (fun _ _ z => isTupI.same z s12) pd))), (shd_tup ns).shaped (by decide), (shd_tups _).shaped (by decide), _, rfl, ?_⟩
      rw [any_tups, decide_eq_false (by rw [← ens]; exact not_mem_take nd li)]
      refine iteF ⟨_, rfl, .inl ⟨rfl, _, SqL.of (s2 _ _ hl)⟩, _, rfl, l, _, _, rfl, rfl, s2 _ _ hl, by rw [List.length_take, sizeLine_eq]; omega, ?_⟩
      obtain ⟨lj, ex⟩ := List.getElem?_eq_some_iff.mp hx
      exact ⟨_, rfl, Same.upd_p s12 nl, by rw [upd_same, take_snoc lj, ex]⟩
    · rintro σ H' ⟨x3, rfl, s1, hl⟩
      exact q H' s1
def sp_erow (K : PySem.W.Frag) : Sp := fun vs H Q _ => ∃ (t a b : Addr) (x : Str) (xs ys : List V), vs = [.ref t] ∧ H t = some (.tup [.str x, .ref a, .ref b]) ∧ NameOk x ∧ Sq K H a xs ∧ Sq K H b ys ∧ 1 ≤ xs.length ∧ xs.length ≤ 4 ∧ ys.length ≤ 12 ∧ ∀ H', Same H H' → Q (.bl true) H'
theorem ok__is_event_row {P : Program} {w : World} {K : PySem.W.Frag} {mg : Str → Option Value} {base : Heap} (T : Txt P K mg) : FnOk P w K mg base CX0 2 T.f__is_event_row T.fd__is_event_row ["row"] (sp_erow K) := by
  refine T.F__is_event_row.ok sc__is_event_row (fun vs H Q E h => ?_) (fun cdv A outer s H vs Q E hr h => ?_)
  · obtain ⟨_, _, _, _, _, _, rfl, _⟩ := h; rfl
  · obtain ⟨t, a, b, x, xs, ys, rfl, ht, hn, ha, hb, x1, x4, y12, q⟩ := h
    refine ⟨_, PSs.nox (pss_cons (ps_if (PW.pt (pw_or (pt_not (pt_val (pe_callB (show CallR _ _ (rIsi K) from call_isi) (by rfl) T.n_isinstance (by decide +kernel) (pa_cons (pv 0) (pa_cons (pe_bltn (v := .ty "tuple") (by rfl) T.n_tuple (by decide +kernel) rfl) pa_nil))))) (pw_or1 (pt_cmpR op_ne (pe_callB (show CallR _ _ (rLenSeq K) from call_len_seq) (by rfl) T.n_len (by decide +kernel) (pa_cons (pv 0) pa_nil)) pe_int (nomark _))))) (pss_one (ps_ret pe_bl)) pss_nil)
      (pss_one (ps_ret (pe_and (pe_call (ok_is_name T) (hr.mono (by decide)) (by rfl) T.g_is_name T.F_is_name.kp (b_is_name T) .nil pass0 (pa_cons (pe_ix (show IxR _ (rIxT K) from ix_tup) (pv 0) pe_int (fun _ _ => rfl)) pa_nil)) (pe_and (pe_call (ok_is_list T) (hr.mono (by decide)) (by rfl) T.g_is_list T.F_is_list.kp (b_is_list T) .nil pass0 (pa_cons (pe_ix (show IxR _ (rIxT K) from ix_tup) (pv 0) pe_int (fun _ _ => rfl)) (pa_cons pe_int (pa_cons pe_int pa_nil)))) (pe_one (pe_call (ok_is_list T) (hr.mono (by decide)) (by rfl) T.g_is_list T.F_is_list.kp (b_is_list T) .nil pass0 (pa_cons (pe_ix (show IxR _ (rIxT K) from ix_tup) (pv 0) pe_int (fun _ _ => rfl)) (pa_cons pe_int (pa_cons pe_int pa_nil)))))))))), ?_⟩
    refine ⟨_, rfl, _, _, _, _, _, rfl, .ty _, .base (.tup ht), kit_tt, _, rfl, ?_⟩
    refine ⟨_, rfl, t, _, rfl, .inr (.inl (.inl ht)), rfl, _, rfl, ?_⟩
    refine ⟨_, rfl, t, _, (0 : Int), _, rfl, rfl, .inl (.inl ht), rfl, x, rfl, hn, fun H1 s1 => ?_⟩
    refine ⟨_, rfl, ?_⟩
    refine ⟨_, rfl, t, _, (1 : Int), _, rfl, rfl, .inl (.inl (s1 _ _ ht)), rfl, a, xs, 1, 4, rfl, ha.same s1, by omega, by omega, fun H2 s2 => ?_⟩
    have s12 := s1.trans s2
    refine ⟨_, rfl, ?_⟩
    exact ⟨_, rfl, t, _, (2 : Int), _, rfl, rfl, .inl (.inl (s12 _ _ ht)), rfl, b, ys, 0, 12, rfl, hb.same s12, by omega, by omega, fun H3 s3 => q H3 (s12.trans s3)⟩
def sp_evs (K : PySem.W.Frag) : Sp := fun vs H Q _ => ∃ (a d : Addr) (xs : List V) (F G : Addr → Prop) (L : List (Str × Int)) (R : List Row), vs = [.ref a, .ref d] ∧ Sq K H a xs ∧ Paired (isRow H F G) xs R ∧ H d = some (.dK (kvL L)) ∧ VarsOk L ∧ EvsOk L R ∧ ∀ H', Same H H' → Q .non H'
theorem ok__check_events {P : Program} {w : World} {K : PySem.W.Frag} {mg : Str → Option Value} {base : Heap} (T : Txt P K mg) : FnOk P w K mg base CX0 5 T.f__check_events T.fd__check_events ["events", "sizes"] (sp_evs K) := by
  refine T.F__check_events.ok sc__check_events (fun vs H Q E h => ?_) (fun cdv A outer s H vs Q E hr h => ?_)
  · obtain ⟨_, _, _, _, _, _, _, rfl, _⟩ := h; rfl
  · obtain ⟨a, d, xs, F, G, L, R, rfl, hS, pd, hd, okL, okR, q⟩ := h
    have lxs := pd.length
    have r8 := okR.few
    refine ⟨_, PSs.nox (pss_cons (ps_if (PW.pt (pw_or (pt_not (pt_val (pe_call (ok_is_list T) (hr.mono (by decide)) (by rfl) T.g_is_list T.F_is_list.kp (b_is_list T) .nil pass0 (pa_cons (pv 0) (pa_cons pe_int (pa_cons (pe_glob (v := .int 8) (by rfl) T.c_MOST_EVENTS.choose_spec ⟨_, rfl⟩) pa_nil)))))) (pw_or1 (pt_not (pt_val (pe_callB (show CallR _ _ (rAll K) from cr_all rfl) (by rfl) T.n_all (by decide +kernel) (pa_cons (pe_lc (own := [("row", 6)]) (g := gName 6) rfl sc__check_events.nd (pi_or (pi_list (pv 0)) (pi_tup (pv 0))) (blkOk_by (own := [("row", 6)]) (N := N__check_events) (sc := defScope s__check_events) (by decide +kernel)) (fun _ _ _ _ _ => (pg_name (i := 6) sc__check_events.nd rfl (Or.inl rfl))) (fun _ _ _ _ _ => pts_nil) (fun _ _ _ _ _ => (pe_call (ok__is_event_row T) (hr.mono (by decide)) (by rfl) T.g__is_event_row T.F__is_event_row.kp (b__is_event_row T) .nil pass0 (pa_cons (pv 6) pa_nil)))) pa_nil))))))) (pss_one ps_never) pss_nil)
      (pss_cons (ps_set (i := 2) sc__check_events.nd rfl (Or.inl rfl) (pe_lst pa_nil))
      (pss_one (ps_for PassesOwn.never rfl (pi_or (pi_list (pv 0)) (pi_tup (pv 0))) (pg_tup rfl (pgs_cons (pg_name (i := 3) sc__check_events.nd rfl (Or.inl rfl)) (pgs_cons (pg_name (i := 4) sc__check_events.nd rfl (Or.inl rfl)) (pgs_cons (pg_name (i := 5) sc__check_events.nd rfl (Or.inl rfl)) pgs_nil)))) (pss_cons (ps_if (pt_cmpR (show OpR _ (compareOp .In) (rIn K false) from op_in_seq) (pv 3) (pv 2) (by first | rfl | with_unfolding_all rfl)) (pss_one ps_never) pss_nil)
      (pss_cons (ps_expr (pe_bm PySem.F.plainAttrs_list PySem.F.slot_list_append PySem.F.type_list_append mt_append (pv 2) (pa_cons (pv 3) pa_nil)))
      (pss_cons (ps_expr (pe_call (ok__check_scope T) (hr.mono (by decide)) (by rfl) T.g__check_scope T.F__check_scope.kp (b__check_scope T) .nil pass0 (pa_cons (pv 4) (pa_cons (pv 1) pa_nil))))
      (pss_one (ps_if (pt_not (pt_val (pe_call (ok__are_bad_tuples T) (hr.mono (by decide)) (by rfl) T.g__are_bad_tuples T.F__are_bad_tuples.kp (b__are_bad_tuples T) .nil pass0 (pa_cons (pv 5) (pa_cons (pe_lc (own := [("variable", 7)]) (g := gName 7) rfl sc__check_events.nd (pi_or (pi_list (pv 4)) (pi_tup (pv 4))) (blkOk_by (own := [("variable", 7)]) (N := N__check_events) (sc := defScope s__check_events) (by decide +kernel)) (fun _ _ _ _ _ => (pg_name (i := 7) sc__check_events.nd rfl (Or.inl rfl))) (fun _ _ _ _ _ => pts_nil) (fun _ _ _ _ _ => (pe_dget (hu_of hr) (pv 1) (pv 7) (fun _ _ => rfl)))) pa_nil))))) (pss_one ps_never) pss_nil))))))))), ?_⟩
    refine ⟨_, rfl, a, xs, 0, 8, rfl, hS, by omega, by omega, fun H1 s1 => ?_⟩
    refine ⟨_, rfl, ?_⟩
    refine or_walkA (fun R' h => ⟨_, rfl, h⟩) hS.sq (s1 a) fun J G1 w g D nD => ?_
    refine lc_it w (fun i H' => H' D = some (.lst (List.replicate i (.bl true))) ∧ Same H1 H') ⟨upd_same, Same.new nD⟩ (fun i H' _ p => g H' fun o e => p.2 a o (s1 a o e)) ?_ ?_
    · rintro i x H2 H3 hi ⟨p1, p2⟩ ⟨rfl, hx⟩
      obtain ⟨r, hr', t, ta, tb, ys, rfl, _, ht, la, lb, pb⟩ := pd_get pd hx
      have rok := okR.ok r (List.mem_of_getElem? hr')
      have s13 := s1.trans p2
      have k1 := rok.pos
      have k2 := rok.few
      have k3 := rok.bfew
      have k4 := pb.length
      refine ⟨rfl, _, rfl, t, ta, tb, r.1, _, ys, rfl, s13 _ _ ht, rok.nm, la.s.same s13, lb.s.same s13, by rw [List.length_map]; omega, by rw [List.length_map]; omega, by omega, fun H4 s4 => ?_⟩
      exact ⟨_, s4 _ _ p1, by rw [List.length_replicate, sizeLine_eq]; omega, by rw [upd_same, List.replicate_succ'], Same.upd_p (p2.trans s4) nD⟩
    · rintro H2 ⟨p1, p2⟩
      refine ⟨D, List.replicate xs.length true, rfl, SqL.of (by rw [p1, List.map_replicate]), ?_⟩
      have e : (List.replicate xs.length true).all id = true := by simp
      rw [e]
      refine ⟨_, rfl, ?_⟩
      have s2 := s1.trans p2
      refine ⟨Nat.zero_le _, fun l nl => ?_⟩
      have nlH : H l = none := by
        cases e : H l with
        | none => rfl
        | some o => rw [s2 _ _ e] at nl; cases nl
      refine or_walkA (fun R' h => ⟨_, rfl, h⟩) hS.sq (fun o e => (s2.trans (Same.new nl)) a o e) fun J G2 w g2 => for_it w (fun i σ H' => ∃ x3 x4 x5, σ = [some (.ref a), some (.ref d), some (.ref l), x3, x4, x5, none, none] ∧ Same H H' ∧ H' l = some (.lst ((R.take i).map fun r => V.str r.1))) ?_ ?_ ?_ ?_
      · exact ⟨_, _, _, rfl, s2.trans (Same.new nl), upd_same⟩
      · rintro i σ H' _ ⟨x3, x4, x5, rfl, s3, hl⟩
        exact g2 H' (s3 a)
      · rintro i x σ Hx H' hi ⟨x3, x4, x5, rfl, s3, hl⟩ ⟨rfl, hx⟩
        obtain ⟨r, hr', t, ta, tb, ys, rfl, _, ht, la, lb, pb⟩ := pd_get pd hx
        obtain ⟨li, er⟩ := List.getElem?_eq_some_iff.mp hr'
        have rok := okR.ok r (List.mem_of_getElem? hr')
        have nin : r.1 ∉ (R.map (·.1)).take i := by
          have := not_mem_take okR.nd (i := i) (by rw [List.length_map]; exact li)
          rw [List.getElem_map, er] at this
          exact this
        have hl2 : H' l = some (.lst (((R.map (·.1)).take i).map V.str)) := by rw [hl, ← List.map_take, List.map_map]; rfl
        have k2 := rok.few
        refine ⟨t, _, rfl, .inl (.inl (s3 _ _ ht)), rfl, _, _, rfl, _, _, rfl, _, _, rfl, rfl, ?_⟩
        refine ⟨_, rfl, _, rfl, l, _, rfl, .inl (SqL.of hl2), rfl, flat_str _, _, rfl, ?_⟩
        rw [inV_str, decide_eq_false nin]
        refine iteF ⟨_, rfl, .inl ⟨rfl, _, SqL.of hl2⟩, _, rfl, l, _, _, rfl, rfl, hl2, by rw [List.length_map, List.length_take, sizeLine_eq]; omega, ?_⟩
        have s4 := Same.upd_p (o := .lst (((R.map (·.1)).take i).map V.str ++ [V.str r.1])) s3 nlH
        have hl4 : upd H' l (.lst (((R.map (·.1)).take i).map V.str ++ [V.str r.1])) l = some (.lst ((R.take (i + 1)).map fun r => V.str r.1)) := by
          rw [upd_same, take_snoc li, List.map_append, ← List.map_take, List.map_map, er]; rfl
        generalize upd H' l (.lst (((R.map (·.1)).take i).map V.str ++ [V.str r.1])) = H4 at s4 hl4
        have hv := sizes_zs okL rok.sub
        refine ⟨_, rfl, _, rfl, ta, d, r.2.1, _, rfl, (la.s.same s4).sq, s4 _ _ hd, fun x hx => ⟨_, hv x hx⟩, rok.nd, by omega, fun H5 s5 => ?_⟩
        have s45 := s4.trans s5
        refine ⟨_, rfl, ?_⟩
        refine or_walkA (fun R' h => ⟨_, rfl, h⟩) la.s.sq (s45 ta) fun J3 G3 w3 g3 D3 nD3 => ?_
        refine lc_it w3 (fun i H' => H' D3 = some (.lst (((r.2.1.take i).map (sizeOf L)).map V.int)) ∧ Same H5 H') ⟨upd_same, Same.new nD3⟩ (fun i H' _ p => g3 H' fun o e => p.2 ta o (s45 ta o e)) ?_ ?_
        · rintro j y H6 H7 hj ⟨p1, p2⟩ ⟨rfl, hy⟩
          obtain ⟨lj, rfl⟩ := str_at' hy
          have hvj := hv _ (List.getElem_mem lj)
          have dg : DGet H7 d (.str r.2.1[j]) (some (.int (sizeOf L r.2.1[j]))) := by rw [← hvj]; exact DGet.k (k := Sum.inr r.2.1[j]) (p2 _ _ (s45 _ _ hd))
          refine ⟨rfl, _, rfl, _, rfl, d, _, rfl, dg, _, p1, by rw [List.length_map, List.length_map, List.length_take, sizeLine_eq]; omega, ?_, Same.upd_p p2 nD3⟩
          rw [upd_same, take_snoc lj, List.map_append, List.map_append]; rfl
        · rintro H6 ⟨p1, p2⟩
          rw [List.length_map, List.take_length] at p1
          have s6 := s45.trans p2
          refine ⟨tb, D3, ys, r.2.2, G, r.2.1.map (sizeOf L), rfl, lb.s.same s6, Paired.mono (fun _ _ z => isTupI.same z s6) pb, p1, by rw [List.length_map]; omega, rok.bfew, rok.bnd, fun ns hns => by rw [List.length_map]; exact rok.bl ns hns, fun ns hns k n z h1 h2 => ?_, fun H7 s7 => ?_⟩
          · rw [List.getElem?_map] at h2
            cases e : r.2.1[k]? with
            | none => rw [e] at h2; cases h2
            | some x => rw [e] at h2; cases h2; exact rok.bv ns hns k x n e h1
          · exact ⟨_, rfl, _, _, _, rfl, s6.trans s7, s7 _ _ (p2 _ _ (s5 _ _ hl4))⟩
      · rintro σ H' ⟨x3, x4, x5, rfl, s3, hl⟩
        exact q H' s3

end K46
namespace K46
open PySem PySem.Spec PyProof.Rows L2 TL
/-! ### making a problem -/
def sp_pinit (K : PySem.W.Frag) (C : Addr) : Sp := fun vs H Q _ => ∃ (H0 : Hp) (p dx a e : Addr) (xs ys : List V) (L : List (Str × Int)) (R : List Row), vs = [.ref p, .ref a, .ref e] ∧ H p = some (.ins C dx []) ∧ H0 p = none ∧ Same H0 H ∧
  Sq K H0 a xs ∧ Paired (isPair H0 (Old H0)) xs L ∧ VarsOk L ∧ Sq K H0 e ys ∧ Paired (isRow H0 (Old H0) (Old H0)) ys R ∧ EvsOk L R ∧ ∀ H', Same H0 H' → IsP C H' (New H0) (Old H0) p L R → Q .non H'
theorem same_p {H0 H : Hp} {p : Addr} {o : HO} (s : Same H0 H) (n : H0 p = none) : Same H0 (upd H p o) := Same.upd_p s n
theorem ent_keys {H : Hp} {F G : Addr → Prop} : ∀ {E : List Ent} {R : List Row}, Paired (isEnt H F G) E R → E.map (·.1) = R.map (·.1)
  | _, _, .nil => rfl
  | _, _, .cons r t => by rw [List.map_cons, List.map_cons, r.1, ent_keys t]
theorem putK_len' (c : List (Key × V)) (k : Key) (x : V) : (putK c k x).length ≤ c.length + 1 := by
  unfold putK
  split
  · rw [List.length_map]; omega
  · rw [List.length_append]; exact Nat.le_refl _
theorem ok_Problem_init {P : Program} {w : World} {K : PySem.W.Frag} {mg : Str → Option Value} {base : Heap} (T : Txt P K mg) : FnOk P w K mg base CX0 6 T.f_Problem_init T.fd_Problem_init ["self", "variables", "events"] (sp_pinit K T.C_Problem) := by
  refine T.F_Problem_init.ok sc_Problem_init (fun vs H Q E h => ?_) (fun cdv A outer s H vs Q E hr h => ?_)
  · obtain ⟨_, _, _, _, _, _, _, _, _, rfl, _⟩ := h; rfl
  · obtain ⟨H0, p, dx, a, e, xs, ys, L, R, rfl, hp, n0, s0, hA, pdL, okL, hE, pdR, okR, q⟩ := h
    have lxs := pdL.length
    have lys := pdR.length
    have l8 := okL.few
    have r8 := okR.few
    refine ⟨_, PSs.nox (pss_cons (ps_expr (pe_call (ok__check_variables T) (hr.mono (by decide)) (by rfl) T.g__check_variables T.F__check_variables.kp (b__check_variables T) .nil pass0 (pa_cons (pv 1) pa_nil)))
      (pss_cons (ps_fld (pv 0) (pe_callTy (show CallR _ _ (rListOf K) from call_list_of) (by rfl) T.n_list (by decide +kernel) (pa_cons (pv 1) pa_nil)) rfl)
      (pss_cons (ps_fld (pv 0) (pe_dc (own := [("name", 3), ("size", 4)]) (g := gTup K 2 (gCons (gName 3) (gCons (gName 4) gNil))) rfl sc_Problem_init.nd (pi_or (pi_list (pv 1)) (pi_tup (pv 1))) (blkOk_by (own := [("name", 3), ("size", 4)]) (N := N_Problem_init) (sc := defScope s_Problem_init) (by decide +kernel)) (fun _ _ _ _ _ => (pg_tup rfl (pgs_cons (pg_name (i := 3) sc_Problem_init.nd rfl (Or.inl rfl)) (pgs_cons (pg_name (i := 4) sc_Problem_init.nd rfl (Or.inl rfl)) pgs_nil)))) (fun _ _ _ _ _ => pts_nil) (fun _ _ _ _ _ => (pv 3)) (fun _ _ _ _ _ => (pv 4))) rfl)
      (pss_cons (ps_fld (pv 0) (pe_lock (pe_dc (own := [("place", 5), ("name", 3)]) (g := gTup K 2 (gCons (gName 5) (gCons (gName 3) gNil))) rfl sc_Problem_init.nd (pi_enumD (by rfl) T.n_enumerate (pa_cons (show PE _ _ (tFld K _ _) from pe_fld (pv 0) rfl) pa_nil)) (blkOk_by (own := [("place", 5), ("name", 3)]) (N := N_Problem_init) (sc := defScope s_Problem_init) (by decide +kernel)) (fun _ _ _ _ _ => (pg_tup rfl (pgs_cons (pg_name (i := 5) sc_Problem_init.nd rfl (Or.inl rfl)) (pgs_cons (pg_name (i := 3) sc_Problem_init.nd rfl (Or.inl rfl)) pgs_nil)))) (fun _ _ _ _ _ => pts_nil) (fun _ _ _ _ _ => (pv 3)) (fun _ _ _ _ _ => (pv 5)))) rfl)
      (pss_cons (ps_expr (pe_call (ok__check_events T) (hr.mono (by decide)) (by rfl) T.g__check_events T.F__check_events.kp (b__check_events T) .nil pass0 (pa_cons (pv 2) (pa_cons (show PE _ _ (tFld K _ _) from pe_fld (pv 0) rfl) pa_nil))))
      (pss_cons (ps_fld (pv 0) (pe_lc (own := [("name", 3), ("scope", 6), ("bad_tuples", 7)]) (g := gTup K 3 (gCons (gName 3) (gCons (gName 6) (gCons (gName 7) gNil)))) rfl sc_Problem_init.nd (pi_or (pi_list (pv 2)) (pi_tup (pv 2))) (blkOk_by (own := [("name", 3), ("scope", 6), ("bad_tuples", 7)]) (N := N_Problem_init) (sc := defScope s_Problem_init) (by decide +kernel)) (fun _ _ _ _ _ => (pg_tup rfl (pgs_cons (pg_name (i := 3) sc_Problem_init.nd rfl (Or.inl rfl)) (pgs_cons (pg_name (i := 6) sc_Problem_init.nd rfl (Or.inl rfl)) (pgs_cons (pg_name (i := 7) sc_Problem_init.nd rfl (Or.inl rfl)) pgs_nil))))) (fun _ _ _ _ _ => pts_nil) (fun _ _ _ _ _ => (pe_tup (pa_cons (pv 3) (pa_cons (pe_callTy (show CallR _ _ (rListOf K) from call_list_of) (by rfl) T.n_list (by decide +kernel) (pa_cons (pv 6) pa_nil)) (pa_cons (pe_callB (show CallR _ _ (rSortTT K) from cr_sortTT) (by rfl) T.n_sorted (by decide +kernel) (pa_cons (pv 7) pa_nil)) pa_nil)))))) rfl)
      (pss_cons (ps_fld (pv 0) (pe_dc (own := [("name", 3), ("scope", 6), ("_", 8)]) (g := gTup K 3 (gCons (gName 3) (gCons (gName 6) (gCons (gName 8) gNil)))) rfl sc_Problem_init.nd (pi_list (show PE _ _ (tFld K _ _) from pe_fld (pv 0) rfl)) (blkOk_by (own := [("name", 3), ("scope", 6), ("_", 8)]) (N := N_Problem_init) (sc := defScope s_Problem_init) (by decide +kernel)) (fun _ _ _ _ _ => (pg_tup rfl (pgs_cons (pg_name (i := 3) sc_Problem_init.nd rfl (Or.inl rfl)) (pgs_cons (pg_name (i := 6) sc_Problem_init.nd rfl (Or.inl rfl)) (pgs_cons (pg_name (i := 8) sc_Problem_init.nd rfl (Or.inl rfl)) pgs_nil))))) (fun _ _ _ _ _ => pts_nil) (fun _ _ _ _ _ => (pv 3)) (fun _ _ _ _ _ => (pv 6))) rfl)
      (pss_cons (ps_fld (pv 0) (pe_dc (own := [("name", 3), ("_", 8), ("bad_tuples", 7)]) (g := gTup K 3 (gCons (gName 3) (gCons (gName 8) (gCons (gName 7) gNil)))) rfl sc_Problem_init.nd (pi_list (show PE _ _ (tFld K _ _) from pe_fld (pv 0) rfl)) (blkOk_by (own := [("name", 3), ("_", 8), ("bad_tuples", 7)]) (N := N_Problem_init) (sc := defScope s_Problem_init) (by decide +kernel)) (fun _ _ _ _ _ => (pg_tup rfl (pgs_cons (pg_name (i := 3) sc_Problem_init.nd rfl (Or.inl rfl)) (pgs_cons (pg_name (i := 8) sc_Problem_init.nd rfl (Or.inl rfl)) (pgs_cons (pg_name (i := 7) sc_Problem_init.nd rfl (Or.inl rfl)) pgs_nil))))) (fun _ _ _ _ _ => pts_nil) (fun _ _ _ _ _ => (pv 3)) (fun _ _ _ _ _ => (pv 7))) rfl)
      (pss_one (ps_fld (pv 0) (pe_lock (pe_dc (own := [("name", 3)]) (g := gName 3) rfl sc_Problem_init.nd (pi_keys (show PE _ _ (tFld K _ _) from pe_fld (pv 0) rfl)) (blkOk_by (own := [("name", 3)]) (N := N_Problem_init) (sc := defScope s_Problem_init) (by decide +kernel)) (fun _ _ _ _ _ => (pg_name (i := 3) sc_Problem_init.nd rfl (Or.inl rfl))) (fun _ _ _ _ _ => pts_nil) (fun _ _ _ _ _ => (pv 3)) (fun _ _ _ _ _ => (pe_call (ok__neighbors_of T) (hr.mono (by decide)) (by rfl) T.g__neighbors_of T.F__neighbors_of.kp (b__neighbors_of T) .nil pass0 (pa_cons (pv 3) (pa_cons (show PE _ _ (tFld K _ _) from pe_fld (pv 0) rfl) pa_nil)))))) rfl)))))))))), ?_⟩
    -- the check of the variables
    refine ⟨_, rfl, a, xs, Old H0, L, rfl, hA.same s0, Paired.mono (fun _ _ z => z.same s0) pdL, okL, fun H1 s1 => ?_⟩
    have hp1 := s1 _ _ hp
    replace s1 := s0.trans s1
    clear hp s0
    -- self._variables
    refine ⟨_, rfl, a, xs, rfl, (hA.same s1).sq, fun av nav => ?_⟩
    have nvp : av ≠ p := (ne_of_none hp1 nav).symm
    refine ⟨_, rfl, p, _, dx, _, rfl, Same.new nav _ _ hp1, T.cl_Problem, T.na_Problem__variables, (by decide), ?_⟩
    have s2 := same_p (o := .ins T.C_Problem dx (putF "_variables" (.ref av) [])) (s1.trans (Same.new (o := .lst xs) nav)) n0
    have hp2 : upd (upd H1 av (.lst xs)) p (.ins T.C_Problem dx (putF "_variables" (.ref av) [])) p = some (.ins T.C_Problem dx (putF "_variables" (.ref av) [])) := upd_same
    have hav2 : upd (upd H1 av (.lst xs)) p (.ins T.C_Problem dx (putF "_variables" (.ref av) [])) av = some (.lst xs) := by rw [upd_ne nvp, upd_same]
    have nav0 := Same.none s1 nav
    generalize upd (upd H1 av (.lst xs)) p (.ins T.C_Problem dx (putF "_variables" (.ref av) [])) = H2 at s2 hp2 hav2
    clear s1 hp1 nav
    -- self._sizes
    refine or_walkA (fun R' h => ⟨_, rfl, h⟩) hA.sq (s2 a) fun J G1 w g ds nds => ?_
    refine dc_it w (fun i H' => H' ds = some (.dK (kvL (L.take i))) ∧ Same H2 H') ⟨upd_same, Same.new nds⟩ (fun i H' _ h => g H' fun o e => h.2 a o (s2 a o e)) ?_ ?_
    · rintro i x H3 H4 hi ⟨h1, h2⟩ ⟨rfl, hx⟩
      obtain ⟨y, hy, t, rfl, _, ht⟩ := pd_get pdL hx
      obtain ⟨li, ey⟩ := List.getElem?_eq_some_iff.mp hy
      have ht4 := h2 _ _ (s2 _ _ ht)
      refine ⟨t, _, rfl, .inl (.inl ht4), rfl, _, _, rfl, _, _, rfl, rfl, rfl, _, rfl, _, rfl, _, Sum.inr y.1, rfl, h1, by have := kvL_take_len L i; rw [sizeLine_eq]; omega, ?_, Same.upd_p h2 nds⟩
      rw [upd_same, ← ey, kvL_put okL.nd li]
    rintro H3 ⟨hds, s3⟩
    rw [lxs, List.take_length] at hds
    have hp3 := s3 _ _ hp2
    have hav3 := s3 _ _ hav2
    have ndp : ds ≠ p := (ne_of_none hp2 nds).symm
    refine ⟨_, rfl, p, _, dx, _, rfl, hp3, T.cl_Problem, T.na_Problem__sizes, (by show 1 < 1000; decide), ?_⟩
    have s4 := same_p (o := .ins T.C_Problem dx (putF "_sizes" (.ref ds) (putF "_variables" (.ref av) []))) (s2.trans s3) n0
    have hp4 : upd H3 p (.ins T.C_Problem dx (putF "_sizes" (.ref ds) (putF "_variables" (.ref av) []))) p = some (.ins T.C_Problem dx (putF "_sizes" (.ref ds) (putF "_variables" (.ref av) []))) := upd_same
    have hav4 : upd H3 p (.ins T.C_Problem dx (putF "_sizes" (.ref ds) (putF "_variables" (.ref av) []))) av = some (.lst xs) := by rw [upd_ne nvp]; exact hav3
    have hds4 : upd H3 p (.ins T.C_Problem dx (putF "_sizes" (.ref ds) (putF "_variables" (.ref av) []))) ds = some (.dK (kvL L)) := by rw [upd_ne ndp]; exact hds
    have nds0 := Same.none s2 nds
    generalize upd H3 p (.ins T.C_Problem dx (putF "_sizes" (.ref ds) (putF "_variables" (.ref av) []))) = H4 at s4 hp4 hav4 hds4
    clear s3 hp3 hav3 hds s2 hp2 hav2 nds
    -- self._places
    refine ⟨ds, _, hds4, trivial, fun od => ?_⟩
    refine ⟨_, rfl, p, _, dx, _, _, rfl, by rw [upd_ne (Ne.symm ndp)]; exact hp4, T.cl_Problem, T.na_Problem__sizes, (lookup_putF ..).trans (if_pos rfl), ds, od, kvL L, rfl, upd_same, fun dp ndp' => ?_⟩
    refine dc_it walk_enumD (fun i H' => H' dp = some (.dK (kvP (L.take i))) ∧ Same (upd H4 ds (.frz od (.dK (kvL L)))) H') ⟨upd_same, Same.new ndp'⟩ (fun i H' _ h => frz_at h.2) ?_ ?_
    · rintro i x H5 H6 hi ⟨h1, h2⟩ ⟨T', y1, y2, rfl, nT, rfl, e1, e2⟩
      have li : i < L.length := by unfold kvL at hi; rwa [List.length_map] at hi
      have eq1 : (kvL L)[i]? = some (Sum.inr L[i].1, V.int L[i].2) := by unfold kvL; rw [List.getElem?_map, List.getElem?_eq_getElem li]; rfl
      simp only [eq1, Option.map_some] at e1 e2
      cases e1
      cases e2
      have hdT : upd H5 T' (.tup [.int (i : Nat), kV (Sum.inr L[i].1)]) dp = some (.dK (kvP (L.take i))) := by rw [upd_ne (ne_of_none h1 nT)]; exact h1
      refine ⟨T', _, rfl, .inl (.inl upd_same), rfl, _, _, rfl, _, _, rfl, rfl, rfl, _, rfl, _, rfl, _, Sum.inr L[i].1, rfl, hdT, by rw [kvP_len, List.length_take, sizeLine_eq]; omega, ?_, Same.upd_p (h2.trans (Same.new nT)) ndp'⟩
      rw [upd_same, kvP_put okL.nd li]
    rintro H5 ⟨hdp, s5⟩
    have lkL : (kvL L).length = L.length := by unfold kvL; rw [List.length_map]
    rw [lkL, List.take_length] at hdp
    have ndpp : dp ≠ p := fun e => by rw [e, upd_ne (Ne.symm ndp), hp4] at ndp'; cases ndp'
    have nddd : dp ≠ ds := fun e => by rw [e, upd_same] at ndp'; cases ndp'
    have ndp0 : H0 dp = none := Same.none s4 (by rw [upd_ne nddd] at ndp'; exact ndp')
    refine ⟨frz_at s5, ?_⟩
    have s6 := Same.unlock hds4 s5
    have hdp6 : upd H5 ds (.dK (kvL L)) dp = some (.dK (kvP L)) := by rw [upd_ne nddd]; exact hdp
    generalize upd H5 ds (.dK (kvL L)) = H6 at s6 hdp6
    have hp6 := s6 _ _ hp4
    refine ⟨_, rfl, p, _, dx, _, rfl, hp6, T.cl_Problem, T.na_Problem__places, (by show 2 < 1000; decide), ?_⟩
    have s7 := same_p (o := .ins T.C_Problem dx (putF "_places" (.ref dp) (putF "_sizes" (.ref ds) (putF "_variables" (.ref av) [])))) (s4.trans s6) n0
    have hp7 : upd H6 p (.ins T.C_Problem dx (putF "_places" (.ref dp) (putF "_sizes" (.ref ds) (putF "_variables" (.ref av) [])))) p = some (.ins T.C_Problem dx (putF "_places" (.ref dp) (putF "_sizes" (.ref ds) (putF "_variables" (.ref av) [])))) := upd_same
    have hav7 : upd H6 p (.ins T.C_Problem dx (putF "_places" (.ref dp) (putF "_sizes" (.ref ds) (putF "_variables" (.ref av) [])))) av = some (.lst xs) := by rw [upd_ne nvp]; exact s6 _ _ hav4
    have hds7 : upd H6 p (.ins T.C_Problem dx (putF "_places" (.ref dp) (putF "_sizes" (.ref ds) (putF "_variables" (.ref av) [])))) ds = some (.dK (kvL L)) := by rw [upd_ne ndp]; exact s6 _ _ hds4
    have hdp7 : upd H6 p (.ins T.C_Problem dx (putF "_places" (.ref dp) (putF "_sizes" (.ref ds) (putF "_variables" (.ref av) [])))) dp = some (.dK (kvP L)) := by rw [upd_ne ndpp]; exact hdp6
    generalize upd H6 p (.ins T.C_Problem dx (putF "_places" (.ref dp) (putF "_sizes" (.ref ds) (putF "_variables" (.ref av) [])))) = H7 at s7 hp7 hav7 hds7 hdp7
    clear s6 hp6 s5 hdp s4 hp4 hav4 hds4 ndp'
    -- the check of the events
    refine ⟨_, rfl, _, rfl, p, _, dx, _, _, rfl, hp7, T.cl_Problem, T.na_Problem__sizes, (lookup_putF ..).trans ((if_neg (by decide +kernel)).trans ((lookup_putF ..).trans (if_pos rfl))), e, ds, ys, Old H0, Old H0, L, R, rfl, hE.same s7, Paired.mono (fun _ _ z => z.same s7) pdR, hds7, okL, okR, fun H8 s8 => ?_⟩
    have hp8 := s8 _ _ hp7
    have hav8 := s8 _ _ hav7
    have hds8 := s8 _ _ hds7
    have hdp8 := s8 _ _ hdp7
    replace s8 := s7.trans s8
    clear s7 hp7 hav7 hds7
    -- self._events
    refine or_walkA (fun R' h => ⟨_, rfl, h⟩) hE.sq (s8 e) fun J2 G2 w2 g2 ae nae => ?_
    have nep : ae ≠ p := (ne_of_none hp8 nae).symm
    have nae0 := Same.none s8 nae
    let F1 : Addr → Prop := fun t => H0 t = none ∧ t ≠ ae ∧ t ≠ p
    refine lc_it w2 (fun i H' => ∃ (es : List V) (E : List Ent), H' ae = some (.lst es) ∧ es.length = i ∧ Paired (isEv H' F1) es E ∧ Paired (isEnt H' F1 (Old H0)) E (R.take i) ∧ Same H8 H') ⟨[], [], upd_same, rfl, .nil, .nil, Same.new nae⟩ (fun i H' _ ⟨_, _, _, _, _, _, h⟩ => g2 H' fun o e' => h e o (s8 e o e')) ?_ ?_
    · rintro i x H9 H10 hi ⟨es, E, h1, h2, h3, h4, h5⟩ ⟨rfl, hx⟩
      obtain ⟨r, hr', t, ta, tb, bs, rfl, _, ht, la, lb, pb⟩ := pd_get pdR hx
      obtain ⟨li, er⟩ := List.getElem?_eq_some_iff.mp hr'
      have rok := okR.ok r (List.mem_of_getElem? hr')
      have s9 := s8.trans h5
      have k1 := rok.pos
      have k3 := rok.bfew
      have k4 := pb.length
      refine ⟨t, _, rfl, .inl (.inl (s9 _ _ ht)), rfl, _, _, rfl, _, _, rfl, _, _, rfl, rfl, rfl, ?_⟩
      refine ⟨_, rfl, _, rfl, ta, _, rfl, (la.s.same s9).sq, fun l nl => ?_⟩
      have sl := Same.new (o := .lst (r.2.1.map V.str)) nl
      have hl : upd H10 l (.lst (r.2.1.map V.str)) l = some (.lst (r.2.1.map V.str)) := upd_same
      have nl0 := Same.none s9 nl
      have nlae : l ≠ ae := (ne_of_none h1 nl).symm
      have nlp : l ≠ p := (ne_of_none (h5 _ _ hp8) nl).symm
      generalize upd H10 l (.lst (r.2.1.map V.str)) = H11 at sl hl
      have s11 := s9.trans sl
      have pb11 := Paired.mono (fun _ _ z => isTupI.same z s11) pb
      refine ⟨_, rfl, tb, bs, rdT H11, r.2.1.length, 6, rfl, (lb.s.same s11).sq, by omega, k1, sort_in pb11 (row_bd okL rok), fun out bq pm pw nq => ?_⟩
      obtain ⟨sr, pout⟩ := sort_out pb11 pm pw
      have sq := Same.new (o := .lst out) nq
      have hq : upd H11 bq (.lst out) bq = some (.lst out) := upd_same
      have nq0 := Same.none s11 nq
      have nqae : bq ≠ ae := (ne_of_none (sl _ _ h1) nq).symm
      have nqp : bq ≠ p := (ne_of_none (sl _ _ (h5 _ _ hp8)) nq).symm
      generalize upd H11 bq (.lst out) = H12 at sq hq
      refine ⟨lenk 3 rfl (by decide), fun u nu => ?_⟩
      have su := Same.new (o := .tup [.str r.1, .ref l, .ref bq]) nu
      have hu : upd H12 u (.tup [.str r.1, .ref l, .ref bq]) u = some (.tup [.str r.1, .ref l, .ref bq]) := upd_same
      have s12 := s11.trans sq
      have nu0 := Same.none s12 nu
      have nuae : u ≠ ae := (ne_of_none (sq _ _ (sl _ _ h1)) nu).symm
      have nup : u ≠ p := (ne_of_none (sq _ _ (sl _ _ (h5 _ _ hp8))) nu).symm
      generalize upd H12 u (.tup [.str r.1, .ref l, .ref bq]) = H13 at su hu
      have t13 := (sl.trans sq).trans su
      have mve : Mv (fun a => a = ae) H13 (upd H13 ae (.lst (es ++ [.ref u]))) := fun a o na e => by rw [upd_ne na]; exact e
      have oae : ∀ a, Old H0 a → ¬ a = ae := fun a ⟨o, ho⟩ ea => by rw [ea, nae0] at ho; cases ho
      refine ⟨es, t13 _ _ h1, by rw [h2, sizeLine_eq]; omega, es ++ [.ref u], E ++ [(r.1, l, bq)], upd_same, by rw [List.length_append, h2]; rfl, ?_, ?_, Same.upd_p (h5.trans t13) nae⟩
      · refine Paired.snoc (Paired.mono (fun _ _ z => ?_) h3) ?_
        · exact isEv.mv (isEv.mv z (Mv.of_same t13 (W := fun _ => False)) (fun _ _ z => z)) mve fun a ha => ha.2.1
        · exact ⟨u, rfl, ⟨nu0, nuae, nup⟩, by rw [upd_ne nuae]; exact hu⟩
      · rw [take_snoc li, er]
        refine Paired.snoc (Paired.mono (fun _ _ z => ?_) h4) ?_
        · exact isEnt.mv (isEnt.mv z (Mv.of_same t13 (W := fun _ => False)) (fun _ _ z => z) (fun _ _ z => z)) mve (fun a ha => ha.2.1) oae
        · refine ⟨rfl, ⟨nl0, nlae, nlp⟩, ⟨nq0, nqae, nqp⟩, by rw [upd_ne nlae]; exact su _ _ (sq _ _ hl), out, _, by rw [upd_ne nqae]; exact su _ _ hq, sr, Paired.mono (fun _ _ z => ?_) pout⟩
          exact isTupI.mv (isTupI.same z (sq.trans su)) mve oae
    rintro H9 ⟨es, E, hae, -, pev, pent, s9⟩
    rw [lys, List.take_length] at pent
    have hp9 := s9 _ _ hp8
    have hav9 := s9 _ _ hav8
    have hds9 := s9 _ _ hds8
    have hdp9 := s9 _ _ hdp8
    refine ⟨_, rfl, p, _, dx, _, rfl, hp9, T.cl_Problem, T.na_Problem__events, (by show 3 < 1000; decide), ?_⟩
    let fE := putF "_events" (.ref ae) (putF "_places" (.ref dp) (putF "_sizes" (.ref ds) (putF "_variables" (.ref av) [])))
    have s10 := same_p (o := .ins T.C_Problem dx fE) (s8.trans s9) n0
    have hp10 : upd H9 p (.ins T.C_Problem dx fE) p = some (.ins T.C_Problem dx fE) := upd_same
    have hav10 : upd H9 p (.ins T.C_Problem dx fE) av = some (.lst xs) := by rw [upd_ne nvp]; exact hav9
    have hds10 : upd H9 p (.ins T.C_Problem dx fE) ds = some (.dK (kvL L)) := by rw [upd_ne ndp]; exact hds9
    have hdp10 : upd H9 p (.ins T.C_Problem dx fE) dp = some (.dK (kvP L)) := by rw [upd_ne ndpp]; exact hdp9
    have hae10 : upd H9 p (.ins T.C_Problem dx fE) ae = some (.lst es) := by rw [upd_ne nep]; exact hae
    have mvp : Mv (fun a => a = p) H9 (upd H9 p (.ins T.C_Problem dx fE)) := fun a o na e => by rw [upd_ne na]; exact e
    have oap : ∀ a, Old H0 a → ¬ a = p := fun a ⟨o, ho⟩ ea => by rw [ea, n0] at ho; cases ho
    have pev10 := Paired.mono (fun _ _ z => isEv.mv z mvp fun a ha => ha.2.2) pev
    have pent10 := Paired.mono (fun _ _ z => isEnt.mv z mvp (fun a ha => ha.2.2) oap) pent
    generalize upd H9 p (.ins T.C_Problem dx fE) = H10 at s10 hp10 hav10 hds10 hdp10 hae10 pev10 pent10
    clear mvp hae pev pent s9 hp9 hav9 hds9 hp8 hav8 hds8 nae
    have ekeys := ent_keys pent10
    have end' : (E.map (·.1)).Nodup := by rw [ekeys]; exact okR.nd
    have lE := pent10.length
    have les := pev10.length
    -- self._scopes
    have evs : ∀ {H' : Hp} {i : Nat} {x : V}, Same H10 H' → es[i]? = some x → ∃ t, ∃ hi : i < E.length, x = .ref t ∧ H' t = some (.tup [.str E[i].1, .ref E[i].2.1, .ref E[i].2.2]) := fun s' hx => by
      obtain ⟨q, hq, t, e, _, ht⟩ := pd_get pev10 hx
      obtain ⟨li, eq⟩ := List.getElem?_eq_some_iff.mp hq
      exact ⟨t, li, e, by rw [eq]; exact s' _ _ ht⟩
    refine ⟨_, rfl, p, _, dx, _, _, rfl, hp10, T.cl_Problem, T.na_Problem__events, (lookup_putF ..).trans (if_pos rfl), ae, rfl, ⟨_, SqL.of hae10⟩, fun dsc ndsc => ?_⟩
    refine dc_it (walk_list (K := K) (a := ae) (xs := es)) (fun i H' => H' dsc = some (.dK (kvS (E.take i))) ∧ Same H10 H') ⟨upd_same, Same.new ndsc⟩ (fun i H' _ h => SqL.of (h.2 _ _ hae10)) ?_ ?_
    · rintro i x H11 H12 hi ⟨h1, h2⟩ ⟨rfl, hx⟩
      obtain ⟨t, li, rfl, ht⟩ := evs h2 hx
      refine ⟨t, _, rfl, .inl (.inl ht), rfl, _, _, rfl, _, _, rfl, _, _, rfl, rfl, rfl, _, rfl, _, rfl, _, Sum.inr E[i].1, rfl, h1, by unfold kvS; rw [List.length_map, List.length_take, sizeLine_eq]; omega, ?_, Same.upd_p h2 ndsc⟩
      rw [upd_same]
      exact congrArg (fun z => some (HO.dK z)) (ent_put (g := fun q => V.ref q.2.1) end' li)
    rintro H11 ⟨hdsc, s11⟩
    rw [les, List.take_length] at hdsc
    have hp11 := s11 _ _ hp10
    have nscp : dsc ≠ p := (ne_of_none hp10 ndsc).symm
    refine ⟨_, rfl, p, _, dx, _, rfl, hp11, T.cl_Problem, T.na_Problem__scopes, (by show 4 < 1000; decide), ?_⟩
    let fS := putF "_scopes" (.ref dsc) fE
    have mvp : Mv (fun a => a = p) H11 (upd H11 p (.ins T.C_Problem dx fS)) := fun a o na e => by rw [upd_ne na]; exact e
    have s12 := same_p (o := .ins T.C_Problem dx fS) (s10.trans s11) n0
    have hp12 : upd H11 p (.ins T.C_Problem dx fS) p = some (.ins T.C_Problem dx fS) := upd_same
    have hav12 := mvp _ _ nvp (s11 _ _ hav10)
    have hds12 := mvp _ _ ndp (s11 _ _ hds10)
    have hdp12 := mvp _ _ ndpp (s11 _ _ hdp10)
    have hae12 := mvp _ _ nep (s11 _ _ hae10)
    have hdsc12 := mvp _ _ nscp hdsc
    have pev12 := Paired.mono (fun _ _ z => isEv.mv (isEv.mv z (Mv.of_same s11 (W := fun _ => False)) (fun _ _ z => z)) mvp fun a ha => ha.2.2) pev10
    have pent12 := Paired.mono (fun _ _ z => isEnt.mv (isEnt.mv z (Mv.of_same s11 (W := fun _ => False)) (fun _ _ z => z) (fun _ _ z => z)) mvp (fun a ha => ha.2.2) oap) pent10
    have nsc0 := Same.none s10 ndsc
    generalize upd H11 p (.ins T.C_Problem dx fS) = H12 at mvp s12 hp12 hav12 hds12 hdp12 hae12 hdsc12 pev12 pent12
    clear mvp hdsc s11 hp11 pev10 pent10 hp10 hav10 hds10 hae10 s10 ndsc evs
    -- self._bad_tuples
    have evs : ∀ {H' : Hp} {i : Nat} {x : V}, Same H12 H' → es[i]? = some x → ∃ t, ∃ hi : i < E.length, x = .ref t ∧ H' t = some (.tup [.str E[i].1, .ref E[i].2.1, .ref E[i].2.2]) := fun s' hx => by
      obtain ⟨q, hq, t, e, _, ht⟩ := pd_get pev12 hx
      obtain ⟨li, eq⟩ := List.getElem?_eq_some_iff.mp hq
      exact ⟨t, li, e, by rw [eq]; exact s' _ _ ht⟩
    refine ⟨_, rfl, p, _, dx, _, _, rfl, hp12, T.cl_Problem, T.na_Problem__events, (lookup_putF ..).trans ((if_neg (by decide +kernel)).trans ((lookup_putF ..).trans (if_pos rfl))), ae, rfl, ⟨_, SqL.of hae12⟩, fun dbt ndbt => ?_⟩
    refine dc_it (walk_list (K := K) (a := ae) (xs := es)) (fun i H' => H' dbt = some (.dK (kvB (E.take i))) ∧ Same H12 H') ⟨upd_same, Same.new ndbt⟩ (fun i H' _ h => SqL.of (h.2 _ _ hae12)) ?_ ?_
    · rintro i x H13 H14 hi ⟨h1, h2⟩ ⟨rfl, hx⟩
      obtain ⟨t, li, rfl, ht⟩ := evs h2 hx
      refine ⟨t, _, rfl, .inl (.inl ht), rfl, _, _, rfl, _, _, rfl, _, _, rfl, rfl, rfl, _, rfl, _, rfl, _, Sum.inr E[i].1, rfl, h1, by unfold kvB; rw [List.length_map, List.length_take, sizeLine_eq]; omega, ?_, Same.upd_p h2 ndbt⟩
      rw [upd_same]
      exact congrArg (fun z => some (HO.dK z)) (ent_put (g := fun q => V.ref q.2.2) end' li)
    rintro H13 ⟨hdbt, s13⟩
    rw [les, List.take_length] at hdbt
    have hp13 := s13 _ _ hp12
    have nbtp : dbt ≠ p := (ne_of_none hp12 ndbt).symm
    refine ⟨_, rfl, p, _, dx, _, rfl, hp13, T.cl_Problem, T.na_Problem__bad_tuples, (by show 5 < 1000; decide), ?_⟩
    let fB := putF "_bad_tuples" (.ref dbt) fS
    have mvp : Mv (fun a => a = p) H13 (upd H13 p (.ins T.C_Problem dx fB)) := fun a o na e => by rw [upd_ne na]; exact e
    have s14 := same_p (o := .ins T.C_Problem dx fB) (s12.trans s13) n0
    have hp14 : upd H13 p (.ins T.C_Problem dx fB) p = some (.ins T.C_Problem dx fB) := upd_same
    have hav14 := mvp _ _ nvp (s13 _ _ hav12)
    have hds14 := mvp _ _ ndp (s13 _ _ hds12)
    have hdp14 := mvp _ _ ndpp (s13 _ _ hdp12)
    have hae14 := mvp _ _ nep (s13 _ _ hae12)
    have hdsc14 := mvp _ _ nscp (s13 _ _ hdsc12)
    have hdbt14 := mvp _ _ nbtp hdbt
    have pev14 := Paired.mono (fun _ _ z => isEv.mv (isEv.mv z (Mv.of_same s13 (W := fun _ => False)) (fun _ _ z => z)) mvp fun a ha => ha.2.2) pev12
    have pent14 := Paired.mono (fun _ _ z => isEnt.mv (isEnt.mv z (Mv.of_same s13 (W := fun _ => False)) (fun _ _ z => z) (fun _ _ z => z)) mvp (fun a ha => ha.2.2) oap) pent12
    have nbt0 := Same.none s12 ndbt
    generalize upd H13 p (.ins T.C_Problem dx fB) = H14 at mvp s14 hp14 hav14 hds14 hdp14 hae14 hdsc14 hdbt14 pev14 pent14
    clear mvp hdbt s13 hp13 pev12 pent12 hp12 hav12 hds12 hae12 hdsc12 s12 ndbt evs
    -- self._neighbors
    refine ⟨dsc, _, hdsc14, trivial, fun od2 => ?_⟩
    have hpu : upd H14 dsc (.frz od2 (.dK (kvS E))) p = some (.ins T.C_Problem dx fB) := by rw [upd_ne (Ne.symm nscp)]; exact hp14
    refine ⟨_, rfl, p, _, dx, _, _, rfl, hpu, T.cl_Problem, T.na_Problem__scopes, (lookup_putF ..).trans ((if_neg (by decide +kernel)).trans ((lookup_putF ..).trans (if_pos rfl))), dsc, od2, rfl, .inl ⟨kvS E, upd_same, fun dn ndn => ?_⟩⟩
    let F2 : Addr → Prop := fun t => H0 t = none ∧ t ≠ dn ∧ t ≠ p ∧ t ≠ dsc
    have scs : ∀ {H' : Hp}, Same (upd H14 dsc (.frz od2 (.dK (kvS E)))) H' → Paired (scAt H') E R := fun s' => Paired.mono (fun q r ⟨e1, _, _, hsc, _⟩ => ⟨e1, s' _ _ (by rw [upd_ne (ne_of hsc hdsc14 (by simp))]; exact hsc)⟩) pent14
    have ndn0 : H0 dn = none := Same.none s14 (by
      by_cases e : dn = dsc
      · rw [e, upd_same] at ndn; cases ndn
      · rw [upd_ne e] at ndn; exact ndn)
    have nndp : dn ≠ p := fun e => by rw [e, hpu] at ndn; cases ndn
    refine dc_it walk_keys (fun i H' => (∃ N : List (Str × Addr), H' dn = some (.dK (kvN N)) ∧ Paired (isNb H' F2 R) N (R.take i)) ∧ Same (upd H14 dsc (.frz od2 (.dK (kvS E)))) H') ⟨⟨[], upd_same, .nil⟩, Same.new ndn⟩ (fun i H' _ h => frz_at h.2) ?_ ?_
    · rintro i x H15 H16 hi ⟨⟨N, h1, hN⟩, h2⟩ ⟨rfl, k, v, hk, rfl⟩
      have li : i < E.length := by unfold kvS at hi; rwa [List.length_map] at hi
      have liR : i < R.length := by omega
      obtain ⟨w, hw, ew, _⟩ := pd_get pent14 (List.getElem?_eq_getElem li)
      obtain ⟨_, ew2⟩ := List.getElem?_eq_some_iff.mp hw
      have mw := List.mem_of_getElem? hw
      have eq1 : (kvS E)[i]? = some (Sum.inr w.1, V.ref E[i].2.1) := by unfold kvS; rw [List.getElem?_map, List.getElem?_eq_getElem li, ← ew]; rfl
      rw [eq1] at hk
      cases hk
      refine ⟨rfl, _, rfl, _, rfl, _, rfl, p, _, dx, _, _, rfl, h2 _ _ hpu, T.cl_Problem, T.na_Problem__scopes, (lookup_putF ..).trans ((if_neg (by decide +kernel)).trans ((lookup_putF ..).trans (if_pos rfl))), ?_⟩
      refine ⟨dsc, od2, E, R, w, rfl, frz_at h2, r8, okR.nd, mw, scs h2, fun r hr => (okR.ok r hr).few, fun p' H17 s17 np' hp' => ?_⟩
      have kN : N.map (·.1) = (R.take i).map (·.1) := by
        clear h1
        revert hN
        generalize R.take i = R'
        intro hN
        induction hN with
        | nil => rfl
        | cons r t ih => rw [List.map_cons, List.map_cons, r.1, ih]
      have hn := val_none (l := N) (f := fun q => q.1) (g := fun q => V.ref q.2) (x := w.1) (by
        rw [kN, List.map_take, ← ew2]
        have h := not_mem_take okR.nd (i := i) (by rw [List.length_map]; exact liR)
        rw [List.getElem_map] at h
        exact h)
      have lN := hN.length
      have np0 : H0 p' = none := Same.none s14 (by
        have := Same.none h2 np'
        by_cases e : p' = dsc
        · rw [e, upd_same] at this; cases this
        · rw [upd_ne e] at this; exact this)
      have nd1 : p' ≠ dn := fun e => by rw [e, h1] at np'; cases np'
      have nd2 : p' ≠ p := fun e => by rw [e, h2 _ _ hpu] at np'; cases np'
      have nd3 : p' ≠ dsc := fun e => by rw [e, frz_at h2] at np'; cases np'
      refine ⟨kvN N, Sum.inr w.1, rfl, s17 _ _ h1, by unfold kvN; rw [List.length_map, lN, List.length_take, sizeLine_eq]; omega, ⟨N ++ [(w.1, p')], ?_, ?_⟩, Same.upd_p (h2.trans s17) ndn⟩
      · rw [upd_same]; unfold kvN; rw [putK_new _ hn, List.map_append]; rfl
      · have mdn : Mv (fun a => a = dn) H17 (upd H17 dn (.dK (putK (kvN N) (Sum.inr w.1) (.ref p')))) := fun a o na e => by rw [upd_ne na]; exact e
        rw [take_snoc liR, ew2]
        refine Paired.snoc (Paired.mono (fun _ _ z => isNb.mv (isNb.mv z (Mv.of_same s17 (W := fun _ => False)) fun _ _ z => z) mdn fun a ha => ha.2.1) hN) ?_
        exact ⟨rfl, ⟨np0, nd1, nd2, nd3⟩, mdn _ _ nd1 hp'⟩
    rintro H15 ⟨⟨N, hdn, hN⟩, s15⟩
    have lkE : (kvS E).length = R.length := by unfold kvS; rw [List.length_map, lE]
    rw [lkE, List.take_length] at hN
    refine ⟨frz_at s15, ?_⟩
    have s16 := Same.unlock hdsc14 s15
    have mdsc : Mv (fun a => a = dsc) H15 (upd H15 dsc (.dK (kvS E))) := fun a o na e => by rw [upd_ne na]; exact e
    have nndsc : dn ≠ dsc := fun e => by rw [e, upd_same] at ndn; cases ndn
    have hdn16 := mdsc _ _ nndsc hdn
    have hN16 := Paired.mono (fun _ _ z => isNb.mv z mdsc fun a ha => ha.2.2.2) hN
    generalize upd H15 dsc (.dK (kvS E)) = H16 at s16 mdsc hdn16 hN16
    have hp16 := s16 _ _ hp14
    refine ⟨_, rfl, p, _, dx, _, rfl, hp16, T.cl_Problem, T.na_Problem__neighbors, (by show 6 < 1000; decide), ?_⟩
    have mvp : Mv (fun a => a = p) H16 (upd H16 p (.ins T.C_Problem dx (pfl av ds dp ae dsc dbt dn))) := fun a o na e => by rw [upd_ne na]; exact e
    have ms := Mv.of_same s16 (W := fun _ => False)
    refine q _ (same_p (s14.trans s16) n0) ⟨dx, av, ds, dp, ae, dsc, dbt, dn, E, xs, es, upd_same, ⟨n0, nav0, nds0, nae0, nsc0, nbt0, ⟨N, ndn0, mvp _ _ nndp hdn16, Paired.mono (fun _ _ z => ?_) hN16⟩, ndp0, mvp _ _ ndpp (ms _ _ id hdp14)⟩, ⟨mvp _ _ nvp (ms _ _ id hav14), ?_⟩, mvp _ _ ndp (ms _ _ id hds14), ⟨mvp _ _ nep (ms _ _ id hae14), ?_, ?_⟩, mvp _ _ nscp (ms _ _ id hdsc14), mvp _ _ nbtp (ms _ _ id hdbt14)⟩
    · obtain ⟨z1, z2, z3⟩ := isNb.mv z mvp fun a ha => ha.2.2.1
      exact ⟨z1, z2.1, z3⟩
    · exact Paired.mono (fun _ _ z => isPair.same z (same_p (s14.trans s16) n0)) pdL
    · exact Paired.mono (fun _ _ z => isEv.wk (isEv.mv (isEv.mv z ms (fun _ _ z => z)) mvp fun a ha => ha.2.2) fun a ha => ha.1) pev14
    · exact Paired.mono (fun _ _ z => isEnt.wk (isEnt.mv (isEnt.mv z ms (fun _ _ z => z) (fun _ _ z => z)) mvp (fun a ha => ha.2.2) oap) fun a ha => ha.1) pent14

end K46
namespace K46
open PySem PySem.Spec PyProof.Rows L2 TL
/-! ### equal problems, and a problem's text -/
theorem dp_strs {K : PySem.W.Frag} {H : Hp} : ∀ ns : List Str, DpAll K H (ns.map V.str) (ns.map PyData.str)
  | [] => .nil
  | n :: r => .cons (.str n) (dp_strs r)
def pairD (q : Str × Int) : PyData := .tuple [.str q.1, .int q.2]
def rowD (r : Row) : PyData := .tuple [.str r.1, .list (r.2.1.map PyData.str), .list (r.2.2.map tupD)]
theorem dp_pair {K : PySem.W.Frag} {H : Hp} {G : Addr → Prop} {x : V} {q : Str × Int} (h : isPair H G x q) : Dp K H x (pairD q) := by
  obtain ⟨t, rfl, _, h⟩ := h
  exact .tup (.inl (.inl h)) (.cons (.str _) (.cons (.int _) .nil))
theorem eqvAll_refl : ∀ {ds : List PyData}, (∀ d ∈ ds, PyData.eqv d d = true) → PyData.eqvAll ds ds = true
  | [], _ => by simp [PyData.eqvAll]
  | d :: r, h => by
    simp only [PyData.eqvAll]
    rw [h d List.mem_cons_self, eqvAll_refl fun x hx => h x (List.mem_cons_of_mem _ hx)]; rfl
theorem eqv_str (s : Str) : PyData.eqv (.str s) (.str s) = true := by simp [PyData.eqv]
theorem eqv_int (s : Int) : PyData.eqv (.int s) (.int s) = true := by simp [PyData.eqv]
theorem eqv_lst {ds : List PyData} (h : ∀ d ∈ ds, PyData.eqv d d = true) : PyData.eqv (.list ds) (.list ds) = true := by
  simp only [PyData.eqv]; exact eqvAll_refl h
theorem eqv_tp {ds : List PyData} (h : ∀ d ∈ ds, PyData.eqv d d = true) : PyData.eqv (.tuple ds) (.tuple ds) = true := by
  simp only [PyData.eqv]; exact eqvAll_refl h
theorem eqv_pair (q : Str × Int) : PyData.eqv (pairD q) (pairD q) = true := eqv_tp (allC (eqv_str _) (all1 (eqv_int _)))
theorem eqv_tupD (ns : List Int) : PyData.eqv (tupD ns) (tupD ns) = true := by rw [eqv_tup]; exact decide_eq_true rfl
theorem eqv_row (r : Row) : PyData.eqv (rowD r) (rowD r) = true := eqv_tp (allC (eqv_str _) (allC (eqv_lst fun d hd => by
  obtain ⟨s, _, rfl⟩ := List.mem_map.mp hd; exact eqv_str s) (all1 (eqv_lst fun d hd => by
  obtain ⟨s, _, rfl⟩ := List.mem_map.mp hd; exact eqv_tupD s))))
theorem eqv_map {α : Type} (f : α → PyData) (h : ∀ x, PyData.eqv (f x) (f x) = true) (l : List α) : PyData.eqv (.list (l.map f)) (.list (l.map f)) = true := eqv_lst fun d hd => by
  obtain ⟨s, _, rfl⟩ := List.mem_map.mp hd; exact h s
theorem shd_le {k j : Nat} {d : PyData} (h : Shd k d) (l : k ≤ j) : Shd j d := ⟨h.1, Nat.le_trans h.2 l⟩
theorem shd_pair {q : Str × Int} (h : NameOk q.1) : Shd 1 (pairD q) := Shd.tuple (allC (Shd.str h) (all1 (Shd.int _)))
theorem shd_vars {L : List (Str × Int)} (h : VarsOk L) : Shd 2 (.list (L.map pairD)) := Shd.list fun d hd => by
  obtain ⟨q, hq, rfl⟩ := List.mem_map.mp hd
  exact shd_pair (h.nm q hq)
theorem sub_nm {L : List (Str × Int)} (h : VarsOk L) {x : Str} (hx : x ∈ L.map (·.1)) : NameOk x := by
  obtain ⟨q, hq, rfl⟩ := List.mem_map.mp hx
  exact h.nm q hq
theorem shd_row {L : List (Str × Int)} (h : VarsOk L) {r : Row} (hr : RowOk L r) : Shd 3 (rowD r) := Shd.tuple (allC (shd_le (Shd.str hr.nm) (by decide)) (allC (shd_le (Shd.list (k := 0) fun d hd => by
  obtain ⟨s, hs, rfl⟩ := List.mem_map.mp hd; exact Shd.str (sub_nm h (hr.sub s hs))) (by decide)) (all1 (shd_tups _))))
theorem shd_rows {L : List (Str × Int)} (h : VarsOk L) {R : List Row} (hr : ∀ r ∈ R, RowOk L r) : Shd 4 (.list (R.map rowD)) := Shd.list fun d hd => by
  obtain ⟨r, hm, rfl⟩ := List.mem_map.mp hd
  exact shd_row h (hr r hm)
/-- the rows with their bad tuples in order -/
def SrtR (r s : Row) : Prop := s.1 = r.1 ∧ s.2.1 = r.2.1 ∧ Srt r.2.2 s.2.2
theorem RowOk.srt {L : List (Str × Int)} {r s : Row} (h : RowOk L r) (q : SrtR r s) : RowOk L s := by
  obtain ⟨x, sc, out⟩ := s
  obtain ⟨e1, e2, pm, _⟩ := q
  simp only at e1 e2 pm
  subst e1 e2
  exact ⟨h.nm, h.pos, h.few, h.sub, h.nd, by rw [pm.length_eq]; exact h.bfew, pm.nodup_iff.mpr h.bnd, fun ns hns => h.bl ns (pm.mem_iff.mp hns), fun ns hns => h.bv ns (pm.mem_iff.mp hns)⟩
theorem srtR_uniq {L : List (Str × Int)} (ok : VarsOk L) : ∀ {R S S' : List Row}, (∀ r ∈ R, RowOk L r) → Paired SrtR R S → Paired SrtR R S' → S = S'
  | _, _, _, _, .nil, .nil => rfl
  | r :: _, s :: _, s' :: _, h, .cons a t, .cons a' t' => by
    obtain ⟨x, sc, out⟩ := s
    obtain ⟨x', sc', out'⟩ := s'
    obtain ⟨e1, e2, e3⟩ := a
    obtain ⟨f1, f2, f3⟩ := a'
    simp only at e1 e2 e3 f1 f2 f3
    rw [e1, e2, f1, f2, Srt.uniq (row_bd ok (h r List.mem_cons_self)) e3 f3, srtR_uniq ok (fun q hq => h q (List.mem_cons_of_mem _ hq)) t t']
theorem ev_rows {H : Hp} {F G : Addr → Prop} : ∀ {es : List V} {E : List Ent} {R : List Row}, Paired (isEv H F) es E → Paired (isEnt H F G) E R → ∃ S : List Row, Paired SrtR R S ∧ Paired (isRow H F G) es S
  | _, _, _, .nil, .nil => ⟨[], .nil, .nil⟩
  | _, q :: _, r :: _, .cons ⟨t, e, f, ht⟩ u, .cons ⟨e1, f1, f2, hsc, ys, out, hys, hs, hpd⟩ u' => by
    obtain ⟨S, p1, p2⟩ := ev_rows u u'
    exact ⟨(r.1, r.2.1, out) :: S, .cons ⟨rfl, rfl, hs⟩ p1, .cons ⟨t, q.2.1, q.2.2, ys, e, f, by rw [← e1]; exact ht, ⟨f1, .inl hsc⟩, ⟨f2, .inl hys⟩, hpd⟩ p2⟩
/-- a row of lists -/
def isRowL (H : Hp) (F G : Addr → Prop) (x : V) (r : Row) : Prop := ∃ p a b ys, x = .ref p ∧ H p = some (.tup [.str r.1, .ref a, .ref b]) ∧ H a = some (.lst (r.2.1.map V.str)) ∧ H b = some (.lst ys) ∧ Paired (isTupI H G) ys r.2.2
theorem ev_rowsL {H : Hp} {F G : Addr → Prop} : ∀ {es : List V} {E : List Ent} {R : List Row}, Paired (isEv H F) es E → Paired (isEnt H F G) E R → ∃ S : List Row, Paired SrtR R S ∧ Paired (isRowL H F G) es S
  | _, _, _, .nil, .nil => ⟨[], .nil, .nil⟩
  | _, q :: _, r :: _, .cons ⟨t, e, f, ht⟩ u, .cons ⟨e1, f1, f2, hsc, ys, out, hys, hs, hpd⟩ u' => by
    obtain ⟨S, p1, p2⟩ := ev_rowsL u u'
    exact ⟨(r.1, r.2.1, out) :: S, .cons ⟨rfl, rfl, hs⟩ p1, .cons ⟨t, q.2.1, q.2.2, ys, e, by rw [← e1]; exact ht, hsc, hys, hpd⟩ p2⟩
theorem dp_row {K : PySem.W.Frag} {H : Hp} {F G : Addr → Prop} {x : V} {r : Row} (h : isRowL H F G x r) : Dp K H x (rowD r) := by
  obtain ⟨p, a, b, ys, rfl, hp, ha, hb, hpd⟩ := h
  exact .tup (.inl (.inl hp)) (.cons (.str _) (.cons (.lst (SqL.of ha) (dp_strs _)) (.cons (.lst (SqL.of hb) (dp_all (fun _ _ z => dp_tup z) hpd)) .nil)))
theorem cp_name {x : Str} (h : NameOk x) : CpOk x := fun c hc => by
  have := (h.2.2 c hc).2
  exact Nat.lt_of_le_of_lt this (by decide)
theorem okd_name {x : Str} (h : NameOk x) : OkD 82 0 (.str x) := okd_str (n := 8) (cp_name h) (by rw [len_tl]; exact h.2.1)
theorem dx_map {K : PySem.W.Frag} {H : Hp} {α : Type} {F : V → α → Prop} {B k : Nat} : ∀ {xs : List V} {ys : List α}, Paired F xs ys → (∀ x y, F x y → y ∈ ys → ∃ d, Dx K H x d ∧ OkD B k d) → ∃ ds, DxAll K H xs ds ∧ ∀ d ∈ ds, OkD B k d
  | _, _, .nil, _ => ⟨[], .nil, fun _ h => by cases h⟩
  | _, _, .cons r t, h => by
    obtain ⟨d, h1, h2⟩ := h _ _ r List.mem_cons_self
    obtain ⟨ds, h3, h4⟩ := dx_map t fun x y f hy => h x y f (List.mem_cons_of_mem _ hy)
    exact ⟨d :: ds, .cons h1 h3, allC h2 h4⟩
theorem dxAll_len {K : PySem.W.Frag} {H : Hp} : ∀ {xs : List V} {ds : List PyData}, DxAll K H xs ds → ds.length = xs.length
  | _, _, .nil => rfl
  | _, _, .cons _ t => congrArg (· + 1) (dxAll_len t)
theorem dx_lt {K : PySem.W.Frag} {H : Hp} {a : Addr} {xs : List V} {ds : List PyData} {B k m : Nat} (h : H a = some (.lst xs) ∨ H a = some (.tup xs)) (hd : DxAll K H xs ds) (ho : ∀ d ∈ ds, OkD B k d) (l : xs.length ≤ m) :
    ∃ d, Dx K H (.ref a) d ∧ OkD (m * (B + 2) + 3) (k + 1) d := by
  have le : ds.length ≤ m := by rw [dxAll_len hd]; exact l
  rcases h with h | h
  · exact ⟨_, .lst (SqL.of h) hd, okd_list ho le⟩
  · exact ⟨_, .tup (.inl (.inl h)) hd, okd_tuple ho le⟩
theorem dx_pair {K : PySem.W.Frag} {H : Hp} {G : Addr → Prop} {x : V} {q : Str × Int} (h : isPair H G x q) (n : NameOk q.1) (i : 1 ≤ q.2 ∧ q.2 ≤ 6) : ∃ d, Dx K H x d ∧ OkD 1009 1 d := by
  obtain ⟨t, rfl, _, h⟩ := h
  exact ⟨_, .tup (.inl (.inl h)) (.cons (.str _) (.cons (.int _) .nil)), okd_tuple (B := 501) (k := 0) (m := 2) (allC ((okd_name n).mono (by decide) (by decide)) (all1 (okd_int (by omega)))) (Nat.le_refl _)⟩
theorem dx_tup {K : PySem.W.Frag} {H : Hp} {G : Addr → Prop} {x : V} {ns : List Int} (h : isTupI H G x ns) (l : ns.length ≤ 4) (b : TS.Bd 6 ns) : ∃ d, Dx K H x d ∧ OkD 2015 1 d := by
  obtain ⟨t, rfl, _, h⟩ := h
  obtain ⟨ds, h1, h2⟩ := dx_map (K := K) (H := H) (F := fun v (i : Int) => v = .int i) (B := 501) (k := 0) (pd_map V.int (l := ns) fun _ _ => rfl) fun x i e hi => by
    subst e
    have := b i hi
    exact ⟨_, .int i, okd_int (by omega)⟩
  exact dx_lt (.inr h) h1 h2 (by rw [List.length_map]; exact l)
theorem dx_row {K : PySem.W.Frag} {L : List (Str × Int)} {H : Hp} {F G : Addr → Prop} {x : V} {r : Row} (ok : VarsOk L) (h : isRow H F G x r) (hr : RowOk L r) : ∃ d, Dx K H x d ∧ OkD 72630 3 d := by
  obtain ⟨p, a, b, ys, rfl, _, hp, ⟨_, la⟩, ⟨_, lb⟩, pd⟩ := h
  have x4 := hr.few
  have x12 := hr.bfew
  obtain ⟨ds, h1, h2⟩ := dx_map (K := K) (H := H) (F := fun v (i : Str) => v = .str i) (B := 82) (k := 0) (pd_map V.str (l := r.2.1) fun _ _ => rfl) fun x i e hi => by
    subst e
    exact ⟨_, .str i, okd_name (sub_nm ok (hr.sub i hi))⟩
  obtain ⟨d1, u1, v1⟩ := dx_lt la h1 h2 (m := 4) (by rw [List.length_map]; exact x4)
  obtain ⟨ds2, h3, h4⟩ := dx_map (K := K) (H := H) (B := 2015) (k := 1) pd fun x ns z hz => by
    obtain ⟨l, bd⟩ := row_bd ok hr ns hz
    exact dx_tup z (by omega) bd
  obtain ⟨d2, u2, v2⟩ := dx_lt lb h3 h4 (m := 12) (by rw [pd.length]; exact x12)
  exact ⟨_, .tup (.inl (.inl hp)) (.cons (.str _) (.cons u1 (.cons u2 .nil))), okd_tuple (B := 24207) (k := 2) (m := 3) (allC ((okd_name hr.nm).mono (by decide) (by decide)) (allC (v1.mono (by decide) (by decide)) (all1 (v2.mono (by decide) (by decide))))) (Nat.le_refl _)⟩
theorem dx_vars {K : PySem.W.Frag} {L : List (Str × Int)} {H : Hp} {G : Addr → Prop} {a : Addr} {xs : List V} (ok : VarsOk L) (h : H a = some (.lst xs) ∨ H a = some (.tup xs)) (pd : Paired (isPair H G) xs L) : ∃ d, Dx K H (.ref a) d ∧ OkD 8091 2 d := by
  obtain ⟨ds, h1, h2⟩ := dx_map (K := K) pd fun x q z hz => dx_pair z (ok.nm q hz) (ok.sz q hz)
  exact dx_lt h h1 h2 (m := 8) (by rw [pd.length]; exact ok.few)
theorem dx_evs {K : PySem.W.Frag} {L : List (Str × Int)} {H : Hp} {F G : Addr → Prop} {a : Addr} {xs : List V} {R : List Row} (ok : VarsOk L) (h : H a = some (.lst xs) ∨ H a = some (.tup xs)) (pd : Paired (isRow H F G) xs R) (n : R.length ≤ 8) (okR : ∀ r ∈ R, RowOk L r) : ∃ d, Dx K H (.ref a) d ∧ OkD 581059 4 d := by
  obtain ⟨ds, h1, h2⟩ := dx_map (K := K) pd fun x q z hz => dx_row ok z (okR q hz)
  exact dx_lt h h1 h2 (m := 8) (by rw [pd.length]; exact n)

end K46
namespace K46
open PySem PySem.Spec PyProof.Rows L2 TL
/-! ### as shapes -/
abbrev sVar : Sh (Str × Int) := sP sStr sInt
abbrev sBad : Sh (List (List Int)) := sL (sT sInt)
abbrev sRow : Sh Row := s3 sStr (sL sStr) sBad
theorem mem1 {a b : Addr} : a ∉ [b] ↔ a ≠ b := by simp
theorem Fr.stp {b : Addr} {H H' : Hp} (f : Fr b H H') (h : ∃ o, H' b = some o) : Stp [b] H H' := fun a o e => by
  by_cases eb : a = b
  · subst eb; exact ⟨h, fun n => absurd List.mem_cons_self n⟩
  · exact ⟨⟨o, f a o eb e⟩, fun _ => f a o eb e⟩
theorem frS {b : Addr} {H H' : Hp} (f : Stp [b] H H') : Fr b H H' := fun a o n e => f.at e (mem1.mpr n)
theorem Bag.off {b : Addr} {n : Nat} {H H' : Hp} (h : Bag H b n) (k : ∀ o, H b = Option.some o → H' b = Option.some o) : Bag H' b n := by
  obtain ⟨x, y, z, e, r⟩ := h
  exact ⟨x, y, z, k _ e, r⟩
theorem Bag.stp {b : Addr} {m : List Addr} {n : Nat} {H H' : Hp} (h : Bag H b n) (s : Stp m H H') (nb : b ∉ m) : Bag H' b n := Bag.off h fun o e => s.at e nb
theorem map_snoc {α β : Type} (f : α → β) {l : List α} {i : Nat} (h : i < l.length) : (l.take (i + 1)).map f = (l.take i).map f ++ [f l[i]] := by
  rw [take_snoc h, List.map_append]; rfl
theorem wipe_at {σ : L2.St} {i : Nat} {x : Option L2.V} : ∀ L : List Nat, (L2.wipe (σ.set i x) L).set i none = (L2.wipe σ L).set i none
  | [] => by rw [L2.wipe, L2.wipe, List.set_set]
  | a :: L => by
    rw [L2.wipe, L2.wipe]
    by_cases e : a = i
    · rw [e, List.set_set, List.set_set]; exact wipe_at L
    · rw [List.set_comm _ _ e, List.set_comm _ _ e, wipe_at L]
theorem wipe_in {σ : L2.St} {i : Nat} {x : Option L2.V} : ∀ {L : List Nat}, i ∈ L → L2.wipe (σ.set i x) L = L2.wipe σ L
  | [], h => by cases h
  | a :: L, h => by
    rw [L2.wipe, L2.wipe]
    by_cases e : i = a
    · rw [← e]; exact wipe_at L
    · rw [wipe_in (List.mem_of_ne_of_mem e h)]
theorem ixn {m i : Nat} (h : i < m) : ixN m (i : Int) = some i := by
  unfold ixN
  rw [if_pos (by omega), if_pos (by omega)]
  show some (i : Int).toNat = some i
  rw [Int.toNat_natCast]
theorem isD_row : ShD sRow rowD := ⟨fun h => (isD_3 isD_str (isD_L isD_str) (isD_L (isD_T isD_int))).dp h, fun h => (isD_3 isD_str (isD_L isD_str) (isD_L (isD_T isD_int))).dx h⟩
theorem take_map_snoc {α β : Type} (f : α → β) {l : List α} {i : Nat} {x : α} (h : l[i]? = some x) : (l.take (i + 1)).map f = (l.take i).map f ++ [f x] := by
  obtain ⟨li, e⟩ := List.getElem?_eq_some_iff.mp h
  rw [map_snoc f li, e]
/-! ### a problem as a shape -/
theorem isPair.gen {H H' : Hp} {G G' : Addr → Prop} {x : V} {q : Str × Int} (h : isPair H G x q) (k : ∀ a o, G a → H a = some o → H' a = some o ∧ G' a) : isPair H' G' x q := by
  obtain ⟨t, e, g, h⟩ := h
  exact ⟨t, e, (k _ _ g h).2, (k _ _ g h).1⟩
theorem isTupI.gen {H H' : Hp} {G G' : Addr → Prop} {x : V} {q : List Int} (h : isTupI H G x q) (k : ∀ a o, G a → H a = some o → H' a = some o ∧ G' a) : isTupI H' G' x q := by
  obtain ⟨t, e, g, h⟩ := h
  exact ⟨t, e, (k _ _ g h).2, (k _ _ g h).1⟩
theorem IsP.gen {C : Addr} {H H' : Hp} {F F' G G' : Addr → Prop} {p : Addr} {L : List (Str × Int)} {R : List Row} (h : IsP C H F G p L R) (k : ∀ a o, F a → H a = some o → H' a = some o ∧ F' a) (k' : ∀ a xs, G a → H a = some (.tup xs) → H' a = some (.tup xs) ∧ G' a) : IsP C H' F' G' p L R := by
  obtain ⟨dx, av, ds, dp, ae, dsc, dbt, dn, E, xs, es, hp, ⟨f1, f2, f3, f4, f5, f6, ⟨N2, h9⟩, h10, h11⟩, ⟨h1, h2⟩, h3, ⟨h4, h5, h6⟩, h7, h8⟩ := h
  refine ⟨dx, av, ds, dp, ae, dsc, dbt, dn, E, xs, es, (k _ _ f1 hp).1, ⟨(k _ _ f1 hp).2, (k _ _ f2 h1).2, (k _ _ f3 h3).2, (k _ _ f4 h4).2, (k _ _ f5 h7).2, (k _ _ f6 h8).2, ⟨N2, (k _ _ h9.1 h9.2.1).2, (k _ _ h9.1 h9.2.1).1, Paired.mono (fun _ _ z => ⟨z.1, (k _ _ z.2.1 z.2.2).2, (k _ _ z.2.1 z.2.2).1⟩) h9.2.2⟩, (k _ _ h10 h11).2, (k _ _ h10 h11).1⟩,
    ⟨(k _ _ f2 h1).1, Paired.mono (fun x q z => ?_) h2⟩, (k _ _ f3 h3).1, ⟨(k _ _ f4 h4).1, Paired.mono (fun x q z => ?_) h5, Paired.mono (fun x q z => ?_) h6⟩, (k _ _ f5 h7).1, (k _ _ f6 h8).1⟩
  · obtain ⟨t, e, g, h⟩ := z
    exact ⟨t, e, (k' _ _ g h).2, (k' _ _ g h).1⟩
  · obtain ⟨t, e, g, h⟩ := z
    exact ⟨t, e, (k _ _ g h).2, (k _ _ g h).1⟩
  · obtain ⟨e, g1, g2, e1, ys, out, e2, s, pd⟩ := z
    refine ⟨e, (k _ _ g1 e1).2, (k _ _ g2 e2).2, (k _ _ g1 e1).1, ys, out, (k _ _ g2 e2).1, s, Paired.mono (fun x q z => ?_) pd⟩
    obtain ⟨t, e, g, h⟩ := z
    exact ⟨t, e, (k' _ _ g h).2, (k' _ _ g h).1⟩
abbrev Parts := List (Str × Int) × List Row
def sProb (C : Addr) : Sh Parts := ⟨fun W H v x => ∃ p, v = .ref p ∧ IsP C H W W p x.1 x.2, fun ⟨p, e, h⟩ k => ⟨p, e, h.gen (fun a o w e => k a o w e) fun a xs w e => k a _ w e⟩⟩
abbrev sRowQ : Sh Row := s3 sStr (sQ sStr) (sQ (sT sInt))
abbrev sParts : Sh Parts := sLP (sL sVar) (sL sRow)
theorem Sh.rowQ {M : List Addr} {H : Hp} {v : V} {r : Row} (h : sRow.at M H v r) : sRowQ.at M H v r := by
  obtain ⟨t, i, j, l, e, n, h, h1, h2, h3⟩ := h
  exact ⟨t, i, j, l, e, n, h, h1, Sh.sq h2, Sh.sq h3⟩
theorem pd_isRow {M : List Addr} {H : Hp} : ∀ {v : V} {r : Row}, sRowQ.at M H v r → isRow H (fun a => a ∉ M) (fun a => a ∉ M) v r := by
  rintro v r ⟨t, i, j, l, e, n, h, h1, ⟨a, vs, ea, na, ha, pa⟩, ⟨c, ws, ec, nc, hc, pc⟩⟩
  cases h1; subst ea ec
  rw [pd_isStrs pa] at ha
  exact ⟨t, a, c, ws, e, n, h, ⟨na, ha⟩, ⟨nc, hc⟩, Paired.mono (fun x q z => by
    obtain ⟨t, e, n, h⟩ := Sh.tints z
    exact ⟨t, e, n, h⟩) pc⟩
theorem pd_isVar {M : List Addr} {H : Hp} {v : V} {q : Str × Int} (h : sVar.at M H v q) : isPair H (fun a => a ∉ M) v q := by
  obtain ⟨t, i, j, e, n, h, h1, h2⟩ := h
  cases h1; cases h2
  exact ⟨t, e, n, h⟩
/-- what M holds are lists -/
def AlvL (M : List Addr) (H : Hp) : Prop := ∀ a ∈ M, ∃ zs, H a = some (.lst zs)
theorem AlvL.alv {M : List Addr} {H : Hp} (h : AlvL M H) : Alv M H := fun a ha => (h a ha).elim fun zs e => ⟨_, e⟩
theorem AlvL.cons {M : List Addr} {H : Hp} {a : Addr} {zs : List V} (e : H a = some (.lst zs)) (h : AlvL M H) : AlvL (a :: M) H := fun x hx => (List.mem_cons.mp hx).elim (fun h => ⟨zs, by rw [h]; exact e⟩) (h x)
theorem AlvL.nil {H : Hp} : AlvL [] H := fun _ h => by cases h
theorem mkPs {K : PySem.W.Frag} {C : Addr} {H : Hp} {M : List Addr} {Post : Addr → Hp → Prop} {E : XK} {va ve : V} {L : List (Str × Int)} {R : List Row} {vs dvs : List V} (alM : AlvL M H) (hA : (sQ sVar).at M H va L) (okL : VarsOk L) (hE : (sQ sRowQ).at M H ve R) (okR : EvsOk L R)
    (q : ∀ p H', Same H H' → H p = none → (sProb C).at M H' (.ref p) (L, R) → Post p H') (hv : vs ++ dvs = [va, ve] := by rfl) :
    ∀ x dx, H x = none → H dx = none → dx ≠ x → sp_pinit K C (.ref x :: (vs ++ dvs)) (upd (upd H dx (.own x)) x (.ins C dx [])) (fun v H2 => v = .non ∧ Post x H2) E := by
  intro x dx nx ndx ne
  rw [hv]
  obtain ⟨a, xs, ea, na, ha, pa⟩ := hA
  obtain ⟨e, ys, ee, nE, he, pe⟩ := hE
  subst ea ee
  have SqA : Sq K H a xs := ha.imp id .inl
  have SqE : Sq K H e ys := he.imp id .inl
  refine ⟨H, x, dx, a, e, xs, ys, L, R, rfl, upd_same, nx, Same.upd_p (Same.new ndx) nx, SqA, Paired.mono (fun _ _ z => (pd_isVar z).old) pa, okL, SqE, Paired.mono (fun _ _ z => (pd_isRow z).old) pe, okR, fun H' s hP => ⟨rfl, q x H' s nx ⟨x, rfl, hP.gen (fun a o n e => ⟨e, fun hm => ?_⟩) fun a zs n e => ⟨e, fun hm => ?_⟩⟩⟩⟩
  · obtain ⟨zs, hz⟩ := alM a hm
    rw [show H a = none from n] at hz; cases hz
  · obtain ⟨zs', hz⟩ := alM a hm
    rw [s _ _ hz] at e; cases e
/-- an own list F, new since H, one item more -/
theorem app_L {α : Type} {s : Sh α} {m M : List Addr} {H H2 : Hp} {F : Addr} {v : V} {x : α} {vs : List V} {xs : List α} (nF : H F = none) (st : Stp m H H2) (pd : Paired (s.at (F :: M) H2) vs xs) (hz : s.at (F :: M) H2 v x) :
    Stp m H (upd H2 F (.lst (vs ++ [v]))) ∧ Paired (s.at (F :: M) (upd H2 F (.lst (vs ++ [v])))) (vs ++ [v]) (xs ++ [x]) := by
  have sp : Stp [F] H2 (upd H2 F (.lst (vs ++ [v]))) := Stp.put (by simp)
  have sb : Sb [F] (F :: M) H2 := Sb.mem List.mem_cons_self Sb.nil
  exact ⟨st.putN nF, psnoc (Sh.gos pd sp sb Sb.refl) (Sh.go hz sp sb Sb.refl)⟩
theorem pd_isRowS {M : List Addr} {H : Hp} {v : V} {r : Row} (h : sRow.at M H v r) : isRowS H (fun a => a ∉ M) (fun a => a ∉ M) v r := by
  obtain ⟨t, i, j, l, e, n, h, h1, h2, ⟨c, ws, ec, nc, hc, pc⟩⟩ := h
  cases h1
  obtain ⟨a, ea, na, ha⟩ := Sh.strs h2
  subst ea ec
  exact ⟨t, a, c, ws, e, n, h, ⟨na, ha⟩, ⟨nc, hc⟩, Paired.mono (fun x q z => by
    obtain ⟨t, e, n, h⟩ := Sh.tints z
    exact ⟨t, e, n, h⟩) pc⟩
theorem Sh.all {α : Type} {s : Sh α} {M : List Addr} {H : Hp} {v : V} {x : α} (h : s.at M H v x) : s.at [] H v x := s.mv h fun a o _ e => ⟨e, by simp⟩
theorem Sh.rowsQ {M : List Addr} {H : Hp} {v : V} {R : List Row} (h : (sL sRow).at M H v R) : (sQ sRowQ).at M H v R := by
  obtain ⟨a, vs, e, n, h, p⟩ := h
  exact ⟨a, vs, e, n, .inl h, Paired.mapP p fun _ _ z => Sh.rowQ z⟩
theorem isRowL.same {H H' : Hp} {F G : Addr → Prop} {x : V} {r : Row} (h : isRowL H F G x r) (s : Same H H') : isRowL H' F G x r := by
  obtain ⟨p, a, b, ys, e, h1, h2, h3, h4⟩ := h
  exact ⟨p, a, b, ys, e, s _ _ h1, s _ _ h2, s _ _ h3, Paired.mono (fun _ _ z => isTupI.same z s) h4⟩
theorem eqv_two (a b c d : PyData) : PyData.eqv (.list [a, b]) (.list [c, d]) = (PyData.eqv a c && PyData.eqv b d) := by
  rw [show PyData.eqv (.list [a, b]) (.list [c, d]) = (PyData.eqv a c && (PyData.eqv b d && true)) from rfl, Bool.and_true]
theorem IsP.ins {C : Addr} {H : Hp} {F G : Addr → Prop} {p : Addr} {L : List (Str × Int)} {R : List Row} (h : IsP C H F G p L R) : ∃ dx fs, H p = some (.ins C dx fs) := by
  obtain ⟨dx, av, ds, dp, ae, dsc, dbt, dn, E, xs, es, hp, _⟩ := h
  exact ⟨dx, _, hp⟩
theorem IsP.srt {C : Addr} {H : Hp} {F G : Addr → Prop} {p : Addr} {L : List (Str × Int)} {R : List Row} (h : IsP C H F G p L R) : ∃ S : List Row, Paired SrtR R S := by
  obtain ⟨dx, av, ds, dp, ae, dsc, dbt, dn, E, xs, es, hp, f, ⟨h1, h2⟩, h3, ⟨h4, h5, h6⟩, h7, h8⟩ := h
  obtain ⟨S, k1, _⟩ := ev_rowsL h5 h6
  exact ⟨S, k1⟩

end K46
namespace K46
open PySem PySem.Spec PyProof.Rows L2 TL
/-! ### what is checked of a graph -/
theorem nd_at {l : List Str} (nd : l.Nodup) {i j : Nat} {x : Str} (hi : l[i]? = some x) (hj : l[j]? = some x) : i = j := by
  obtain ⟨la, ea⟩ := List.getElem?_eq_some_iff.mp hi
  obtain ⟨lb, eb⟩ := List.getElem?_eq_some_iff.mp hj
  have p := List.pairwise_iff_getElem.mp (List.nodup_iff_pairwise_ne.mp nd)
  rcases Nat.lt_trichotomy i j with h | h | h
  · exact absurd (ea.trans eb.symm) (p i j la lb h)
  · exact h
  · exact absurd (eb.trans ea.symm) (p j i lb la h)
theorem or_enum {K : PySem.W.Frag} {td : TA} {σ : L2.St} {H0 H : Hp} {R : It → Hp → Prop} {a : Addr} {xs : List V} (ht : ∀ R' : List V → Hp → Prop, R' [.ref a] H → td σ H R') (hS : SqL K H0 a xs ∨ SqT K H0 a xs) (k0 : ∀ o, H0 a = some o → H a = some o)
    (h : ∀ (J : It) (G : Hp → Prop), Walk J xs.length G (YPair (fun i => some (.int (i : Nat))) (fun i => xs[i]?)) → (∀ H', (∀ o, H0 a = some o → H' a = some o) → G H') → R J H) : iEnum K td σ H R ∨ iEnumT K td σ H R := by
  rcases hS with hS | hS
  · exact .inl (ht _ ⟨a, xs, rfl, (Kp.at k0).1 xs hS, h _ _ walk_enum fun H' k => (Kp.at k).1 xs hS⟩)
  · exact .inr (ht _ ⟨a, xs, rfl, (Kp.at k0).2 xs hS, h _ _ walk_enumT fun H' k => (Kp.at k).2 xs hS⟩)
/-- a slice from the start -/
theorem rev_cut {K : PySem.W.Frag} {m : List Addr} {H : Hp} {a : Addr} {xs : List V} {k : Nat} {Q : VK} (hS : SqL K H a xs ∨ SqT K H a xs) (na : a ∉ m) (al : Alv m H)
    (h : ∀ (w : Addr) (H' : Hp), Same H H' → w ∉ m → (SqL K H' w (xs.take k) ∨ SqT K H' w (xs.take k)) → Q (.ref w) H') :
    rSlL K (.ref a) none (some (k : Int)) H Q ∨ rSlA K (.ref a) none (some (k : Int)) H Q := by
  have nm : ∀ {p : Addr}, H p = none → p ∉ m := fun {p} e z => by obtain ⟨o, h⟩ := al p z; rw [h] at e; cases e
  rcases hS with hS | hS
  · refine .inl ⟨a, xs, rfl, hS, fun p np => ?_⟩
    rw [cut_to]
    exact h p _ (Same.new np) (nm np) (.inl (SqL.of upd_same))
  · refine .inr ⟨a, xs, rfl, hS, fun ⟨e1, e2⟩ => ?_, fun _ p np => ?_⟩
    · have e : xs.take k = xs := by
        have e3 := cut_to (xs := xs) k
        unfold cutV at e3
        rw [e1, e2, List.drop_zero, Nat.sub_zero, List.take_length] at e3
        exact e3.symm
      exact h a H (Same.refl _) na (by rw [e]; exact .inr hS)
    · rw [cut_to]
      exact h p _ (Same.new np) (nm np) (.inr (.inl (.inl upd_same)))
theorem hs_sq {K : PySem.W.Frag} {H : Hp} {a : Addr} {xs : List V} (h : H a = some (.lst xs) ∨ H a = some (.tup xs)) : SqL K H a xs ∨ SqT K H a xs := h.imp (fun h => SqL.of h) fun h => .inl (.inl h)
abbrev sPS : Sh (Str × Str) := sP sStr sStr
/-- names and edges that make a graph -/
structure GNOk (ns : List Str) : Prop where
  pos : 1 ≤ ns.length
  few : ns.length ≤ 8
  nm : ∀ x ∈ ns, NameOk x
  nd : ns.Nodup
structure GEOk (ns : List Str) (es : List (Str × Str)) : Prop where
  few : es.length ≤ 100
  sub : ∀ e ∈ es, e.1 ∈ ns ∧ e.2 ∈ ns ∧ e.1 ≠ e.2
  new : ∀ (i : Nat) (e : Str × Str), es[i]? = some e → e ∉ es.take i ∧ (e.2, e.1) ∉ es.take i
theorem sq_strs {M : List Addr} {H : Hp} {v : V} {ns : List Str} (h : (sQ sStr).at M H v ns) : ∃ a, v = .ref a ∧ a ∉ M ∧ (H a = some (.lst (ns.map V.str)) ∨ H a = some (.tup (ns.map V.str))) := by
  obtain ⟨a, vs, e, n, h, pd⟩ := h
  rw [pd_isStrs pd] at h
  exact ⟨a, e, n, h⟩
def sp_gnames (K : PySem.W.Frag) : Sp := fun vs H Q _ => ∃ (v : V) (ns : List Str), vs = [v] ∧ (sQ sStr).at [] H v ns ∧ GNOk ns ∧ ∀ H', Same H H' → Q .non H'
theorem ok__check_graph_names {P : Program} {w : World} {K : PySem.W.Frag} {mg : Str → Option Value} {base : Heap} (T : Txt P K mg) : FnOk P w K mg base CX0 2 T.f__check_graph_names T.fd__check_graph_names ["names"] (sp_gnames K) := by
  refine T.F__check_graph_names.ok sc__check_graph_names (fun vs H Q E h => ?_) (fun cdv A outer s H vs Q E hr h => ?_)
  · obtain ⟨_, _, rfl, _⟩ := h; rfl
  · obtain ⟨v, ns, rfl, hv, ok, q⟩ := h
    obtain ⟨a, rfl, -, hS⟩ := sq_strs hv
    have l8 := ok.few
    have l1 := ok.pos
    refine ⟨_, PSs.nox (pss_cons (ps_if (pt_not (pt_val (pe_call (ok_is_list T) (hr.mono (by decide)) (by rfl) T.g_is_list T.F_is_list.kp (b_is_list T) .nil pass0 (pa_cons (pv 0) (pa_cons pe_int (pa_cons (pe_glob (v := .int 8) (by rfl) T.c_MOST_NAMES.choose_spec ⟨_, rfl⟩) pa_nil)))))) (pss_one ps_never) pss_nil)
      (pss_one (ps_for PassesOwn.never rfl (pi_or (pi_enum (by rfl) T.n_enumerate (pa_cons (pv 0) pa_nil)) (pi_enumT (by rfl) T.n_enumerate (pa_cons (pv 0) pa_nil))) (pg_tup rfl (pgs_cons (pg_name (i := 1) sc__check_graph_names.nd rfl (Or.inl rfl)) (pgs_cons (pg_name (i := 2) sc__check_graph_names.nd rfl (Or.inl rfl)) pgs_nil))) (pss_cons (ps_if (pt_not (pt_val (pe_call (ok_is_name T) (hr.mono (by decide)) (by rfl) T.g_is_name T.F_is_name.kp (b_is_name T) .nil pass0 (pa_cons (pv 2) pa_nil)))) (pss_one ps_never) pss_nil)
      (pss_one (ps_if (pt_cmpR (show OpR _ (compareOp .In) (rIn K false) from op_in_seq) (pv 2) (pe_slice (show SlR _ (fun x lo hi H Q => rSlL K x lo hi H Q ∨ rSlA K x lo hi H Q) from SlR.or sl_list sl_tupA) (pv 0) po_none (po_some (pv 1))) (by first | rfl | with_unfolding_all rfl)) (pss_one ps_never) pss_nil)))))), ?_⟩
    repeat (first | refine ⟨_, rfl, ?_⟩ | refine ⟨_, _, rfl, rfl, ?_⟩ | refine ⟨_, _, rfl, ?_⟩ | refine ⟨rfl, ?_⟩)
    refine ⟨a, _, 1, 8, rfl, hS.elim .inl (fun h => .inr (.inl h)), by rw [List.length_map]; omega, by rw [List.length_map]; omega, fun H1 s1 => ?_⟩
    repeat (first | refine ⟨_, rfl, ?_⟩ | refine ⟨_, _, rfl, rfl, ?_⟩ | refine ⟨_, _, rfl, ?_⟩ | refine ⟨rfl, ?_⟩)
    refine or_enum (H0 := H) (fun R' h => ?_) (hs_sq hS) (fun o e => s1 _ _ e) fun J G wk kp => ?_
    · repeat (first | refine ⟨_, rfl, ?_⟩ | refine ⟨_, _, rfl, rfl, ?_⟩ | refine ⟨_, _, rfl, ?_⟩ | refine ⟨rfl, ?_⟩)
      exact h
    refine for_it wk (fun i σ G => ∃ y1 y2, σ = [some (.ref a), y1, y2] ∧ Same H G) ⟨_, _, rfl, s1⟩ (fun i σ H' _ ⟨_, _, _, k⟩ => kp _ fun o e => k _ _ e) ?_ ?_
    · rintro i x σ H3 H4 hi ⟨y1, y2, rfl, s4⟩ ⟨T1, x1, x2, rfl, nT, rfl, ex1, ex2⟩
      cases ex1
      replace ex2 : (ns.map V.str)[i]? = some x2 := ex2
      rw [List.getElem?_map] at ex2
      obtain ⟨n, hn, rfl⟩ := Option.map_eq_some_iff.mp ex2
      have s5 := s4.trans (Same.new (o := .tup [.int (i : Nat), .str n]) nT)
      refine ⟨T1, _, rfl, .inl (.inl upd_same), rfl, _, _, rfl, _, _, rfl, rfl, ?_⟩
      generalize upd H3 T1 (.tup [.int (i : Nat), .str n]) = G5 at s5
      repeat (first | refine ⟨_, rfl, ?_⟩ | refine ⟨_, _, rfl, rfl, ?_⟩ | refine ⟨_, _, rfl, ?_⟩ | refine ⟨rfl, ?_⟩)
      refine ⟨ok.nm n (List.mem_of_getElem? hn), fun H6 s6 => ?_⟩
      have s16 := s5.trans s6
      repeat (first | refine ⟨_, rfl, ?_⟩ | refine ⟨_, _, rfl, rfl, ?_⟩ | refine ⟨_, _, rfl, ?_⟩ | refine ⟨rfl, ?_⟩)
      refine rev_cut (m := []) (xs := ns.map V.str) (hs_sq (hS.imp (fun h => s16 _ _ h) fun h => s16 _ _ h)) (by simp) Alv.nil fun w G7 s7 _ hw => ?_
      repeat (first | refine ⟨_, rfl, ?_⟩ | refine ⟨_, _, rfl, rfl, ?_⟩ | refine ⟨_, _, rfl, ?_⟩ | refine ⟨rfl, ?_⟩)
      refine ⟨w, _, rfl, hw, rfl, by rw [← List.map_take]; exact flat_str _, ?_⟩
      rw [← List.map_take, inV_str]
      have nin : n ∉ ns.take i := fun h => by
        obtain ⟨j, hj⟩ := List.getElem?_of_mem h
        have lj := (List.getElem?_eq_some_iff.mp hj).1
        rw [List.length_take] at lj
        rw [List.getElem?_take_of_lt (by omega)] at hj
        have := nd_at ok.nd hj hn
        omega
      rw [decide_eq_false nin]
      repeat (first | refine ⟨_, rfl, ?_⟩ | refine ⟨_, _, rfl, rfl, ?_⟩ | refine ⟨_, _, rfl, ?_⟩ | refine ⟨rfl, ?_⟩)
      exact s16.trans s7
    · rintro σ G1 ⟨y1, y2, rfl, s4⟩
      repeat (first | refine ⟨_, rfl, ?_⟩ | refine ⟨_, _, rfl, rfl, ?_⟩ | refine ⟨_, _, rfl, ?_⟩ | refine ⟨rfl, ?_⟩)
      exact q _ s4
def sp_known (K : PySem.W.Frag) : Sp := fun vs H Q _ => ∃ (x : Str) (v : V) (ns : List Str), vs = [.str x, v] ∧ (sQ sStr).at [] H v ns ∧ x ∈ ns ∧ Q .non H
theorem ok_check_known {P : Program} {w : World} {K : PySem.W.Frag} {mg : Str → Option Value} {base : Heap} (T : Txt P K mg) : FnOk P w K mg base CX0 1 T.f_check_known T.fd_check_known ["value", "known"] (sp_known K) := by
  refine T.F_check_known.ok sc_check_known (fun vs H Q E h => ?_) (fun cdv A outer s H vs Q E hr h => ?_)
  · obtain ⟨_, _, _, rfl, _⟩ := h; rfl
  · obtain ⟨x, v, ns, rfl, hv, hx, q⟩ := h
    obtain ⟨a, rfl, -, hS⟩ := sq_strs hv
    refine ⟨_, PSs.nox (pss_one (ps_if (pt_cmpR (show OpR _ (compareOp .NotIn) (rInA K true) from op_notInA (hu_of hr)) (pv 0) (pv 1) (by first | rfl | with_unfolding_all rfl)) (pss_one ps_never) pss_nil)), ?_⟩
    repeat (first | refine ⟨_, rfl, ?_⟩ | refine ⟨_, _, rfl, rfl, ?_⟩ | refine ⟨_, _, rfl, ?_⟩ | refine ⟨rfl, ?_⟩)
    refine ⟨a, ns, rfl, hs_sq hS, rfl, ?_⟩
    rw [inV_str, decide_eq_true hx]
    repeat (first | refine ⟨_, rfl, ?_⟩ | refine ⟨_, _, rfl, rfl, ?_⟩ | refine ⟨_, _, rfl, ?_⟩ | refine ⟨rfl, ?_⟩)
    exact q
def psD (e : Str × Str) : PyData := .tuple [.str e.1, .str e.2]
theorem isD_ps : ShD sPS psD := ⟨fun h => (isD_P isD_str isD_str).dp h, fun h => (isD_P isD_str isD_str).dx h⟩
theorem shd_ps {e : Str × Str} (h1 : NameOk e.1) (h2 : NameOk e.2) : Shd 1 (psD e) := Shd.tuple (allC (Shd.str h1) (all1 (Shd.str h2)))
theorem shd_pss {es : List (Str × Str)} (h : ∀ e ∈ es, NameOk e.1 ∧ NameOk e.2) : Shd 2 (.list (es.map psD)) := Shd.list fun d hd => by
  obtain ⟨e, he, rfl⟩ := List.mem_map.mp hd
  exact shd_ps (h e he).1 (h e he).2
theorem eqvAll_mapI {α : Type} [DecidableEq α] (f : α → PyData) (hf : ∀ x y, PyData.eqv (f x) (f y) = decide (x = y)) : ∀ l l' : List α, PyData.eqvAll (l.map f) (l'.map f) = decide (l = l')
  | [], [] => by simp [PyData.eqvAll]
  | [], _ :: _ => by simp [PyData.eqvAll]
  | _ :: _, [] => by simp [PyData.eqvAll]
  | x :: l, y :: l' => by
    simp only [List.map_cons, PyData.eqvAll]
    rw [hf x y, eqvAll_mapI f hf l l']
    by_cases h : x = y
    · subst h; simp
    · rw [decide_eq_false h, Bool.false_and]
      symm
      exact decide_eq_false fun e => h (List.cons.inj e).1
theorem eqv_mapI {α : Type} [DecidableEq α] (f : α → PyData) (hf : ∀ x y, PyData.eqv (f x) (f y) = decide (x = y)) (l l' : List α) : PyData.eqv (.list (l.map f)) (.list (l'.map f)) = decide (l = l') := by
  simp only [PyData.eqv]
  exact eqvAll_mapI f hf l l'
theorem eqv_s2 (a b : Str) : PyData.eqv (.str a) (.str b) = decide (a = b) := by
  simp only [PyData.eqv]
  by_cases h : a = b
  · subst h; simp
  · rw [decide_eq_false h]; simpa using h
theorem eqv_ps (a b : Str × Str) : PyData.eqv (psD a) (psD b) = decide (a = b) := by
  show (PyData.eqv (.str a.1) (.str b.1) && (PyData.eqv (.str a.2) (.str b.2) && true)) = _
  rw [Bool.and_true, eqv_s2, eqv_s2, Bool.eq_iff_iff, Bool.and_eq_true, decide_eq_true_iff, decide_eq_true_iff, decide_eq_true_iff]
  exact ⟨fun ⟨x, y⟩ => Prod.ext x y, fun e => by rw [e]; exact ⟨rfl, rfl⟩⟩
theorem any_pss (es : List (Str × Str)) (e : Str × Str) : ((es.map psD).any fun z => PyData.eqv z (psD e)) = decide (e ∈ es) := by
  rw [List.any_map, Bool.eq_iff_iff, List.any_eq_true, decide_eq_true_iff]
  constructor
  · rintro ⟨x, hx, h⟩
    have h : PyData.eqv (psD x) (psD e) = true := h
    rw [eqv_ps] at h
    rw [← of_decide_eq_true h]; exact hx
  · intro h
    exact ⟨e, h, by show PyData.eqv (psD e) (psD e) = true; rw [eqv_ps]; exact decide_eq_true rfl⟩
/-- as data, in a list or in a tuple -/
theorem sq_dp {K : PySem.W.Frag} {M : List Addr} {H : Hp} {a : Addr} {vs : List V} {es : List (Str × Str)} (h : SqL K H a vs ∨ SqT K H a vs) (pd : Paired (sPS.at M H) vs es) : Dp K H (.ref a) (.list (es.map psD)) ∨ Dp K H (.ref a) (.tuple (es.map psD)) :=
  h.imp (fun h => .lst h (dpA (fun _ _ z => isD_ps.dp z) pd)) fun h => .tup h (dpA (fun _ _ z => isD_ps.dp z) pd)

end K46
namespace K46
open PySem PySem.Spec PyProof.Rows L2 TL
theorem ps_dp {K : PySem.W.Frag} {H : Hp} {t : Addr} {e : Str × Str} (h : H t = some (.tup [.str e.1, .str e.2])) : Dp K H (.ref t) (psD e) := .tup (.inl (.inl h)) (.cons (.str _) (.cons (.str _) .nil))
theorem rd_sq {α : Type} {s : Sh α} {M : List Addr} {H H' : Hp} {v : V} {xs : List α} (h : (sQ s).at M H v xs) (k : Same H H') : (sQ s).at M H' v xs := Sh.go h (Stp.of_same (m := []) k) Sb.nil Sb.refl
/-- edges as they are passed -/
def SqE (K : PySem.W.Frag) (H : Hp) (v : V) (es : List (Str × Str)) : Prop := ∃ a xs, v = .ref a ∧ Sq K H a xs ∧ Paired (sPS.at [] H) xs es
theorem SqE.same {K : PySem.W.Frag} {H H' : Hp} {v : V} {es : List (Str × Str)} (h : SqE K H v es) (s : Same H H') : SqE K H' v es := by
  obtain ⟨a, xs, e, h, p⟩ := h
  exact ⟨a, xs, e, h.same s, Sh.gos p (Stp.of_same (m := []) s) Sb.nil Sb.refl⟩
theorem SqE.of {K : PySem.W.Frag} {M : List Addr} {H : Hp} {v : V} {es : List (Str × Str)} (h : (sQ sPS).at M H v es) : SqE K H v es := by
  obtain ⟨a, xs, e, _, h, p⟩ := h
  exact ⟨a, xs, e, h.imp id .inl, Paired.mapP p fun _ _ z => Sh.all z⟩
def sp_gedges (K : PySem.W.Frag) : Sp := fun vs H Q _ => ∃ (v u : V) (ns : List Str) (es : List (Str × Str)), vs = [v, u] ∧ SqE K H v es ∧ (sQ sStr).at [] H u ns ∧ GNOk ns ∧ GEOk ns es ∧ ∀ H', Same H H' → Q .non H'
theorem ok__check_edges {P : Program} {w : World} {K : PySem.W.Frag} {mg : Str → Option Value} {base : Heap} (T : Txt P K mg) : FnOk P w K mg base CX0 2 T.f__check_edges T.fd__check_edges ["edges", "names"] (sp_gedges K) := by
  refine T.F__check_edges.ok sc__check_edges (fun vs H Q E h => ?_) (fun cdv A outer s H vs Q E hr h => ?_)
  · obtain ⟨_, _, _, _, rfl, _⟩ := h; rfl
  · obtain ⟨v, u, ns, es, rfl, hv, hu, okN, okE, q⟩ := h
    obtain ⟨a, xs, rfl, hS, pA⟩ := hv
    have lx := plen pA
    have nme : ∀ e ∈ es, NameOk e.1 ∧ NameOk e.2 := fun e he => ⟨okN.nm _ (okE.sub e he).1, okN.nm _ (okE.sub e he).2.1⟩
    refine ⟨_, PSs.nox (pss_cons (ps_if (pt_not (pt_val (pe_callB (show CallR _ _ (rIsiT K) from call_isiT) (by rfl) T.n_isinstance (by decide +kernel) (pa_cons (pv 0) (pa_cons (pe_tup (pa_cons (pe_bltn (v := .ty "list") (by rfl) T.n_list (by decide +kernel) rfl) (pa_cons (pe_bltn (v := .ty "tuple") (by rfl) T.n_tuple (by decide +kernel) rfl) pa_nil))) pa_nil))))) (pss_one ps_never) pss_nil)
      (pss_one (ps_for PassesOwn.never rfl (pi_or (pi_enum (by rfl) T.n_enumerate (pa_cons (pv 0) pa_nil)) (pi_enumT (by rfl) T.n_enumerate (pa_cons (pv 0) pa_nil))) (pg_tup rfl (pgs_cons (pg_name (i := 2) sc__check_edges.nd rfl (Or.inl rfl)) (pgs_cons (pg_name (i := 3) sc__check_edges.nd rfl (Or.inl rfl)) pgs_nil))) (pss_cons (ps_if (PW.pt (pw_or (pt_not (pt_val (pe_callB (show CallR _ _ (rIsi K) from call_isi) (by rfl) T.n_isinstance (by decide +kernel) (pa_cons (pv 3) (pa_cons (pe_bltn (v := .ty "tuple") (by rfl) T.n_tuple (by decide +kernel) rfl) pa_nil))))) (pw_or1 (pt_cmpR op_ne (pe_callB (show CallR _ _ (rLenSeq K) from call_len_seq) (by rfl) T.n_len (by decide +kernel) (pa_cons (pv 3) pa_nil)) pe_int (nomark _))))) (pss_one ps_never) pss_nil)
      (pss_cons (ps_asg (pv 3) (pg_tup rfl (pgs_cons (pg_name (i := 4) sc__check_edges.nd rfl (Or.inl rfl)) (pgs_cons (pg_name (i := 5) sc__check_edges.nd rfl (Or.inl rfl)) pgs_nil))))
      (pss_cons (ps_expr (pe_call (ok_check_known T) (hr.mono (by decide)) (by rfl) T.g_check_known T.F_check_known.kp (b_check_known T) .nil pass0 (pa_cons (pv 4) (pa_cons (pv 1) pa_nil))))
      (pss_cons (ps_expr (pe_call (ok_check_known T) (hr.mono (by decide)) (by rfl) T.g_check_known T.F_check_known.kp (b_check_known T) .nil pass0 (pa_cons (pv 5) (pa_cons (pv 1) pa_nil))))
      (pss_one (ps_if (PW.pt (pw_or (pt_cmpR op_eq (pv 4) (pv 5) (nomark _)) (pw_or (pt_cmpR (show OpR _ (compareOp .In) (rInQ K) from op_inQ (hu65 hr)) (pv 3) (pe_slice (show SlR _ (fun x lo hi H Q => rSlL K x lo hi H Q ∨ rSlA K x lo hi H Q) from SlR.or sl_list sl_tupA) (pv 0) po_none (po_some (pv 2))) (by first | rfl | with_unfolding_all rfl)) (pw_or1 (pt_cmpR (show OpR _ (compareOp .In) (rInQ K) from op_inQ (hu65 hr)) (pe_tup (pa_cons (pv 5) (pa_cons (pv 4) pa_nil))) (pe_slice (show SlR _ (fun x lo hi H Q => rSlL K x lo hi H Q ∨ rSlA K x lo hi H Q) from SlR.or sl_list sl_tupA) (pv 0) po_none (po_some (pv 2))) (by first | rfl | with_unfolding_all rfl)))))) (pss_one ps_never) pss_nil))))))))), ?_⟩
    repeat (first | refine ⟨_, rfl, ?_⟩ | refine ⟨_, _, rfl, rfl, ?_⟩ | refine ⟨_, _, rfl, ?_⟩ | refine ⟨rfl, ?_⟩)
    refine ⟨lenk 2 rfl (by decide), fun tp ntp => ?_⟩
    have sm : Same H (upd H tp (.tup [.ty "list", .ty "tuple"])) := Same.new ntp
    have ht : upd H tp (.tup [.ty "list", .ty "tuple"]) tp = some (.tup [.ty "list", .ty "tuple"]) := upd_same
    obtain ⟨t, ty, kk⟩ := (hS.same sm).kit
    refine ⟨_, tp, _, t, _, _, rfl, ht, .cons (.ty _) (.cons (.ty _) .nil), ty, kk, _, rfl, ?_⟩
    generalize upd H tp (.tup [.ty "list", .ty "tuple"]) = H1 at sm
    clear ht ty
    repeat (first | refine ⟨_, rfl, ?_⟩ | refine ⟨_, _, rfl, rfl, ?_⟩ | refine ⟨_, _, rfl, ?_⟩ | refine ⟨rfl, ?_⟩)
    refine or_enum (H0 := H) (fun R' h => ?_) hS.sq (fun o e => sm _ _ e) fun J G wk kp => ?_
    · repeat (first | refine ⟨_, rfl, ?_⟩ | refine ⟨_, _, rfl, rfl, ?_⟩ | refine ⟨_, _, rfl, ?_⟩ | refine ⟨rfl, ?_⟩)
      exact h
    refine for_it wk (fun i σ G => ∃ y2 y3 y4 y5, σ = [some (.ref a), some u, y2, y3, y4, y5] ∧ Same H G) ⟨_, _, _, _, rfl, sm⟩ (fun i σ H' _ ⟨_, _, _, _, _, k⟩ => kp _ fun o e => k _ _ e) ?_ ?_
    · rintro i x σ H3 H4 hi ⟨y2, y3, y4, y5, rfl, s4⟩ ⟨T1, x1, x2, rfl, nT, rfl, ex1, ex2⟩
      cases ex1
      replace ex2 : xs[i]? = some x2 := ex2
      obtain ⟨e, he, te, _, _, rfl, -, hte, rfl, rfl⟩ := pget' pA ex2
      have me := List.mem_of_getElem? he
      obtain ⟨i1, i2, i3⟩ := okE.sub e me
      obtain ⟨n1, n2⟩ := okE.new i e he
      have s5 := s4.trans (Same.new (o := .tup [.int (i : Nat), .ref te]) nT)
      refine ⟨T1, _, rfl, .inl (.inl upd_same), rfl, _, _, rfl, _, _, rfl, rfl, ?_⟩
      generalize upd H3 T1 (.tup [.int (i : Nat), .ref te]) = G5 at s5
      repeat (first | refine ⟨_, rfl, ?_⟩ | refine ⟨_, _, rfl, rfl, ?_⟩ | refine ⟨_, _, rfl, ?_⟩ | refine ⟨rfl, ?_⟩)
      refine ⟨_, _, _, _, _, rfl, .ty _, .base (.tup (s5 _ _ hte)), kit_tt, _, rfl, ?_⟩
      repeat (first | refine ⟨_, rfl, ?_⟩ | refine ⟨_, _, rfl, rfl, ?_⟩ | refine ⟨_, _, rfl, ?_⟩ | refine ⟨rfl, ?_⟩)
      refine ⟨te, _, rfl, .inr (.inl (.inl (s5 _ _ hte))), rfl, _, rfl, ite2 (fun e => absurd e (by simp)) (fun _ => ?_)⟩
      repeat (first | refine ⟨_, rfl, ?_⟩ | refine ⟨_, _, rfl, rfl, ?_⟩ | refine ⟨_, _, rfl, ?_⟩ | refine ⟨rfl, ?_⟩)
      refine ⟨te, _, rfl, .inl (.inl (s5 _ _ hte)), rfl, ?_⟩
      repeat (first | refine ⟨_, rfl, ?_⟩ | refine ⟨_, _, rfl, rfl, ?_⟩ | refine ⟨_, _, rfl, ?_⟩ | refine ⟨rfl, ?_⟩)
      have hu5 := rd_sq hu s5
      refine ⟨e.1, u, ns, rfl, hu5, i1, ?_⟩
      repeat (first | refine ⟨_, rfl, ?_⟩ | refine ⟨_, _, rfl, rfl, ?_⟩ | refine ⟨_, _, rfl, ?_⟩ | refine ⟨rfl, ?_⟩)
      refine ⟨e.2, u, ns, rfl, hu5, i2, ?_⟩
      repeat (first | refine ⟨_, rfl, ?_⟩ | refine ⟨_, _, rfl, rfl, ?_⟩ | refine ⟨_, _, rfl, ?_⟩ | refine ⟨rfl, ?_⟩)
      refine ite2 (fun c => ?_) (fun _ => ?_)
      · have c' : e.1 = e.2 := by
          have := of_decide_eq_true c
          injection this
        exact absurd c' i3
      repeat (first | refine ⟨_, rfl, ?_⟩ | refine ⟨_, _, rfl, rfl, ?_⟩ | refine ⟨_, _, rfl, ?_⟩ | refine ⟨rfl, ?_⟩)
      refine rev_cut (m := []) (xs := xs) (hS.same s5).sq (by simp) Alv.nil fun w G7 s7 _ hw => ?_
      have s17 := s5.trans s7
      have pT : Paired (sPS.at [] G7) (xs.take i) (es.take i) := ptake (Sh.gos pA (Stp.of_same (m := []) s17) Sb.nil Sb.refl)
      have okT : ∀ e ∈ es.take i, NameOk e.1 ∧ NameOk e.2 := fun e he => nme e (List.mem_of_mem_take he)
      have de : Dp K G7 (.ref te) (psD e) := ps_dp (e := e) (s17 _ _ hte)
      repeat (first | refine ⟨_, rfl, ?_⟩ | refine ⟨_, _, rfl, rfl, ?_⟩ | refine ⟨_, _, rfl, ?_⟩ | refine ⟨rfl, ?_⟩)
      refine ⟨psD e, (es.take i).map psD, de, sq_dp hw pT, (shd_ps (nme e me).1 (nme e me).2).shaped (by decide), (shd_pss okT).shaped (by decide), ?_⟩
      rw [any_pss, decide_eq_false n1]
      repeat (first | refine ⟨_, rfl, ?_⟩ | refine ⟨_, _, rfl, rfl, ?_⟩ | refine ⟨_, _, rfl, ?_⟩ | refine ⟨rfl, ?_⟩)
      refine ⟨lenk 2 rfl (by decide), fun t2 nt2 => ?_⟩
      have s8 : Same G7 (upd G7 t2 (.tup [.str e.2, .str e.1])) := Same.new nt2
      have h8 : upd G7 t2 (.tup [.str e.2, .str e.1]) t2 = some (.tup [.str e.2, .str e.1]) := upd_same
      generalize upd G7 t2 (.tup [.str e.2, .str e.1]) = G8 at s8 h8
      have s18 := s17.trans s8
      repeat (first | refine ⟨_, rfl, ?_⟩ | refine ⟨_, _, rfl, rfl, ?_⟩ | refine ⟨_, _, rfl, ?_⟩ | refine ⟨rfl, ?_⟩)
      refine rev_cut (m := []) (xs := xs) (hS.same s18).sq (by simp) Alv.nil fun w2 G9 s9 _ hw2 => ?_
      have s19 := s18.trans s9
      have pT2 : Paired (sPS.at [] G9) (xs.take i) (es.take i) := ptake (Sh.gos pA (Stp.of_same (m := []) s19) Sb.nil Sb.refl)
      have de2 : Dp K G9 (.ref t2) (psD (e.2, e.1)) := ps_dp (e := (e.2, e.1)) (s9 _ _ h8)
      repeat (first | refine ⟨_, rfl, ?_⟩ | refine ⟨_, _, rfl, rfl, ?_⟩ | refine ⟨_, _, rfl, ?_⟩ | refine ⟨rfl, ?_⟩)
      refine ⟨psD (e.2, e.1), (es.take i).map psD, de2, sq_dp hw2 pT2, (shd_ps (nme e me).2 (nme e me).1).shaped (by decide), (shd_pss okT).shaped (by decide), ?_⟩
      rw [any_pss, decide_eq_false n2]
      exact ⟨_, rfl, _, _, _, _, rfl, s19⟩
    · rintro σ G1 ⟨y2, y3, y4, y5, rfl, s4⟩
      repeat (first | refine ⟨_, rfl, ?_⟩ | refine ⟨_, _, rfl, rfl, ?_⟩ | refine ⟨_, _, rfl, ?_⟩ | refine ⟨rfl, ?_⟩)
      exact q _ s4

end K46
namespace K46
open PySem PySem.Spec PyProof.Rows L2 TL
/-! ### the class of graphs -/
def adjE (es : List (Str × Str)) (x y : Str) : Bool := decide ((x, y) ∈ es) || decide ((y, x) ∈ es)
def nbE (ns : List Str) (es : List (Str × Str)) (x : Str) : List Str := ns.filter (adjE es x)
theorem ftake {α : Type} (f : α → Bool) {l : List α} {i : Nat} {x : α} (h : l[i]? = some x) : (l.take (i + 1)).filter f = (l.take i).filter f ++ if f x = true then [x] else [] := by
  rw [List.take_add_one, h, List.filter_append]
  show _ ++ [x].filter f = _
  rw [List.filter_cons, List.filter_nil]
theorem putK_new {kvs : List (Key × V)} {k : Key} {v : V} (h : k ∉ kvs.map (·.1)) : putK kvs k v = kvs ++ [(k, v)] := by
  unfold putK
  rw [if_neg]
  intro c
  obtain ⟨p, hp, e⟩ := List.any_eq_true.mp c
  exact h (List.mem_map.mpr ⟨p, hp, of_decide_eq_true e⟩)
def NbR (H : Hp) (W : Addr → Prop) (N : Str → List Str) (kv : Key × V) (n : Str) : Prop := kv.1 = Sum.inr n ∧ ∃ a, kv.2 = .ref a ∧ W a ∧ H a = some (.lst ((N n).map V.str))
def IsG (C : Addr) (H : Hp) (W : Addr → Prop) (p : Addr) (ns : List Str) (N : Str → List Str) : Prop := ∃ dx dn kvs, H p = some (.ins C dx (putF "_neighbors" (.ref dn) [])) ∧ W p ∧ H dn = some (.dK kvs) ∧ W dn ∧ Paired (NbR H W N) kvs ns
abbrev GP := List Str × List (Str × Str)
def sG (C : Addr) : Sh GP := ⟨fun W H v g => ∃ p, v = .ref p ∧ IsG C H W p g.1 (nbE g.1 g.2), fun ⟨p, e, dx, dn, kvs, h1, w1, h2, w2, pd⟩ k => ⟨p, e, dx, dn, kvs, (k _ _ w1 h1).1, (k _ _ w1 h1).2, (k _ _ w2 h2).1, (k _ _ w2 h2).2, Paired.mono (fun _ _ ⟨e, a, e2, w, h⟩ => ⟨e, a, e2, (k _ _ w h).2, (k _ _ w h).1⟩) pd⟩⟩
theorem nb_keys {H : Hp} {W : Addr → Prop} {N : Str → List Str} : ∀ {kvs : List (Key × V)} {ns : List Str}, Paired (NbR H W N) kvs ns → kvs.map (·.1) = ns.map Sum.inr
  | _, _, .nil => rfl
  | _, _, .cons h t => by rw [List.map_cons, List.map_cons, h.1, nb_keys t]
def sp_ginit (K : PySem.W.Frag) (C : Addr) : Sp := fun vs H Q _ => ∃ (H0 : Hp) (x dx : Addr) (v u : V) (ns : List Str) (es : List (Str × Str)), vs = [.ref x, v, u] ∧ H x = some (.ins C dx []) ∧ H0 x = none ∧ Same H0 H ∧ (sQ sStr).at [] H0 v ns ∧ SqE K H0 u es ∧ GNOk ns ∧ GEOk ns es ∧
  ∀ H', Same H0 H' → IsG C H' (fun a => H0 a = none) x ns (nbE ns es) → Q .non H'
theorem ok_Graph_init {P : Program} {w : World} {K : PySem.W.Frag} {mg : Str → Option Value} {base : Heap} (T : Txt P K mg) : FnOk P w K mg base CX0 3 T.f_Graph_init T.fd_Graph_init ["self", "names", "edges"] (sp_ginit K T.C_Graph) := by
  refine T.F_Graph_init.ok sc_Graph_init (fun vs H Q E h => ?_) (fun cdv A outer s H vs Q E hr h => ?_)
  · obtain ⟨_, _, _, _, _, _, _, rfl, _⟩ := h; rfl
  · obtain ⟨H0, x, dx, v, u, ns, es, rfl, hx, nx, s0, hv, hu, okN, okE, q⟩ := h
    have nme : ∀ e ∈ es, NameOk e.1 ∧ NameOk e.2 := fun e he => ⟨okN.nm _ (okE.sub e he).1, okN.nm _ (okE.sub e he).2.1⟩
    have l8 := okN.few
    refine ⟨_, PSs.nox (pss_cons (ps_expr (pe_call (ok__check_graph_names T) (hr.mono (by decide)) (by rfl) T.g__check_graph_names T.F__check_graph_names.kp (b__check_graph_names T) .nil pass0 (pa_cons (pv 1) pa_nil)))
      (pss_cons (ps_expr (pe_call (ok__check_edges T) (hr.mono (by decide)) (by rfl) T.g__check_edges T.F__check_edges.kp (b__check_edges T) .nil pass0 (pa_cons (pv 2) (pa_cons (pv 1) pa_nil))))
      (pss_one (ps_fld (pv 0) (pe_dc (own := [("name", 3)]) (g := gName 3) rfl sc_Graph_init.nd (pi_or (pi_list (pv 1)) (pi_tup (pv 1))) (blkOk_by (own := [("name", 3)]) (N := N_Graph_init) (sc := defScope s_Graph_init) (by decide +kernel)) (fun _ _ _ _ _ => (pg_name (i := 3) sc_Graph_init.nd rfl (Or.inr rfl))) (fun _ _ _ _ _ => pts_nil) (fun _ _ _ _ _ => (pv 3)) (fun _ _ _ _ _ => (pe_lc (own := [("other", 4)]) (g := gName 4) rfl sc_Graph_init.nd (show PI _ _ _ (fun σ H R => iList K _ σ H R ∨ iTup K _ σ H R) from (pi_or (pi_list (pv 1)) (pi_tup (pv 1)))) (blkOk_by (own := [("other", 4)]) (N := N_Graph_init) (sc := relS _ (defScope s_Graph_init)) (by decide +kernel)) (fun _ _ _ _ _ => (pg_name (i := 4) sc_Graph_init.nd rfl (Or.inl rfl))) (fun _ _ _ _ _ => pts_one (PW.pt (pw_or (pt_cmpR (show OpR _ (compareOp .In) (rInQ K) from op_inQ (hu65 hr)) (pe_tup (pa_cons (pv 3) (pa_cons (pv 4) pa_nil))) (pv 2) (by first | rfl | with_unfolding_all rfl)) (pw_or1 (pt_cmpR (show OpR _ (compareOp .In) (rInQ K) from op_inQ (hu65 hr)) (pe_tup (pa_cons (pv 4) (pa_cons (pv 3) pa_nil))) (pv 2) (by first | rfl | with_unfolding_all rfl)))))) (fun _ _ _ _ _ => (pv 4))))) rfl)))), ?_⟩
    repeat (first | refine ⟨_, rfl, ?_⟩ | refine ⟨_, _, rfl, rfl, ?_⟩ | refine ⟨_, _, rfl, ?_⟩ | refine ⟨rfl, ?_⟩)
    refine ⟨v, ns, rfl, rd_sq hv s0, okN, fun H1 s1 => ?_⟩
    repeat (first | refine ⟨_, rfl, ?_⟩ | refine ⟨_, _, rfl, rfl, ?_⟩ | refine ⟨_, _, rfl, ?_⟩ | refine ⟨rfl, ?_⟩)
    refine ⟨u, v, ns, es, rfl, (hu.same s0).same s1, rd_sq (rd_sq hv s0) s1, okN, okE, fun H2 s2 => ?_⟩
    have s02 : Same H0 H2 := s0.trans (s1.trans s2)
    have hx2 := s2 _ _ (s1 _ _ hx)
    obtain ⟨a, rfl, -, hA⟩ := sq_strs hv
    obtain ⟨c, cs, rfl, hC, pC⟩ := hu
    repeat (first | refine ⟨_, rfl, ?_⟩ | refine ⟨_, _, rfl, rfl, ?_⟩ | refine ⟨_, _, rfl, ?_⟩ | refine ⟨rfl, ?_⟩)
    refine or_walkA (H0 := H0) (fun R' h => ⟨_, rfl, h⟩) (hs_sq hA) (fun o e => s02 _ _ e) fun J G1 w g D nD => ?_
    refine dc_it w (fun i H' => ∃ kvs, H' D = some (.dK kvs) ∧ Paired (NbR H' (fun a => H2 a = none ∧ a ≠ D) (nbE ns es)) kvs (ns.take i) ∧ Same H2 H') ⟨[], upd_same, .nil, Same.new nD⟩ (fun i H' _ ⟨_, _, _, k⟩ => g H' fun o e => k _ _ (s02 _ _ e)) ?_ ?_
    · rintro i y H3 H4 hi ⟨kvs, hD, pK, s3⟩ ⟨rfl, hy⟩
      rw [List.getElem?_map] at hy
      obtain ⟨n, hn, rfl⟩ := Option.map_eq_some_iff.mp hy
      have mn := List.mem_of_getElem? hn
      refine ⟨wipe_in (by decide), ?_⟩
      repeat (first | refine ⟨_, rfl, ?_⟩ | refine ⟨_, _, rfl, rfl, ?_⟩ | refine ⟨_, _, rfl, ?_⟩ | refine ⟨rfl, ?_⟩)
      refine or_walkA (H0 := H0) (fun R' h => ⟨_, rfl, h⟩) (hs_sq hA) (fun o e => s3 _ _ (s02 _ _ e)) fun J2 G2 w2 g2 U nU => ?_
      refine lc_it w2 (fun j H' => H' U = some (.lst (((ns.take j).filter (adjE es n)).map V.str)) ∧ Same H4 H') ⟨upd_same, Same.new nU⟩ (fun j H' _ h => g2 H' fun o e => h.2 _ _ (s3 _ _ (s02 _ _ e))) ?_ ?_
      · rintro j z H5 H6 hj ⟨hU, s5⟩ ⟨rfl, hz⟩
        rw [List.getElem?_map] at hz
        obtain ⟨m, hm, rfl⟩ := Option.map_eq_some_iff.mp hz
        have mm := List.mem_of_getElem? hm
        have lj := (List.getElem?_eq_some_iff.mp hm).1
        refine ⟨wipe_in (by decide), ?_⟩
        rw [ftake _ hm]
        repeat (first | refine ⟨_, rfl, ?_⟩ | refine ⟨_, _, rfl, rfl, ?_⟩ | refine ⟨_, _, rfl, ?_⟩ | refine ⟨rfl, ?_⟩)
        refine ⟨lenk 2 rfl (by decide), fun t nt => ?_⟩
        have s6 : Same H6 (upd H6 t (.tup [.str n, .str m])) := Same.new nt
        have h6 : upd H6 t (.tup [.str n, .str m]) t = some (.tup [.str n, .str m]) := upd_same
        have hU6 := s6 _ _ hU
        generalize upd H6 t (.tup [.str n, .str m]) = G6 at s6 h6 hU6
        have s06 : Same H0 G6 := s02.trans (s3.trans (s5.trans s6))
        repeat (first | refine ⟨_, rfl, ?_⟩ | refine ⟨_, _, rfl, rfl, ?_⟩ | refine ⟨_, _, rfl, ?_⟩ | refine ⟨rfl, ?_⟩)
        refine ⟨psD (n, m), es.map psD, ps_dp (e := (n, m)) h6, sq_dp (hC.same s06).sq (Sh.gos pC (Stp.of_same (m := []) s06) Sb.nil Sb.refl), (shd_ps (okN.nm n mn) (okN.nm m mm)).shaped (by decide), (shd_pss nme).shaped (by decide), ?_⟩
        rw [any_pss]
        have lf := List.length_filter_le (adjE es n) (ns.take j)
        rw [List.length_take] at lf
        refine ⟨_, rfl, ite2 (fun c => ?_) (fun c => ?_)⟩
        · have ea : adjE es n m = true := by unfold adjE; rw [c]; rfl
          repeat (first | refine ⟨_, rfl, ?_⟩ | refine ⟨_, _, rfl, rfl, ?_⟩ | refine ⟨_, _, rfl, ?_⟩ | refine ⟨rfl, ?_⟩)
          refine ⟨_, hU6, by rw [List.length_map, sizeLine_eq]; omega, ?_, Same.upd_p (s5.trans s6) nU⟩
          rw [upd_same, ea, if_pos rfl, List.map_append]; rfl
        have ea : adjE es n m = decide ((m, n) ∈ es) := by unfold adjE; rw [Bool.eq_false_iff.mpr c]; rfl
        repeat (first | refine ⟨_, rfl, ?_⟩ | refine ⟨_, _, rfl, rfl, ?_⟩ | refine ⟨_, _, rfl, ?_⟩ | refine ⟨rfl, ?_⟩)
        refine ⟨lenk 2 rfl (by decide), fun t2 nt2 => ?_⟩
        have s8 : Same G6 (upd G6 t2 (.tup [.str m, .str n])) := Same.new nt2
        have h8 : upd G6 t2 (.tup [.str m, .str n]) t2 = some (.tup [.str m, .str n]) := upd_same
        have hU8 := s8 _ _ hU6
        generalize upd G6 t2 (.tup [.str m, .str n]) = G8 at s8 h8 hU8
        have s08 : Same H0 G8 := s06.trans s8
        repeat (first | refine ⟨_, rfl, ?_⟩ | refine ⟨_, _, rfl, rfl, ?_⟩ | refine ⟨_, _, rfl, ?_⟩ | refine ⟨rfl, ?_⟩)
        refine ⟨psD (m, n), es.map psD, ps_dp (e := (m, n)) h8, sq_dp (hC.same s08).sq (Sh.gos pC (Stp.of_same (m := []) s08) Sb.nil Sb.refl), (shd_ps (okN.nm m mm) (okN.nm n mn)).shaped (by decide), (shd_pss nme).shaped (by decide), ?_⟩
        rw [any_pss, ← ea]
        refine ⟨_, rfl, ite2 (fun c2 => ?_) (fun c2 => ?_)⟩
        · repeat (first | refine ⟨_, rfl, ?_⟩ | refine ⟨_, _, rfl, rfl, ?_⟩ | refine ⟨_, _, rfl, ?_⟩ | refine ⟨rfl, ?_⟩)
          refine ⟨_, hU8, by rw [List.length_map, sizeLine_eq]; omega, ?_, Same.upd_p (s5.trans (s6.trans s8)) nU⟩
          rw [upd_same, c2, if_pos rfl, List.map_append]; rfl
        · rw [if_neg c2, List.append_nil]
          exact ⟨hU8, s5.trans (s6.trans s8)⟩
      rintro H5 ⟨hU, s5⟩
      rw [List.length_map, List.take_length] at hU
      have li := (List.getElem?_eq_some_iff.mp hn).1
      have lk : kvs.length = i := by have := plen pK; rw [List.length_take] at this; omega
      have nUD : U ≠ D := fun e => by rw [e, hD] at nU; cases nU
      have hD5 := s5 _ _ hD
      have nU2 : H2 U = none := Same.none s3 nU
      have nk : (Sum.inr n : Key) ∉ kvs.map (·.1) := fun hm => by
        rw [nb_keys pK] at hm
        obtain ⟨x', hm, ex⟩ := List.mem_map.mp hm
        cases ex
        obtain ⟨j, hj⟩ := List.getElem?_of_mem hm
        have lj := (List.getElem?_eq_some_iff.mp hj).1
        rw [List.length_take] at lj
        rw [List.getElem?_take_of_lt (by omega)] at hj
        have := nd_at okN.nd hj hn
        omega
      refine ⟨kvs, Sum.inr n, rfl, hD5, by rw [sizeLine_eq]; omega, kvs ++ [(Sum.inr n, .ref U)], by rw [upd_same, putK_new nk], ?_, Same.upd_p (s3.trans s5) nD⟩
      rw [List.take_add_one, hn]
      refine psnoc (Paired.mono (fun kv x ⟨e, a, e2, ⟨w, nw⟩, h⟩ => ⟨e, a, e2, ⟨w, nw⟩, ?_⟩) pK) ⟨rfl, U, rfl, ⟨nU2, nUD⟩, ?_⟩
      · rw [upd_ne nUD]; exact hU
      · rw [upd_ne nw]; exact s5 _ _ h
    rintro H3 ⟨kvs, hD, pK, s3⟩
    rw [List.length_map, List.take_length] at pK
    have nDx : D ≠ x := fun e => by rw [e, hx2] at nD; cases nD
    repeat (first | refine ⟨_, rfl, ?_⟩ | refine ⟨_, _, rfl, rfl, ?_⟩ | refine ⟨_, _, rfl, ?_⟩ | refine ⟨rfl, ?_⟩)
    refine ⟨x, _, dx, _, rfl, s3 _ _ hx2, T.cl_Graph, T.na_Graph__neighbors, (by show 0 < 1000; decide), ?_⟩
    have nD0 : H0 D = none := Same.none s02 nD
    have s03 : Same H0 H3 := s02.trans s3
    refine q _ (Same.upd_p s03 nx) ⟨dx, D, kvs, upd_same, nx, by rw [upd_ne nDx]; exact hD, nD0, Paired.mono (fun kv n ⟨e, a, e2, ⟨w, nw⟩, h⟩ => ⟨e, a, e2, Same.none s02 w, ?_⟩) pK⟩
    rw [upd_ne (fun e => by rw [e, hx2] at w; cases w)]
    exact h

end K46
namespace K46
open PySem PySem.Spec PyProof.Rows L2 TL
/-! ### a graph is asked -/
theorem gfl_no {d : Addr} {m : Str} (h : ¬ m = ("_neighbors" : Str)) : (putF "_neighbors" (V.ref d) []).lookup m = none := (lookup_putF ..).trans (if_neg h)
theorem gfl {d : Addr} : (putF "_neighbors" (V.ref d) []).lookup ("_neighbors" : Str) = some (V.ref d) := (lookup_putF ..).trans (if_pos rfl)
theorem nb_strs {H : Hp} {W : Addr → Prop} {N : Str → List Str} {kvs : List (Key × V)} {ns : List Str} (h : Paired (NbR H W N) kvs ns) : kvs.map (fun kv => kV kv.1) = ns.map V.str := by
  have e : kvs.map (fun kv => kV kv.1) = (kvs.map (·.1)).map kV := by rw [List.map_map]; rfl
  rw [e, nb_keys h, List.map_map]; rfl
theorem nb_val {H : Hp} {W : Addr → Prop} {N : Str → List Str} : ∀ {kvs : List (Key × V)} {ns : List Str} {x : Str}, Paired (NbR H W N) kvs ns → ns.Nodup → x ∈ ns → ∃ a, valV kvs (Sum.inr x) = some (.ref a) ∧ W a ∧ H a = some (.lst ((N x).map V.str))
  | _, _, _, .nil, _, h => by cases h
  | kv :: kvs, n :: ns, x, .cons ⟨e, a, e2, w, h⟩ t, nd, hx => by
    rw [List.nodup_cons] at nd
    rcases List.mem_cons.mp hx with rfl | hx
    · exact ⟨a, by rw [← e2]; exact valV_pos e, w, h⟩
    · have ne : n ≠ x := fun e => nd.1 (by rw [e]; exact hx)
      obtain ⟨b, h1, h2⟩ := nb_val t nd.2 hx
      exact ⟨b, by rw [← h1]; exact valV_neg (by rw [e]; exact fun z => ne (Sum.inr.inj z)), h2⟩
theorem IsG.same {C : Addr} {H H' : Hp} {W : Addr → Prop} {p : Addr} {ns : List Str} {N : Str → List Str} (h : IsG C H W p ns N) (s : Same H H') : IsG C H' W p ns N := by
  obtain ⟨dx, dn, kvs, h1, w1, h2, w2, pd⟩ := h
  exact ⟨dx, dn, kvs, s _ _ h1, w1, s _ _ h2, w2, Paired.mono (fun _ _ ⟨e, a, e2, w, h⟩ => ⟨e, a, e2, w, s _ _ h⟩) pd⟩
def sp_gnm (C : Addr) : Sp := fun vs H Q _ => ∃ (p : Addr) (W : Addr → Prop) (ns : List Str) (N : Str → List Str), vs = [.ref p] ∧ IsG C H W p ns N ∧ ∀ l, H l = none → Q (.ref l) (upd H l (.lst (ns.map V.str)))
theorem ok_Graph_names {P : Program} {w : World} {K : PySem.W.Frag} {mg : Str → Option Value} {base : Heap} (T : Txt P K mg) : FnOk P w K mg base CX0 1 T.f_Graph_names T.fd_Graph_names ["self"] (sp_gnm T.C_Graph) := by
  refine T.F_Graph_names.ok sc_Graph_names (fun vs H Q E h => ?_) (fun cdv A outer s H vs Q E hr h => ?_)
  · obtain ⟨_, _, _, _, rfl, _⟩ := h; rfl
  · obtain ⟨p, W, ns, N, rfl, ⟨dx, dn, kvs, h1, w1, h2, w2, pd⟩, q⟩ := h
    refine ⟨_, PSs.nox (pss_one (ps_ret (pe_callTy (show CallR _ _ rListD from call_list_dK (by rfl)) (by rfl) T.n_list (by decide +kernel) (pa_cons (show PE _ _ (tFld K _ _) from pe_fld (pv 0) rfl) pa_nil)))), ?_⟩
    repeat (first | refine ⟨_, rfl, ?_⟩ | refine ⟨_, _, rfl, rfl, ?_⟩ | refine ⟨_, _, rfl, ?_⟩ | refine ⟨rfl, ?_⟩)
    refine ⟨p, _, dx, _, _, rfl, h1, T.cl_Graph, T.na_Graph__neighbors, gfl, ?_⟩
    repeat (first | refine ⟨_, rfl, ?_⟩ | refine ⟨_, _, rfl, rfl, ?_⟩ | refine ⟨_, _, rfl, ?_⟩ | refine ⟨rfl, ?_⟩)
    refine ⟨dn, kvs, rfl, h2, fun l nl => ?_⟩
    rw [nb_strs pd]
    exact q l nl
def sp_gln (C : Addr) : Sp := fun vs H Q _ => ∃ (p : Addr) (W : Addr → Prop) (ns : List Str) (N : Str → List Str), vs = [.ref p] ∧ IsG C H W p ns N ∧ Q (.int (ns.length : Nat)) H
theorem ok_Graph_len {P : Program} {w : World} {K : PySem.W.Frag} {mg : Str → Option Value} {base : Heap} (T : Txt P K mg) : FnOk P w K mg base CX0 1 T.f_Graph_len T.fd_Graph_len ["self"] (sp_gln T.C_Graph) := by
  refine T.F_Graph_len.ok sc_Graph_len (fun vs H Q E h => ?_) (fun cdv A outer s H vs Q E hr h => ?_)
  · obtain ⟨_, _, _, _, rfl, _⟩ := h; rfl
  · obtain ⟨p, W, ns, N, rfl, ⟨dx, dn, kvs, h1, w1, h2, w2, pd⟩, q⟩ := h
    refine ⟨_, PSs.nox (pss_one (ps_ret (pe_callB call_lenD (by rfl) T.n_len (by decide +kernel) (pa_cons (show PE _ _ (tFld K _ _) from pe_fld (pv 0) rfl) pa_nil)))), ?_⟩
    repeat (first | refine ⟨_, rfl, ?_⟩ | refine ⟨_, _, rfl, rfl, ?_⟩ | refine ⟨_, _, rfl, ?_⟩ | refine ⟨rfl, ?_⟩)
    refine ⟨p, _, dx, _, _, rfl, h1, T.cl_Graph, T.na_Graph__neighbors, gfl, ?_⟩
    repeat (first | refine ⟨_, rfl, ?_⟩ | refine ⟨_, _, rfl, rfl, ?_⟩ | refine ⟨_, _, rfl, ?_⟩ | refine ⟨rfl, ?_⟩)
    refine ⟨dn, kvs, rfl, h2, ?_⟩
    rw [plen pd]
    exact q
def sp_gnb (C : Addr) : Sp := fun vs H Q _ => ∃ (p : Addr) (W : Addr → Prop) (ns : List Str) (N : Str → List Str) (x : Str), vs = [.ref p, .str x] ∧ IsG C H W p ns N ∧ ns.Nodup ∧ x ∈ ns ∧ ∀ l H', Same H H' → H l = none → H' l = some (.lst ((N x).map V.str)) → Q (.ref l) H'
theorem ok_Graph_neighbors {P : Program} {w : World} {K : PySem.W.Frag} {mg : Str → Option Value} {base : Heap} (T : Txt P K mg) : FnOk P w K mg base CX0 2 T.f_Graph_neighbors T.fd_Graph_neighbors ["self", "name"] (sp_gnb T.C_Graph) := by
  refine T.F_Graph_neighbors.ok sc_Graph_neighbors (fun vs H Q E h => ?_) (fun cdv A outer s H vs Q E hr h => ?_)
  · obtain ⟨_, _, _, _, _, rfl, _⟩ := h; rfl
  · obtain ⟨p, W, ns, N, x, rfl, hG, nd, hx, q⟩ := h
    obtain ⟨dx, dn, kvs, h1, w1, h2, w2, pd⟩ := id hG
    refine ⟨_, PSs.nox (pss_cons (ps_expr (pe_call (ok_check_known T) (hr.mono (by decide)) (by rfl) T.g_check_known T.F_check_known.kp (b_check_known T) .nil pass0 (pa_cons (pv 1) (pa_cons (pe_meth0 (pl := _) (pv 0) T.cl_Graph T.m_Graph_names (ok_Graph_names T) (hr.mono (by decide)) (b_Graph_names T) .nil pass0) pa_nil))))
      (pss_one (ps_ret (pe_callTy (show CallR _ _ (rListOf K) from call_list_of) (by rfl) T.n_list (by decide +kernel) (pa_cons (pe_dget (hu_of hr) (show PE _ _ (tFld K _ _) from pe_fld (pv 0) rfl) (pv 1) (fun _ _ => rfl)) pa_nil))))), ?_⟩
    repeat (first | refine ⟨_, rfl, ?_⟩ | refine ⟨_, _, rfl, rfl, ?_⟩ | refine ⟨_, _, rfl, ?_⟩ | refine ⟨rfl, ?_⟩)
    refine ⟨p, dx, _, rfl, h1, gfl_no (by decide +kernel), ?_⟩
    repeat (first | refine ⟨_, rfl, ?_⟩ | refine ⟨_, _, rfl, rfl, ?_⟩ | refine ⟨_, _, rfl, ?_⟩ | refine ⟨rfl, ?_⟩)
    refine ⟨p, W, ns, N, rfl, hG, fun l nl => ?_⟩
    have s1 : Same H (upd H l (.lst (ns.map V.str))) := Same.new nl
    have hl : upd H l (.lst (ns.map V.str)) l = some (.lst (ns.map V.str)) := upd_same
    generalize upd H l (.lst (ns.map V.str)) = H1 at s1 hl
    repeat (first | refine ⟨_, rfl, ?_⟩ | refine ⟨_, _, rfl, rfl, ?_⟩ | refine ⟨_, _, rfl, ?_⟩ | refine ⟨rfl, ?_⟩)
    refine ⟨x, .ref l, ns, rfl, ⟨l, _, rfl, by simp, .inl hl, pd_strs⟩, hx, ?_⟩
    repeat (first | refine ⟨_, rfl, ?_⟩ | refine ⟨_, _, rfl, rfl, ?_⟩ | refine ⟨_, _, rfl, ?_⟩ | refine ⟨rfl, ?_⟩)
    refine ⟨p, _, dx, _, _, rfl, s1 _ _ h1, T.cl_Graph, T.na_Graph__neighbors, gfl, ?_⟩
    repeat (first | refine ⟨_, rfl, ?_⟩ | refine ⟨_, _, rfl, rfl, ?_⟩ | refine ⟨_, _, rfl, ?_⟩ | refine ⟨rfl, ?_⟩)
    obtain ⟨a, hv, -, ha⟩ := nb_val pd nd hx
    have dg : DGet H1 dn (.str x) (some (.ref a)) := by rw [← hv]; exact DGet.k (k := Sum.inr x) (s1 _ _ h2)
    refine ⟨dn, _, rfl, dg, ?_⟩
    repeat (first | refine ⟨_, rfl, ?_⟩ | refine ⟨_, _, rfl, rfl, ?_⟩ | refine ⟨_, _, rfl, ?_⟩ | refine ⟨rfl, ?_⟩)
    refine ⟨a, _, rfl, .inl (SqL.of (s1 _ _ ha)), fun l2 nl2 => ?_⟩
    exact q l2 _ (s1.trans (Same.new nl2)) (Same.none s1 nl2) upd_same
def sp_gadj (C : Addr) : Sp := fun vs H Q _ => ∃ (p : Addr) (W : Addr → Prop) (ns : List Str) (N : Str → List Str) (x y : Str), vs = [.ref p, .str x, .str y] ∧ IsG C H W p ns N ∧ ns.Nodup ∧ x ∈ ns ∧ y ∈ ns ∧ ∀ H', Same H H' → Q (.bl (decide (x = y) || decide (y ∈ N x))) H'
theorem ok_Graph_are_adjacent {P : Program} {w : World} {K : PySem.W.Frag} {mg : Str → Option Value} {base : Heap} (T : Txt P K mg) : FnOk P w K mg base CX0 2 T.f_Graph_are_adjacent T.fd_Graph_are_adjacent ["self", "one", "other"] (sp_gadj T.C_Graph) := by
  refine T.F_Graph_are_adjacent.ok sc_Graph_are_adjacent (fun vs H Q E h => ?_) (fun cdv A outer s H vs Q E hr h => ?_)
  · obtain ⟨_, _, _, _, _, _, rfl, _⟩ := h; rfl
  · obtain ⟨p, W, ns, N, x, y, rfl, hG, nd, hx, hy, q⟩ := h
    obtain ⟨dx, dn, kvs, h1, w1, h2, w2, pd⟩ := id hG
    refine ⟨_, PSs.nox (pss_cons (ps_expr (pe_call (ok_check_known T) (hr.mono (by decide)) (by rfl) T.g_check_known T.F_check_known.kp (b_check_known T) .nil pass0 (pa_cons (pv 1) (pa_cons (pe_meth0 (pl := _) (pv 0) T.cl_Graph T.m_Graph_names (ok_Graph_names T) (hr.mono (by decide)) (b_Graph_names T) .nil pass0) pa_nil))))
      (pss_cons (ps_expr (pe_call (ok_check_known T) (hr.mono (by decide)) (by rfl) T.g_check_known T.F_check_known.kp (b_check_known T) .nil pass0 (pa_cons (pv 2) (pa_cons (pe_meth0 (pl := _) (pv 0) T.cl_Graph T.m_Graph_names (ok_Graph_names T) (hr.mono (by decide)) (b_Graph_names T) .nil pass0) pa_nil))))
      (pss_one (ps_ret (pe_or (pe_cmpR op_eq (pv 1) (pv 2) (nomark _)) (pe_one (pe_cmpR (show OpR _ (compareOp .In) (rIn K false) from op_in_seq) (pv 2) (pe_dget (hu_of hr) (show PE _ _ (tFld K _ _) from pe_fld (pv 0) rfl) (pv 1) (fun _ _ => rfl)) (by first | rfl | with_unfolding_all rfl)))))))), ?_⟩
    repeat (first | refine ⟨_, rfl, ?_⟩ | refine ⟨_, _, rfl, rfl, ?_⟩ | refine ⟨_, _, rfl, ?_⟩ | refine ⟨rfl, ?_⟩)
    refine ⟨p, dx, _, rfl, h1, gfl_no (by decide +kernel), ?_⟩
    repeat (first | refine ⟨_, rfl, ?_⟩ | refine ⟨_, _, rfl, rfl, ?_⟩ | refine ⟨_, _, rfl, ?_⟩ | refine ⟨rfl, ?_⟩)
    refine ⟨p, W, ns, N, rfl, hG, fun l nl => ?_⟩
    have s1 : Same H (upd H l (.lst (ns.map V.str))) := Same.new nl
    have hl : upd H l (.lst (ns.map V.str)) l = some (.lst (ns.map V.str)) := upd_same
    generalize upd H l (.lst (ns.map V.str)) = H1 at s1 hl
    repeat (first | refine ⟨_, rfl, ?_⟩ | refine ⟨_, _, rfl, rfl, ?_⟩ | refine ⟨_, _, rfl, ?_⟩ | refine ⟨rfl, ?_⟩)
    refine ⟨x, .ref l, ns, rfl, ⟨l, _, rfl, by simp, .inl hl, pd_strs⟩, hx, ?_⟩
    repeat (first | refine ⟨_, rfl, ?_⟩ | refine ⟨_, _, rfl, rfl, ?_⟩ | refine ⟨_, _, rfl, ?_⟩ | refine ⟨rfl, ?_⟩)
    refine ⟨p, dx, _, rfl, s1 _ _ h1, gfl_no (by decide +kernel), ?_⟩
    repeat (first | refine ⟨_, rfl, ?_⟩ | refine ⟨_, _, rfl, rfl, ?_⟩ | refine ⟨_, _, rfl, ?_⟩ | refine ⟨rfl, ?_⟩)
    refine ⟨p, W, ns, N, rfl, hG.same s1, fun l2 nl2 => ?_⟩
    have s2 : Same H1 (upd H1 l2 (.lst (ns.map V.str))) := Same.new nl2
    have hl2 : upd H1 l2 (.lst (ns.map V.str)) l2 = some (.lst (ns.map V.str)) := upd_same
    generalize upd H1 l2 (.lst (ns.map V.str)) = H2 at s2 hl2
    have s12 := s1.trans s2
    repeat (first | refine ⟨_, rfl, ?_⟩ | refine ⟨_, _, rfl, rfl, ?_⟩ | refine ⟨_, _, rfl, ?_⟩ | refine ⟨rfl, ?_⟩)
    refine ⟨y, .ref l2, ns, rfl, ⟨l2, _, rfl, by simp, .inl hl2, pd_strs⟩, hy, ?_⟩
    repeat (first | refine ⟨_, rfl, ?_⟩ | refine ⟨_, _, rfl, rfl, ?_⟩ | refine ⟨_, _, rfl, ?_⟩ | refine ⟨rfl, ?_⟩)
    refine ite2 (fun c => ?_) (fun c => ?_)
    · have e : decide (x = y) = true := by rw [← dec_vstr]; exact c
      have := q H2 s12
      rw [e, Bool.true_or] at this
      exact this
    have e : decide (x = y) = false := by rw [← dec_vstr]; exact Bool.eq_false_iff.mpr c
    repeat (first | refine ⟨_, rfl, ?_⟩ | refine ⟨_, _, rfl, rfl, ?_⟩ | refine ⟨_, _, rfl, ?_⟩ | refine ⟨rfl, ?_⟩)
    refine ⟨p, _, dx, _, _, rfl, s12 _ _ h1, T.cl_Graph, T.na_Graph__neighbors, gfl, ?_⟩
    repeat (first | refine ⟨_, rfl, ?_⟩ | refine ⟨_, _, rfl, rfl, ?_⟩ | refine ⟨_, _, rfl, ?_⟩ | refine ⟨rfl, ?_⟩)
    obtain ⟨a, hv, -, ha⟩ := nb_val pd nd hx
    have dg : DGet H2 dn (.str x) (some (.ref a)) := by rw [← hv]; exact DGet.k (k := Sum.inr x) (s12 _ _ h2)
    refine ⟨dn, _, rfl, dg, ?_⟩
    repeat (first | refine ⟨_, rfl, ?_⟩ | refine ⟨_, _, rfl, rfl, ?_⟩ | refine ⟨_, _, rfl, ?_⟩ | refine ⟨rfl, ?_⟩)
    refine ⟨a, _, rfl, .inl (SqL.of (s12 _ _ ha)), rfl, flat_str _, ?_⟩
    rw [inV_str]
    have := q H2 s12
    rw [e, Bool.false_or] at this
    exact this

end K46
namespace K46
open PySem PySem.Spec PyProof.Rows L2 TL
/-! ### its edges; equal graphs -/
def rowG (N : Str → List Str) (ns : List Str) (k : Nat) : List (Str × Str) := match ns[k]? with
  | some x => ((ns.drop (k + 1)).filter fun y => decide (y ∈ N x)).map fun y => (x, y)
  | none => []
def edU (N : Str → List Str) (ns : List Str) (i : Nat) : List (Str × Str) := (List.range i).flatMap (rowG N ns)
theorem edU_succ (N : Str → List Str) (ns : List Str) (i : Nat) : edU N ns (i + 1) = edU N ns i ++ rowG N ns i := by
  unfold edU
  rw [List.range_succ, List.flatMap_append]
  simp
theorem rowG_len (N : Str → List Str) (ns : List Str) (k : Nat) : (rowG N ns k).length ≤ ns.length := by
  unfold rowG
  split
  · rw [List.length_map]
    exact Nat.le_trans (List.length_filter_le _ _) (by rw [List.length_drop]; omega)
  · exact Nat.zero_le _
theorem edU_len (N : Str → List Str) (ns : List Str) : ∀ i, (edU N ns i).length ≤ ns.length * i
  | 0 => Nat.le_refl _
  | i + 1 => by
    rw [edU_succ, List.length_append, Nat.mul_succ]
    exact Nat.add_le_add (edU_len N ns i) (rowG_len N ns i)
def sp_ged (C : Addr) : Sp := fun vs H Q _ => ∃ (M : List Addr) (p : Addr) (W : Addr → Prop) (ns : List Str) (N : Str → List Str), vs = [.ref p] ∧ Alv M H ∧ IsG C H W p ns N ∧ ns.Nodup ∧ ns.length ≤ 8 ∧ ∀ D H', Same H H' → H D = none → (sL sPS).at M H' (.ref D) (edU N ns ns.length) → Q (.ref D) H'
theorem ok_Graph_edges {P : Program} {w : World} {K : PySem.W.Frag} {mg : Str → Option Value} {base : Heap} (T : Txt P K mg) : FnOk P w K mg base CX0 2 T.f_Graph_edges T.fd_Graph_edges ["self"] (sp_ged T.C_Graph) := by
  refine T.F_Graph_edges.ok sc_Graph_edges (fun vs H Q E h => ?_) (fun cdv A outer s H vs Q E hr h => ?_)
  · obtain ⟨_, _, _, _, _, rfl, _⟩ := h; rfl
  · obtain ⟨M, p, W, ns, N, rfl, al, hG, nd, l8, q⟩ := h
    obtain ⟨dx, dn, kvs, h1, w1, h2, w2, pd⟩ := id hG
    refine ⟨_, PSs.nox (pss_cons (ps_set (i := 1) sc_Graph_edges.nd rfl (Or.inr rfl) (pe_meth0 (pl := _) (pv 0) T.cl_Graph T.m_Graph_names (ok_Graph_names T) (hr.mono (by decide)) (b_Graph_names T) .nil pass0))
      (pss_one (ps_ret (pe_lc2 (own := [("place", 2), ("one", 3), ("other", 4)]) (vs1 := [4]) (g := gTup K 2 (gCons (gName 2) (gCons (gName 3) gNil))) (g1 := gName 4) rfl sc_Graph_edges.nd (pi_enum (by rfl) T.n_enumerate (pa_cons (pv 1) pa_nil)) (blkOk_by (own := [("place", 2), ("one", 3), ("other", 4)]) (N := N_Graph_edges) (sc := defScope s_Graph_edges) (by decide +kernel)) (by decide) (fun _ _ _ _ _ => (pg_tup rfl (pgs_cons (pg_name (i := 2) sc_Graph_edges.nd rfl (Or.inl rfl)) (pgs_cons (pg_name (i := 3) sc_Graph_edges.nd rfl (Or.inl rfl)) pgs_nil)))) (fun _ _ _ _ _ => pts_nil) (fun _ _ _ _ _ => (show PI _ _ _ (iList K _) from (pi_list (pe_slice (show SlR _ (rSlL K) from sl_list) (pv 1) (po_some (pe_op op_add (pv 2) pe_int)) po_none)))) (fun _ _ _ _ _ => (pg_name (i := 4) sc_Graph_edges.nd rfl (Or.inl rfl))) (fun _ _ _ _ _ => pts_one (pt_cmpR (show OpR _ (compareOp .In) (rIn K false) from op_in_seq) (pv 4) (pe_dget (hu_of hr) (show PE _ _ (tFld K _ _) from pe_fld (pv 0) rfl) (pv 3) (fun _ _ => rfl)) (by first | rfl | with_unfolding_all rfl))) (fun _ _ _ _ _ => (pe_tup (pa_cons (pv 3) (pa_cons (pv 4) pa_nil)))))))), ?_⟩
    repeat (first | refine ⟨_, rfl, ?_⟩ | refine ⟨_, _, rfl, rfl, ?_⟩ | refine ⟨_, _, rfl, ?_⟩ | refine ⟨rfl, ?_⟩)
    refine ⟨p, dx, _, rfl, h1, gfl_no (by decide +kernel), ?_⟩
    repeat (first | refine ⟨_, rfl, ?_⟩ | refine ⟨_, _, rfl, rfl, ?_⟩ | refine ⟨_, _, rfl, ?_⟩ | refine ⟨rfl, ?_⟩)
    refine ⟨p, W, ns, N, rfl, hG, fun l nl => ?_⟩
    have s1 : Same H (upd H l (.lst (ns.map V.str))) := Same.new nl
    have hl : upd H l (.lst (ns.map V.str)) l = some (.lst (ns.map V.str)) := upd_same
    generalize upd H l (.lst (ns.map V.str)) = H1 at s1 hl
    have al1 : Alv M H1 := al.go (Stp.of_same (m := []) s1)
    repeat (first | refine ⟨_, rfl, ?_⟩ | refine ⟨_, _, rfl, rfl, ?_⟩ | refine ⟨_, _, rfl, ?_⟩ | refine ⟨rfl, ?_⟩)
    refine ⟨l, _, rfl, SqL.of hl, fun D nD => ?_⟩
    refine lc2_it (walk_enum (K := K) (a := l) (xs := ns.map V.str)) (fun i H' => ∃ zs, Acc sPS D M [] H1 H' zs ∧ zs = edU N ns i) ⟨[], Acc.start al1 nD (by simp), rfl⟩ (fun i H' _ ⟨_, a, _⟩ => SqL.of (a.st.same _ _ hl)) ?_ ?_
    · rintro i y H3 H4 hi ⟨zs, ac, ez⟩ ⟨T1, x1, x2, rfl, nT, rfl, ex1, ex2⟩
      cases ex1
      replace ex2 : (ns.map V.str)[i]? = some x2 := ex2
      rw [List.getElem?_map] at ex2
      obtain ⟨n, hn, rfl⟩ := Option.map_eq_some_iff.mp ex2
      have mn := List.mem_of_getElem? hn
      have ac := ac.go (Stp.new (m := []) (o := .tup [.int (i : Nat), .str n]) nT)
      refine ⟨T1, _, rfl, .inl (.inl upd_same), rfl, _, _, rfl, _, _, rfl, rfl, ?_⟩
      generalize upd H3 T1 (.tup [.int (i : Nat), .str n]) = G5 at ac
      have s5 := ac.st.same
      refine ⟨(wipe_in (by decide)).trans (wipe_in (by decide)), ?_⟩
      repeat (first | refine ⟨_, rfl, ?_⟩ | refine ⟨_, _, rfl, rfl, ?_⟩ | refine ⟨_, _, rfl, ?_⟩ | refine ⟨rfl, ?_⟩)
      refine ⟨l, _, rfl, SqL.of (s5 _ _ hl), fun l4 nl4 => ?_⟩
      rw [show ((i : Nat) : Int) + 1 = ((i + 1 : Nat) : Int) from rfl, cut_from, ← List.map_drop]
      obtain ⟨_, hD5, _⟩ := ac.ac
      have nl4D : l4 ≠ D := fun e => by rw [e, hD5] at nl4; cases nl4
      have ac := ac.go (Stp.new (m := []) (o := .lst ((ns.drop (i + 1)).map V.str)) nl4)
      have hl4 : upd G5 l4 (.lst ((ns.drop (i + 1)).map V.str)) l4 = some (.lst ((ns.drop (i + 1)).map V.str)) := upd_same
      generalize upd G5 l4 (.lst ((ns.drop (i + 1)).map V.str)) = G6 at ac hl4
      have li := (List.getElem?_eq_some_iff.mp hn).1
      have lz := edU_len N ns i
      refine ⟨l4, rfl, ⟨_, SqL.of hl4⟩, lc_in (walk_list (K := K) (a := l4) (xs := (ns.drop (i + 1)).map V.str)) (fun j H' => ∃ zs, Acc sPS D M [] H1 H' zs ∧ (zs = edU N ns i ++ (((ns.drop (i + 1)).take j).filter fun y => decide (y ∈ N n)).map fun y => (n, y)) ∧ H' l4 = some (.lst ((ns.drop (i + 1)).map V.str))) ⟨zs, ac, by rw [ez]; simp, hl4⟩ (fun j H' _ ⟨_, _, _, k⟩ => SqL.of k) ?_ ?_⟩
      · rintro j z H7 H8 hj ⟨zs2, ac2, ez2, hl7⟩ ⟨rfl, hz⟩
        rw [List.getElem?_map] at hz
        obtain ⟨m, hm, rfl⟩ := Option.map_eq_some_iff.mp hz
        have mm := List.mem_of_mem_drop (List.mem_of_getElem? hm)
        have lj := (List.getElem?_eq_some_iff.mp hm).1
        rw [List.length_drop] at lj
        have s7 := s1.trans ac2.st.same
        refine ⟨wipe_in (by decide), ?_⟩
        rw [ftake _ hm]
        repeat (first | refine ⟨_, rfl, ?_⟩ | refine ⟨_, _, rfl, rfl, ?_⟩ | refine ⟨_, _, rfl, ?_⟩ | refine ⟨rfl, ?_⟩)
        refine ⟨p, _, dx, _, _, rfl, s7 _ _ h1, T.cl_Graph, T.na_Graph__neighbors, gfl, ?_⟩
        repeat (first | refine ⟨_, rfl, ?_⟩ | refine ⟨_, _, rfl, rfl, ?_⟩ | refine ⟨_, _, rfl, ?_⟩ | refine ⟨rfl, ?_⟩)
        obtain ⟨a, hv, -, ha⟩ := nb_val pd nd mn
        have dg : DGet H8 dn (.str n) (some (.ref a)) := by rw [← hv]; exact DGet.k (k := Sum.inr n) (s7 _ _ h2)
        refine ⟨dn, _, rfl, dg, ?_⟩
        repeat (first | refine ⟨_, rfl, ?_⟩ | refine ⟨_, _, rfl, rfl, ?_⟩ | refine ⟨_, _, rfl, ?_⟩ | refine ⟨rfl, ?_⟩)
        refine ⟨a, _, rfl, .inl (SqL.of (s7 _ _ ha)), rfl, flat_str _, ?_⟩
        rw [inV_str]
        refine ⟨_, rfl, ite2 (fun c => ?_) (fun c => ?_)⟩
        · replace c : decide (m ∈ N n) = true := c
          repeat (first | refine ⟨_, rfl, ?_⟩ | refine ⟨_, _, rfl, rfl, ?_⟩ | refine ⟨_, _, rfl, ?_⟩ | refine ⟨rfl, ?_⟩)
          refine ⟨lenk 2 rfl (by decide), fun t nt => ?_⟩
          obtain ⟨vsD, hDv, pD⟩ := ac2.ac
          have ntD : t ≠ D := fun e => by rw [e, hDv] at nt; cases nt
          have lf := List.length_filter_le (fun y => decide (y ∈ N n)) ((ns.drop (i + 1)).take j)
          rw [List.length_take] at lf
          have l64 : ns.length * i ≤ 8 * 8 := Nat.mul_le_mul l8 (by omega)
          refine ac2.putB (y := (n, m)) (fun H => H l4 = some (.lst ((ns.drop (i + 1)).map V.str))) (R := fun us => us = edU N ns i ++ (((ns.drop (i + 1)).take j).filter (fun y => decide (y ∈ N n)) ++ if decide (m ∈ N n) = true then [m] else []).map fun y => (n, y)) (Stp.new nt) ⟨t, _, _, rfl, ?_, upd_same, rfl, rfl⟩ ?_ ?_ ?_
          · exact fun h => (List.mem_cons.mp h).elim ntD fun h => ac2.al.off (Same.none ac2.st.same nt) h
          · rw [ez2, List.length_append, List.length_map]; omega
          · rw [ez2, if_pos c, List.map_append, List.append_assoc]; rfl
          · intro H' k
            exact k _ _ nl4D (Same.new nt _ _ hl7)
        · replace c : ¬ decide (m ∈ N n) = true := c
          refine ⟨zs2, ac2, ?_, hl7⟩
          rw [ez2, if_neg c, List.append_nil]
      · rintro H7 ⟨zs2, ac2, ez2, hl7⟩
        refine ⟨zs2, ac2, ?_⟩
        rw [ez2, edU_succ, List.length_map, List.take_length]
        unfold rowG
        rw [hn]
    rintro H5 ⟨zs, ac, ez⟩
    rw [List.length_map] at ez
    repeat (first | refine ⟨_, rfl, ?_⟩ | refine ⟨_, _, rfl, rfl, ?_⟩ | refine ⟨_, _, rfl, ?_⟩ | refine ⟨rfl, ?_⟩)
    refine q _ _ (s1.trans ac.st.same) (Same.none s1 ac.nD) ?_
    rw [← ez]
    exact ac.done
theorem valV_mem {H : Hp} {W : Addr → Prop} {N : Str → List Str} : ∀ {kvs : List (Key × V)} {ns : List Str} {k : Key} {v : V}, ns.Nodup → Paired (NbR H W N) kvs ns → (k, v) ∈ kvs → valV kvs k = some v
  | _, _, _, _, _, .nil, h => by cases h
  | kv :: kvs, n :: ns, k, v, nd, .cons ⟨e, r⟩ t, h => by
    rw [List.nodup_cons] at nd
    rcases List.mem_cons.mp h with h | h
    · subst h; exact valV_pos rfl
    · have hk : k ∈ ns.map (Sum.inr : Str → Key) := by rw [← nb_keys t]; exact List.mem_map.mpr ⟨_, h, rfl⟩
      have ne : kv.1 ≠ k := fun z => by
        obtain ⟨x, hx, ex⟩ := List.mem_map.mp hk
        rw [← ex, e] at z
        exact nd.1 (by rw [Sum.inr.inj z]; exact hx)
      rw [valV_neg ne]
      exact valV_mem nd.2 t h
/-- the same graph -/
def sameG (ns ns' : List Str) (N N' : Str → List Str) : Bool := decide (ns = ns') && ns.all fun x => decide (N x = N' x)
theorem shd_strs' {l : List Str} (h : ∀ x ∈ l, NameOk x) : SeqAt.shaped (.list (l.map PyData.str)) = true := (Shd.list (k := 0) fun d hd => by
  obtain ⟨s, hs, rfl⟩ := List.mem_map.mp hd
  exact Shd.str (h s hs)).shaped (by decide)
theorem eqv_strs (a b : List Str) : PyData.eqv (.list (a.map PyData.str)) (.list (b.map PyData.str)) = decide (a = b) := eqv_mapI PyData.str eqv_s2 a b
def sp_geq (K : PySem.W.Frag) (C : Addr) : Sp := fun vs H Q _ => ∃ (p : Addr) (y : V) (W : Addr → Prop) (ns : List Str) (N : Str → List Str), vs = [.ref p, y] ∧ IsG C H W p ns N ∧ ns.Nodup ∧ (∀ x ∈ ns, NameOk x) ∧ (∀ x, ∀ z ∈ N x, NameOk z) ∧
  ((∃ (p' : Addr) (W' : Addr → Prop) (ns' : List Str) (N' : Str → List Str), y = .ref p' ∧ IsG C H W' p' ns' N' ∧ ns'.Nodup ∧ (∀ x ∈ ns', NameOk x) ∧ (∀ x, ∀ z ∈ N' x, NameOk z) ∧ ∀ H', Same H H' → Q (.bl (sameG ns ns' N N')) H') ∨
   (∃ t, TyX K H y t ∧ PySem.W.kitOne K t (.ref C) = some false ∧ Q (.bl false) H))
theorem ok_Graph_eq {P : Program} {w : World} {K : PySem.W.Frag} {mg : Str → Option Value} {base : Heap} (T : Txt P K mg) : FnOk P w K mg base CX0 1 T.f_Graph_eq T.fd_Graph_eq ["self", "other"] (sp_geq K T.C_Graph) := by
  refine T.F_Graph_eq.ok sc_Graph_eq (fun vs H Q E h => ?_) (fun cdv A outer s H vs Q E hr h => ?_)
  · obtain ⟨_, _, _, _, _, rfl, _⟩ := h; rfl
  · obtain ⟨p, y, W, ns, N, rfl, hG, nd, nm, nN, h⟩ := h
    obtain ⟨dx, dn, kvs, h1, w1, h2, w2, pd⟩ := id hG
    refine ⟨_, PSs.nox (pss_one (ps_ret (pe_and (pe_callB (show CallR _ _ (rIsi K) from call_isi) (by rfl) T.n_isinstance (by decide +kernel) (pa_cons (pv 1) (pa_cons (pe_glob (v := .ref T.C_Graph) (by rfl) T.g_Graph rfl) pa_nil))) (pe_and (pe_cmpR (show OpR _ (compareOp .Eq) (rEqD K) from op_eqD hr.units) (pe_callTy (show CallR _ _ rListD from call_list_dK (by rfl)) (by rfl) T.n_list (by decide +kernel) (pa_cons (show PE _ _ (tFld K _ _) from pe_fld (pv 0) rfl) pa_nil)) (pe_callTy (show CallR _ _ rListD from call_list_dK (by rfl)) (by rfl) T.n_list (by decide +kernel) (pa_cons (show PE _ _ (tFld K _ _) from pe_fld (pv 1) rfl) pa_nil)) (nomark _)) (pe_one (pe_cmpR (show OpR _ (compareOp .Eq) (rEqK K) from op_eqK (hu65 hr)) (show PE _ _ (tFld K _ _) from pe_fld (pv 0) rfl) (show PE _ _ (tFld K _ _) from pe_fld (pv 1) rfl) (nomark _))))))), ?_⟩
    rcases h with ⟨p', W', ns', N', rfl, hG', nd', nm', nN', q⟩ | ⟨t, ty, kk, q⟩
    rotate_left
    · exact ⟨_, rfl, _, _, t, _, _, rfl, .own _, ty, kk, _, rfl, q⟩
    obtain ⟨dx', dn', kvs', h1', w1', h2', w2', pd'⟩ := id hG'
    refine ⟨_, rfl, _, _, _, _, _, rfl, .own _, T.ow_Graph.ty h1', T.ow_Graph.me, _, rfl, ?_⟩
    repeat (first | refine ⟨_, rfl, ?_⟩ | refine ⟨_, _, rfl, rfl, ?_⟩ | refine ⟨_, _, rfl, ?_⟩ | refine ⟨rfl, ?_⟩)
    refine ⟨p, _, dx, _, _, rfl, h1, T.cl_Graph, T.na_Graph__neighbors, gfl, ?_⟩
    repeat (first | refine ⟨_, rfl, ?_⟩ | refine ⟨_, _, rfl, rfl, ?_⟩ | refine ⟨_, _, rfl, ?_⟩ | refine ⟨rfl, ?_⟩)
    refine ⟨dn, kvs, rfl, h2, fun l nl => ?_⟩
    rw [nb_strs pd]
    have s1 : Same H (upd H l (.lst (ns.map V.str))) := Same.new nl
    have hl : upd H l (.lst (ns.map V.str)) l = some (.lst (ns.map V.str)) := upd_same
    generalize upd H l (.lst (ns.map V.str)) = H1 at s1 hl
    repeat (first | refine ⟨_, rfl, ?_⟩ | refine ⟨_, _, rfl, rfl, ?_⟩ | refine ⟨_, _, rfl, ?_⟩ | refine ⟨rfl, ?_⟩)
    refine ⟨p', _, dx', _, _, rfl, s1 _ _ h1', T.cl_Graph, T.na_Graph__neighbors, gfl, ?_⟩
    repeat (first | refine ⟨_, rfl, ?_⟩ | refine ⟨_, _, rfl, rfl, ?_⟩ | refine ⟨_, _, rfl, ?_⟩ | refine ⟨rfl, ?_⟩)
    refine ⟨dn', kvs', rfl, s1 _ _ h2', fun l2 nl2 => ?_⟩
    rw [nb_strs pd']
    have s2 : Same H1 (upd H1 l2 (.lst (ns'.map V.str))) := Same.new nl2
    have hl2 : upd H1 l2 (.lst (ns'.map V.str)) l2 = some (.lst (ns'.map V.str)) := upd_same
    generalize upd H1 l2 (.lst (ns'.map V.str)) = H2 at s2 hl2
    have s12 := s1.trans s2
    repeat (first | refine ⟨_, rfl, ?_⟩ | refine ⟨_, _, rfl, rfl, ?_⟩ | refine ⟨_, _, rfl, ?_⟩ | refine ⟨rfl, ?_⟩)
    refine ⟨.list (ns.map PyData.str), .list (ns'.map PyData.str), .lst (SqL.of (s2 _ _ hl)) (dp_strs _), .lst (SqL.of hl2) (dp_strs _), shd_strs' nm, shd_strs' nm', ?_⟩
    rw [eqv_strs]
    by_cases e : ns = ns'
    · subst e
      rw [decide_eq_true rfl]
      repeat (first | refine ⟨_, rfl, ?_⟩ | refine ⟨_, _, rfl, rfl, ?_⟩ | refine ⟨_, _, rfl, ?_⟩ | refine ⟨rfl, ?_⟩)
      refine ⟨p, _, dx, _, _, rfl, s12 _ _ h1, T.cl_Graph, T.na_Graph__neighbors, gfl, ?_⟩
      repeat (first | refine ⟨_, rfl, ?_⟩ | refine ⟨_, _, rfl, rfl, ?_⟩ | refine ⟨_, _, rfl, ?_⟩ | refine ⟨rfl, ?_⟩)
      refine ⟨p', _, dx', _, _, rfl, s12 _ _ h1', T.cl_Graph, T.na_Graph__neighbors, gfl, ?_⟩
      refine ⟨dn, dn', kvs, kvs', (fun k => match k with | .inr x => decide (N x = N' x) | _ => false), rfl, rfl, s12 _ _ h2, s12 _ _ h2', fun k v u hm hv => ?_, ?_⟩
      · have hk : k ∈ ns.map (Sum.inr : Str → Key) := by rw [← nb_keys pd]; exact List.mem_map.mpr ⟨_, hm, rfl⟩
        obtain ⟨x, hx, rfl⟩ := List.mem_map.mp hk
        obtain ⟨a, hva, -, ha⟩ := nb_val pd nd hx
        obtain ⟨a', hva', -, ha'⟩ := nb_val pd' nd hx
        rw [hva'] at hv
        cases hv
        have ev : v = .ref a := by
          have := valV_mem nd pd hm
          rw [hva] at this
          cases this; rfl
        subst ev
        exact ⟨.list ((N x).map PyData.str), .list ((N' x).map PyData.str), .lst (SqL.of (s12 _ _ ha)) (dp_strs _), .lst (SqL.of (s12 _ _ ha')) (dp_strs _), shd_strs' (nN x), shd_strs' (nN' x), (eqv_strs _ _).symm⟩
      · have e1 : (kvs.length == kvs'.length) = true := by rw [plen pd, plen pd']; simp
        have e2 : (kvs.all fun p => (valV kvs' p.1).isSome && (fun k : Key => match k with | .inr x => decide (N x = N' x) | _ => false) p.1) = ns.all fun x => decide (N x = N' x) := by
          rw [show (kvs.all fun p => (valV kvs' p.1).isSome && (fun k : Key => match k with | .inr x => decide (N x = N' x) | _ => false) p.1) = (kvs.map (·.1)).all fun k => (valV kvs' k).isSome && (fun k : Key => match k with | .inr x => decide (N x = N' x) | _ => false) k by rw [List.all_map]; rfl, nb_keys pd, List.all_map]
          rw [Bool.eq_iff_iff, List.all_eq_true, List.all_eq_true]
          refine forall_congr' fun x => forall_congr' fun hx => ?_
          obtain ⟨a', hva', -, -⟩ := nb_val pd' nd hx
          show ((valV kvs' (Sum.inr x)).isSome && decide (N x = N' x)) = true ↔ _
          rw [hva']
          simp
        rw [e1, e2, Bool.true_and]
        have := q H2 s12
        unfold sameG at this
        rw [decide_eq_true rfl, Bool.true_and] at this
        exact this
    · rw [decide_eq_false e]
      have := q H2 s12
      unfold sameG at this
      rw [decide_eq_false e, Bool.false_and] at this
      repeat (first | refine ⟨_, rfl, ?_⟩ | refine ⟨_, _, rfl, rfl, ?_⟩ | refine ⟨_, _, rfl, ?_⟩ | refine ⟨rfl, ?_⟩)
      exact this

end K46
namespace K46
open PySem PySem.Spec PyProof.Rows L2 TL
def LS : List Str := (Str.ofString "abcdefghijklmnopqrstuvwxyz").cps.toList.map fun c => (⟨#[c]⟩ : Str)
theorem ls_nd : LS.Nodup := by decide +kernel
theorem ls_len : LS.length = 26 := by decide +kernel
theorem ls_ok : ∀ x ∈ LS, NameOk x := fun x hx => by
  have h : (LS.all fun x => decide (1 ≤ (tl x).length) && decide ((tl x).length ≤ 8) && (tl x).all fun c => decide (97 ≤ c) && decide (c ≤ 122)) = true := by decide +kernel
  have := List.all_eq_true.mp h x hx
  simp only [Bool.and_eq_true, decide_eq_true_eq, List.all_eq_true] at this
  exact ⟨this.1.1, this.1.2, fun c hc => this.2 c hc⟩
theorem php : ∀ {l m : List Str}, l.Nodup → (∀ x ∈ l, x ∈ m) → l.length ≤ m.length
  | [], _, _, _ => Nat.zero_le _
  | x :: t, m, nd, h => by
    rw [List.nodup_cons] at nd
    have hx := h x List.mem_cons_self
    have := php (l := t) (m := m.erase x) nd.2 fun y hy => (List.mem_erase_of_ne (fun e => nd.1 (by rw [← e]; exact hy))).mpr (h y (List.mem_cons_of_mem _ hy))
    rw [List.length_erase_of_mem hx] at this
    have hp := List.length_pos_of_mem hx
    rw [List.length_cons]
    omega
def sp_names : Sp := fun vs H Q _ => ∃ (b : Addr) (n : Nat) (c : Int), vs = [.ref b, .int c] ∧ Bag H b n ∧ n + 60 ≤ 1000000 ∧ 0 ≤ c ∧ c ≤ 8 ∧
  ∀ (p : Addr) (ys : List Str) H', Fr b H H' → H p = none → p ≠ b → H' p = some (.lst (ys.map V.str)) → (ys.length : Int) = c → (∀ y ∈ ys, NameOk y) → ys.Nodup → Bag H' b (n + 60) → Q (.ref p) H'
/-- a word that is no name yet -/
def spare (w : Str) (nms : List Str) (k : Nat) : List Str := ((LS.take k).filter fun x => !decide (cutS w none (some (7 : Nat)) ++ x ∈ nms)).map fun x => cutS w none (some (7 : Nat)) ++ x
theorem spare_some {w : Str} {nms : List Str} (h : nms.length ≤ 8) : ∃ x t, spare w nms 26 = x :: t := by
  refine List.exists_cons_of_ne_nil fun e => ?_
  unfold spare at e
  rw [List.map_eq_nil_iff, show LS.take 26 = LS by rw [← ls_len, List.take_length]] at e
  have nd : (LS.map fun x => cutS w none (some (7 : Nat)) ++ x).Nodup := by
    refine nodup_of_key (fun y => y) fun i j x y hij hx hy e => ?_
    rw [List.getElem?_map] at hx hy
    obtain ⟨x', hx', rfl⟩ := Option.map_eq_some_iff.mp hx
    obtain ⟨y', hy', rfl⟩ := Option.map_eq_some_iff.mp hy
    have e2 := congrArg tl e
    simp only [tl_append] at e2
    have e3 := ext_tl (List.append_cancel_left e2)
    subst e3
    obtain ⟨li, gi⟩ := List.getElem?_eq_some_iff.mp hx'
    obtain ⟨lj, gj⟩ := List.getElem?_eq_some_iff.mp hy'
    have n1 := List.nodup_iff_pairwise_ne.mp ls_nd
    rw [List.pairwise_iff_getElem] at n1
    exact n1 i j li lj hij (gi.trans gj.symm)
  have := php nd (m := nms) fun x hx => by
    obtain ⟨y, hy, rfl⟩ := List.mem_map.mp hx
    by_cases h : cutS w none (some (7 : Nat)) ++ y ∈ nms
    · exact h
    · have : y ∈ LS.filter fun x => !decide (cutS w none (some (7 : Nat)) ++ x ∈ nms) := List.mem_filter.mpr ⟨hy, by simpa using h⟩
      rw [e] at this
      cases this
  rw [List.length_map, ls_len] at this
  omega
theorem spare_mem {w : Str} {nms : List Str} {k : Nat} {x : Str} (h : x ∈ spare w nms k) : x ∉ nms ∧ ∃ c, x = cutS w none (some (7 : Nat)) ++ c ∧ c ∈ LS := by
  unfold spare at h
  obtain ⟨c, hc, rfl⟩ := List.mem_map.mp h
  obtain ⟨h1, h2⟩ := List.mem_filter.mp hc
  exact ⟨by simpa using h2, c, rfl, List.mem_of_mem_take h1⟩
theorem one_ls {c : Str} (h : c ∈ LS) : ∃ d, tl c = [d] ∧ 97 ≤ d ∧ d ≤ 122 := by
  obtain ⟨h1, h2, h3⟩ := ls_ok c h
  obtain ⟨d, hd, rfl⟩ := List.mem_map.mp h
  have : tl (⟨#[d]⟩ : Str) = [d] := rfl
  exact ⟨d, this, h3 d (by rw [this]; exact List.mem_singleton.mpr rfl)⟩
theorem ok_l_names {P : Program} {w : World} {K : PySem.W.Frag} {mg : Str → Option Value} {base : Heap} (T : Txt P K mg) : FnOk P w K mg base CX0 2 T.f_l_names T.fd_l_names ["_law_box_here", "_law_many"] (sp_names) := by
  refine T.F_l_names.ok sc_l_names (fun vs H Q E h => ?_) (fun cdv A outer s H vs Q E hr h => ?_)
  · obtain ⟨_, _, _, rfl, _⟩ := h; rfl
  · obtain ⟨b, n, c, rfl, hB, hn, c0, c8, q⟩ := h
    refine ⟨_, PSs.nox (pss_cons (ps_set (i := 2) sc_l_names.nd rfl (Or.inr rfl) pe_str)
      (pss_cons (ps_set (i := 3) sc_l_names.nd rfl (Or.inr rfl) (pe_lst pa_nil))
      (pss_cons (ps_for PassesOwn.never rfl (pi_range1 (by rfl) T.n_range (pa_cons (pv 1) pa_nil)) (pg_name (i := 4) sc_l_names.nd rfl (Or.inl rfl)) (pss_cons (ps_set (i := 5) sc_l_names.nd rfl (Or.inl rfl) pe_str)
      (Evl.pss_cut (ps_if (PW.pt (pw_and (pt_cmpR (show OpR _ (compareOp .NotEq) (rNeD K) from op_neD hr.units) (pv 3) (pe_lst pa_nil) (nomark _)) (pw_and1 (pt_cmpR op_eq (pe_call (ok_l_take T) (hr.mono (by decide)) (by rfl) T.g_l_take T.F_l_take.kp (b_l_take T) .nil pass0 (pa_cons (pv 0) (pa_cons pe_int pa_nil))) pe_int (nomark _))))) (pss_one (ps_set (i := 5) sc_l_names.nd rfl (Or.inl rfl) (pe_ix (show IxR _ (rIxL K) from ix_list) (pv 3) (pe_call (ok_l_take T) (hr.mono (by decide)) (by rfl) T.g_l_take T.F_l_take.kp (b_l_take T) .nil pass0 (pa_cons (pv 0) (pa_cons (pe_callB (show CallR _ _ (rLenSeq K) from call_len_seq) (by rfl) T.n_len (by decide +kernel) (pa_cons (pv 3) pa_nil)) pa_nil))) (fun _ _ => rfl)))) pss_nil)
      (pss_cons (ps_set (i := 6) sc_l_names.nd rfl (Or.inr rfl) (pe_slice sl_str (pe_op op_add_str (pv 5) (pe_join pe_str (pe_lc (own := [("_law_j", 9)]) (g := gName 9) rfl sc_l_names.nd (pi_range1 (by rfl) T.n_range (pa_cons (pe_op op_add pe_int (pe_call (ok_l_take T) (hr.mono (by decide)) (by rfl) T.g_l_take T.F_l_take.kp (b_l_take T) .nil pass0 (pa_cons (pv 0) (pa_cons pe_int pa_nil)))) pa_nil)) (blkOk_by (own := [("_law_j", 9)]) (N := N_l_names) (sc := defScope s_l_names) (by decide +kernel)) (fun _ _ _ _ _ => (pg_name (i := 9) sc_l_names.nd rfl (Or.inl rfl))) (fun _ _ _ _ _ => pts_nil) (fun _ _ _ _ _ => (pe_ix ix_str (pv 2) (pe_call (ok_l_take T) (hr.mono (by decide)) (by rfl) T.g_l_take T.F_l_take.kp (b_l_take T) .nil pass0 (pa_cons (pv 0) (pa_cons pe_int pa_nil))) (fun _ _ => rfl)))))) po_none (po_some pe_int)))
      (pss_cons (ps_setLc (i := 7) (own := [("_law_letter", 8)]) (g := gName 8) rfl sc_l_names.nd rfl rfl (sw_true rfl rfl rfl (by decide +kernel)) (pi_str (pv 2)) (blkOk_by (own := [("_law_letter", 8)]) (N := N_l_names) (sc := defScope s_l_names) (by decide +kernel)) (fun _ _ _ _ _ => (pg_name (i := 8) sc_l_names.nd rfl (Or.inl rfl))) (fun _ _ _ _ _ => pts_one (pt_cmpR (show OpR _ (compareOp .NotIn) (rIn K true) from op_notIn_seq) (pe_op op_add_str (pe_slice sl_str (pv 6) po_none (po_some pe_int)) (pv 8)) (pv 3) (by first | rfl | with_unfolding_all rfl))) (fun _ _ _ _ _ => (pe_op op_add_str (pe_slice sl_str (pv 6) po_none (po_some pe_int)) (pv 8))))
      (pss_one (ps_expr (pe_bm PySem.F.plainAttrs_list PySem.F.slot_list_append PySem.F.type_list_append mt_append (pv 3) (pa_cons (pe_ifExp (pt_cmpR (show OpR _ (compareOp .In) (rIn K false) from op_in_seq) (pv 6) (pv 3) (by first | rfl | with_unfolding_all rfl)) (pe_ix (show IxR _ (rIxL K) from ix_list) (pv 7) pe_int (fun _ _ => rfl)) (pv 6)) pa_nil)))))))))
      (pss_one (ps_ret (pv 3)))))), ?_⟩
    refine ⟨Nat.zero_le _, fun l nl => ?_⟩
    have nbl := hB.ne nl
    refine ⟨_, rfl, c, rfl, by omega, by omega, for_it walk_range (fun i σ H' => ∃ (ys : List Str) (x4 x5 x6 x7 : Option V), σ = [some (.ref b), some (.int c), some (.str AZ), some (.ref l), x4, x5, x6, x7, none, none] ∧
      Fr b H H' ∧ Bag H' b (n + 7 * i) ∧ H' l = some (.lst (ys.map V.str)) ∧ ys.length = i ∧ (∀ y ∈ ys, NameOk y) ∧ ys.Nodup) ?_ (fun _ _ _ _ _ => trivial) ?_ ?_⟩
    · exact ⟨[], _, _, _, _, rfl, Fr.new nl, hB.upd nbl, upd_same, rfl, (fun _ h => by cases h), .nil⟩
    · rintro i x σ H1 H1' hi ⟨ys, x4, x5, x6, x7, rfl, f1, b1, hl, ly, oky, nd⟩ ⟨rfl, rfl⟩
      have i8 : (i : Int) < c := by omega
      have hlb : l ≠ b := Ne.symm nbl
      refine ⟨fun σ H' => ∃ (w : Str) (x6 x7 : Option V), σ = [some (.ref b), some (.int c), some (.str AZ), some (.ref l), some (.int (0 + (i : Nat))), some (.str w), x6, x7, none, none] ∧ Fr b H H' ∧ Bag H' b (n + 7 * i + 2) ∧ H' l = some (.lst (ys.map V.str)) ∧ (∀ c ∈ tl w, 97 ≤ c ∧ c ≤ 122) ∧ (tl w).length ≤ 8, ?_, ?_⟩
      · repeat (first | refine ⟨_, rfl, ?_⟩ | refine ⟨_, _, rfl, rfl, ?_⟩ | refine ⟨_, _, rfl, ?_⟩ | refine ⟨rfl, ?_⟩)
        refine ⟨Nat.zero_le _, fun e0 ne0 => ?_⟩
        have nbe := b1.ne ne0
        refine ⟨.list (ys.map PyData.str), .list [], .lst (SqL.of (by rw [upd_ne (ne_of_none hl ne0)]; exact hl)) (dp_strs _), .lst (SqL.of upd_same) .nil, (Shd.list (k := 0) fun d hd => by
          obtain ⟨s, hs, rfl⟩ := List.mem_map.mp hd; exact Shd.str (oky s hs)).shaped (by decide), (Shd.list (k := 0) all0).shaped (by decide), ?_⟩
        repeat (first | refine ⟨_, rfl, ?_⟩ | refine ⟨_, _, rfl, rfl, ?_⟩ | refine ⟨_, _, rfl, ?_⟩ | refine ⟨rfl, ?_⟩)
        have f2 : Fr b H (upd H1' e0 (.lst [])) := f1.trans (Fr.new ne0)
        have b2 := b1.upd (o := .lst []) nbe
        have hl2 : upd H1' e0 (.lst []) l = some (.lst (ys.map V.str)) := by rw [upd_ne (ne_of_none hl ne0)]; exact hl
        generalize upd H1' e0 (.lst []) = H2 at f2 b2 hl2
        have e0c : (∀ c ∈ tl (Str.ofString ""), 97 ≤ c ∧ c ≤ 122) ∧ (tl (Str.ofString "")).length ≤ 8 := by decide +kernel
        have em : ∀ {H3 : Hp}, Fr b H H3 → Bag H3 b (n + 7 * i + 2) → H3 l = some (.lst (ys.map V.str)) → ∃ (w : Str) (x6' x7' : Option V), [some (.ref b), some (.int c), some (.str AZ), some (.ref l), some (.int (0 + (i : Nat))), some (.str (Str.ofString "")), x6, x7, none, none] = [some (.ref b), some (.int c), some (.str AZ), some (.ref l), some (.int (0 + (i : Nat))), some (.str w), x6', x7', none, none] ∧ Fr b H H3 ∧ Bag H3 b (n + 7 * i + 2) ∧ H3 l = some (.lst (ys.map V.str)) ∧ (∀ c ∈ tl w, 97 ≤ c ∧ c ≤ 122) ∧ (tl w).length ≤ 8 := fun f h3 hl3 =>
          ⟨Str.ofString "", _, _, rfl, f, h3, hl3, e0c.1, e0c.2⟩
        refine ite2 (fun c1 => ?_) (fun _ => em f2 (b2.mono (by omega)) hl2)
        have ne : ys ≠ [] := fun e => by rw [e] at c1; simp [PyData.eqv, PyData.eqvAll] at c1
        have l0 : 0 < ys.length := List.length_pos_iff.mpr ne
        repeat (first | refine ⟨_, rfl, ?_⟩ | refine ⟨_, _, rfl, rfl, ?_⟩ | refine ⟨_, _, rfl, ?_⟩ | refine ⟨rfl, ?_⟩)
        refine ⟨b, _, 3, rfl, b2, by omega, by decide, by decide, fun d1 H3 f3 b3 d10 d11 => ?_⟩
        have hl3 := f3 l _ hlb hl2
        refine ⟨rfl, _, rfl, ite2 (fun _ => ?_) (fun _ => em (f2.trans f3) (b3.mono (by omega)) hl3)⟩
        repeat (first | refine ⟨_, rfl, ?_⟩ | refine ⟨_, _, rfl, rfl, ?_⟩ | refine ⟨_, _, rfl, ?_⟩ | refine ⟨rfl, ?_⟩)
        refine ⟨l, _, rfl, .inl (SqL.of hl3), ?_⟩
        rw [List.length_map]
        refine ⟨b, _, _, rfl, b3, by omega, by omega, by omega, fun d2 H4 f4 b4 d20 d21 => ?_⟩
        have hl4 := f4 l _ hlb hl3
        obtain ⟨k, rfl⟩ := Int.eq_ofNat_of_zero_le d20
        have lk : k < ys.length := by omega
        refine ⟨l, _, _, .str ys[k], rfl, rfl, SqL.of hl4, atI_nat (by rw [List.getElem?_map, List.getElem?_eq_getElem lk]; rfl), ?_⟩
        have ok := oky _ (List.getElem_mem lk)
        exact ⟨_, _, _, rfl, (f2.trans f3).trans f4, b4.mono (by omega), hl4, ok.2.2, ok.2.1⟩
      · rintro σ H2 ⟨w, x6, x7, rfl, f2, b2, hl2, cw, lw⟩
        clear hl b1 f1
        repeat (first | refine ⟨_, rfl, ?_⟩ | refine ⟨_, _, rfl, rfl, ?_⟩ | refine ⟨_, _, rfl, ?_⟩ | refine ⟨rfl, ?_⟩)
        refine ⟨⟨_, rfl⟩, _, rfl, b, _, 4, rfl, b2, by omega, by decide, by decide, fun d1 H3 f3 b3 d10 d11 => ?_⟩
        have hl3 := f3 l _ hlb hl2
        repeat (first | refine ⟨_, rfl, ?_⟩ | refine ⟨_, _, rfl, rfl, ?_⟩ | refine ⟨_, _, rfl, ?_⟩ | refine ⟨rfl, ?_⟩)
        obtain ⟨k, rfl⟩ := Int.eq_ofNat_of_zero_le d10
        refine ⟨by omega, by omega, fun D nD => lc_range (PvP b D H3 (n + 7 * i + 2 + 1) 1 One) (pvP_0 b3 nD) (fun j H' hj p => ⟨rfl, ?_⟩) (fun H4 p => ?_)⟩
        · obtain ⟨-, -, zs, -, -, -, -, hb'⟩ := _root_.id p
          have hj4 : j < 4 := by omega
          refine ⟨_, rfl, _, rfl, b, _, 26, rfl, hb', by omega, by decide, by decide, fun d2 H5 f5 b5 d20 d21 => ?_⟩
          exact ⟨_, _, _, rfl, rfl, az_len, az_at d20 d21, pvP_put p f5 (b5.mono (by omega)) ⟨_, rfl, by omega, by omega⟩ (by omega)⟩
        obtain ⟨hD0, nDb, zs, lz, hz, hD, f4, b4⟩ := p
        have hl4 := f4 l _ hlb hl3
        obtain ⟨o1, o2⟩ := one_flat hz
        have lz4 : 1 ≤ zs.length ∧ zs.length ≤ 4 := by rw [lz]; omega
        have hjs := join_size (a := Str.ofString "") (L := 1) (fun s hs' => by obtain ⟨c, rfl, _⟩ := hz s hs'; exact Nat.le_refl _) (n := 4) (A := 0) lz4.2 (by decide +kernel)
        refine ⟨_, D, zs, rfl, rfl, .inl (SqL.of hD), by omega, ?_⟩
        have hst := tl_join0 zs
        generalize Txt.join (Str.ofString "") zs = tail at hst
        have ltail : tail.length ≤ 4 := by rw [len_tl, hst, o1]; exact lz4.2
        have lw' : w.length ≤ 8 := by rw [len_tl]; exact lw
        refine ⟨_, _, rfl, rfl, slen (by omega), ?_⟩
        refine ⟨_, rfl, w ++ tail, rfl, slen (by rw [app_len]; omega), ?_⟩
        have e8 : tl (cutS (w ++ tail) none (some ((8 : Nat) : Int))) = (tl w ++ (zs.map tl).flatten).take 8 := by rw [tl_cut0, tl_append, hst]
        have okw : NameOk (cutS (w ++ tail) none (some ((8 : Nat) : Int))) := by
          refine ⟨by rw [e8, List.length_take, List.length_append, o1]; omega, by rw [e8, List.length_take]; omega, fun c hc => ?_⟩
          rw [e8] at hc
          rcases List.mem_append.mp (List.mem_of_mem_take hc) with h | h
          · exact cw c h
          · exact o2 c h
        show tSeq _ _ _ _ _
        generalize hwd : cutS (w ++ tail) none (some ((8 : Nat) : Int)) = wd at okw
        have lwd : wd.length ≤ 8 := by rw [len_tl]; exact okw.2.1
        have l7 : (cutS wd none (some (7 : Int))).length ≤ wd.length := cutS_length wd none (some (7 : Int))
        have l7' : (cutS wd none (some ((7 : Nat) : Int))).length ≤ wd.length := l7
        have F4 := (f2.trans f3).trans f4
        have b4 : Bag H4 b (n + 7 * (i + 1)) := b4.mono (by omega)
        clear hD f4 f3 f2 b3 hl2 hl3 b2 hst e8
        refine ⟨_, rfl, _, rfl, fun P nP => ?_⟩
        refine lc_it walk_str (fun j H' => H' P = some (.lst ((spare wd ys j).map V.str)) ∧ Same H4 H') ⟨upd_same, Same.new nP⟩ (fun _ _ _ _ => trivial) ?_ ?_
        · rintro j x Hx H5 hj ⟨h1, s1⟩ ⟨rfl, d, hd, rfl⟩
          have hL : LS[j]? = some ⟨#[d]⟩ := by
            unfold LS
            rw [List.getElem?_map, show (Str.ofString "abcdefghijklmnopqrstuvwxyz").cps.toList = AZ.cps.toList from rfl, Array.getElem?_toList, hd]; rfl
          obtain ⟨li, eL⟩ := List.getElem?_eq_some_iff.mp hL
          have l1 : (⟨#[d]⟩ : Str).length = 1 := rfl
          refine ⟨rfl, ?_⟩
          refine ⟨_, rfl, _, rfl, _, rfl, slen (by omega), _, rfl, _, _, rfl, rfl, slen (by omega), ?_⟩
          refine ⟨_, rfl, l, _, rfl, .inl (SqL.of (s1 _ _ hl4)), rfl, flat_str _, _, rfl, ?_⟩
          rw [inV_str]
          have sn : spare wd ys (j + 1) = spare wd ys j ++ (if (!decide (cutS wd none (some ((7 : Nat) : Int)) ++ (⟨#[d]⟩ : Str) ∈ ys)) = true then [cutS wd none (some ((7 : Nat) : Int)) ++ (⟨#[d]⟩ : Str)] else []) := by
            unfold spare
            rw [take_snoc li, List.filter_append, eL, List.filter_cons, List.map_append]
            congr 1
            split <;> rfl
          have l26 : (spare wd ys j).length ≤ 26 := by
            unfold spare
            rw [List.length_map]
            exact Nat.le_trans (List.length_filter_le _ _) (by rw [List.length_take, ls_len]; omega)
          by_cases hm : cutS wd none (some ((7 : Nat) : Int)) ++ (⟨#[d]⟩ : Str) ∈ ys
          · rw [decide_eq_true hm] at sn
            rw [show (7 : Int) = ((7 : Nat) : Int) from rfl, decide_eq_true hm]
            refine iteF ⟨?_, s1⟩
            rw [sn, if_neg (by simp), List.append_nil]
            exact h1
          · rw [decide_eq_false hm] at sn
            rw [show (7 : Int) = ((7 : Nat) : Int) from rfl, decide_eq_false hm]
            refine iteT ⟨_, rfl, _, rfl, _, rfl, slen (by omega), _, rfl, _, _, rfl, rfl, slen (by omega), _, h1, by rw [List.length_map, sizeLine_eq]; omega, ?_, Same.upd_p s1 nP⟩
            rw [upd_same, sn, if_pos (show (!false) = true from rfl), List.map_append]; rfl
        rintro H5 ⟨hP, s5⟩
        have e26 : AZ.cps.size = 26 := by decide +kernel
        have hl5 := s5 _ _ hl4
        have fin : ∀ z : Str, NameOk z → z ∉ ys → ∃ (ys' : List Str) (x4 x5 x6 x7 : Option V), [some (V.ref b), some (.int c), some (.str AZ), some (.ref l), some (.int (0 + (i : Nat))), some (.str w), some (.str wd), some (.ref P), none, none] = [some (.ref b), some (.int c), some (.str AZ), some (.ref l), x4, x5, x6, x7, none, none] ∧
            Fr b H (upd H5 l (.lst (ys.map V.str ++ [.str z]))) ∧ Bag (upd H5 l (.lst (ys.map V.str ++ [.str z]))) b (n + 7 * (i + 1)) ∧ upd H5 l (.lst (ys.map V.str ++ [.str z])) l = some (.lst (ys'.map V.str)) ∧ ys'.length = i + 1 ∧ (∀ y ∈ ys', NameOk y) ∧ ys'.Nodup := fun z oz nz =>
          ⟨ys ++ [z], _, _, _, _, rfl, (F4.trans (Fr.of_same s5)).upd_p nl, (b4.same s5).upd nbl, by rw [upd_same, List.map_append]; rfl, by rw [List.length_append, ly]; rfl, fun y hy => by
            rcases List.mem_append.mp hy with h | h
            · exact oky y h
            · rw [List.mem_singleton.mp h]; exact oz, List.nodup_append.mpr ⟨nd, by simp, fun a ha b hb e => nz (by rw [List.mem_singleton.mp hb] at e; rw [← e]; exact ha)⟩⟩
        refine ⟨_, rfl, .inl ⟨rfl, _, SqL.of hl5⟩, ?_⟩
        refine ⟨_, rfl, _, rfl, l, _, rfl, .inl (SqL.of hl5), rfl, flat_str _, _, rfl, ?_⟩
        rw [inV_str]
        have le : (ys.map V.str).length < sizeLine := by rw [List.length_map, ly, sizeLine_eq]; omega
        refine ite2 (fun hm => ?_) (fun hm => ⟨_, rfl, l, _, _, rfl, rfl, hl5, le, fin wd okw (by simpa using hm)⟩)
        rw [e26] at hP
        obtain ⟨x, t, ex⟩ := spare_some (w := wd) (nms := ys) (by omega)
        obtain ⟨n1, c1, e1, m1⟩ := spare_mem (k := 26) (x := x) (by rw [ex]; exact List.mem_cons_self)
        obtain ⟨d, td, d1, d2⟩ := one_ls m1
        rw [ex] at hP
        refine ⟨_, rfl, P, _, (0 : Int), .str x, rfl, rfl, SqL.of hP, atI_nat (j := 0) rfl, l, _, _, rfl, rfl, hl5, le, fin x ?_ n1⟩
        have ex2 : tl x = (tl wd).take 7 ++ [d] := by rw [e1, tl_append, tl_cut0, td]
        refine ⟨by rw [ex2, List.length_append]; simp, by rw [ex2, List.length_append, List.length_take]; show _ + 1 ≤ 8; omega, fun c hc => ?_⟩
        rw [ex2] at hc
        rcases List.mem_append.mp hc with h | h
        · exact okw.2.2 c (List.mem_of_mem_take h)
        · rw [List.mem_singleton.mp h]; exact ⟨d1, d2⟩
    · rintro σ H' ⟨ys, x4, x5, x6, x7, rfl, f1, b1, hl, ly, oky, nd⟩
      exact ⟨_, rfl, q l ys H' f1 nl (Ne.symm nbl) hl (by omega) oky nd (b1.mono (by omega))⟩

end K46
namespace K46
open PySem PySem.Spec PyProof.Rows L2 TL
/-! ### a graph drawn -/
abbrev sII : Sh (Int × Int) := sP sInt sInt
def sNN : Sh (Nat × Nat) := ⟨fun W H v x => sII.r W H v ((x.1 : Nat), (x.2 : Nat)), fun h k => sII.mv h k⟩
def rowP (c k : Nat) : List (Nat × Nat) := ((List.range c).drop (k + 1)).map fun j => (k, j)
def allU (c i : Nat) : List (Nat × Nat) := (List.range i).flatMap (rowP c)
abbrev allP (c : Nat) : List (Nat × Nat) := allU c c
theorem allU_succ (c i : Nat) : allU c (i + 1) = allU c i ++ rowP c i := by
  unfold allU
  rw [List.range_succ, List.flatMap_append]
  simp
theorem rowP_len (c k : Nat) : (rowP c k).length = c - (k + 1) := by
  unfold rowP
  rw [List.length_map, List.length_drop, List.length_range]
theorem rowP_get {c k j : Nat} (h : k + 1 + j < c) : (rowP c k)[j]? = some (k, k + 1 + j) := by
  unfold rowP
  rw [List.getElem?_map, List.getElem?_drop, List.getElem?_range h]; rfl
def sp_lgraph (K : PySem.W.Frag) : Sp := fun vs H Q _ => ∃ (M : List Addr) (b : Addr) (n c : Nat), vs = [.ref b, .int (c : Nat)] ∧ b ∈ M ∧ Alv M H ∧ Bag H b n ∧ n + 200 ≤ 1000000 ∧ 1 ≤ c ∧ c ≤ 8 ∧
  ∀ (w : V) (ns : List Str) (es : List (Nat × Nat)) H', Stp [b] H H' → Bag H' b (n + 200) → (sP (sL sStr) (sL sNN)).at M H' w (ns, es) → GNOk ns → ns.length = c → es.Sublist (allP c) → Q w H'
theorem ok_l_graph {P : Program} {w : World} {K : PySem.W.Frag} {mg : Str → Option Value} {base : Heap} (T : Txt P K mg) : FnOk P w K mg base CX0 3 T.f_l_graph T.fd_l_graph ["_law_box_here", "_law_many"] (sp_lgraph K) := by
  refine T.F_l_graph.ok sc_l_graph (fun vs H Q E h => ?_) (fun cdv A outer s H vs Q E hr h => ?_)
  · obtain ⟨_, _, _, _, rfl, _⟩ := h; rfl
  · obtain ⟨M, b, n, c, rfl, hb, al, hB, hn, c1, c8, q⟩ := h
    refine ⟨_, PSs.nox (pss_cons (ps_set (i := 2) sc_l_graph.nd rfl (Or.inl rfl) (pe_call (ok_l_names T) (hr.mono (by decide)) (by rfl) T.g_l_names T.F_l_names.kp (b_l_names T) .nil pass0 (pa_cons (pv 0) (pa_cons (pv 1) pa_nil))))
      (pss_cons (ps_set (i := 3) sc_l_graph.nd rfl (Or.inl rfl) (pe_op op_add pe_int (pe_call (ok_l_take T) (hr.mono (by decide)) (by rfl) T.g_l_take T.F_l_take.kp (b_l_take T) .nil pass0 (pa_cons (pv 0) (pa_cons pe_int pa_nil)))))
      (pss_cons (ps_set (i := 4) sc_l_graph.nd rfl (Or.inl rfl) (pe_lst pa_nil))
      (pss_cons (ps_for PassesOwn.never rfl (pi_range1 (by rfl) T.n_range (pa_cons (pv 1) pa_nil)) (pg_name (i := 5) sc_l_graph.nd rfl (Or.inl rfl)) (pss_one (ps_for PassesOwn.never rfl (pi_range2 (by rfl) T.n_range (pa_cons (pe_op op_add (pv 5) pe_int) (pa_cons (pv 1) pa_nil))) (pg_name (i := 6) sc_l_graph.nd rfl (Or.inl rfl)) (pss_one (ps_if (pt_cmpR op_lt (pe_call (ok_l_take T) (hr.mono (by decide)) (by rfl) T.g_l_take T.F_l_take.kp (b_l_take T) .nil pass0 (pa_cons (pv 0) (pa_cons pe_int pa_nil))) (pv 3) (nomark _)) (pss_one (ps_expr (pe_bm PySem.F.plainAttrs_list PySem.F.slot_list_append PySem.F.type_list_append mt_append (pv 4) (pa_cons (pe_tup (pa_cons (pv 5) (pa_cons (pv 6) pa_nil))) pa_nil)))) pss_nil)))))
      (pss_one (ps_ret (pe_tup (pa_cons (pv 2) (pa_cons (pv 4) pa_nil))))))))), ?_⟩
    rw [show L2.start N_l_graph [V.ref b, V.int (c : Nat)] = [some (.ref b), some (.int (c : Nat)), none, none, none, none, none] from rfl]
    repeat (first | refine ⟨_, rfl, ?_⟩ | refine ⟨_, _, rfl, rfl, ?_⟩ | refine ⟨_, _, rfl, ?_⟩ | refine ⟨rfl, ?_⟩)
    refine ⟨b, n, (c : Nat), rfl, hB, by omega, by omega, by omega, fun p ns H1 f1 np npb hp hl nm nd b1 => ?_⟩
    have st1 : Stp [b] H H1 := f1.stp b1.some
    have nbp : p ∉ [b] := mem1.mpr npb
    repeat (first | refine ⟨_, rfl, ?_⟩ | refine ⟨_, _, rfl, rfl, ?_⟩ | refine ⟨_, _, rfl, ?_⟩ | refine ⟨rfl, ?_⟩)
    refine ⟨b, _, 4, rfl, b1, by omega, by decide, by decide, fun i2 H2 f2 b2 x0 x1 => ?_⟩
    have st2 := st1.trans (f2.stp b2.some)
    have hp2 := (f2.stp b2.some).at hp nbp
    repeat (first | refine ⟨_, rfl, ?_⟩ | refine ⟨_, _, rfl, rfl, ?_⟩ | refine ⟨_, _, rfl, ?_⟩ | refine ⟨rfl, ?_⟩)
    refine ⟨lenk 0 rfl (by decide), fun F nF => ?_⟩
    have nFH : H F = none := st2.none nF
    have st3 : Stp [b] H (upd H2 F (.lst [])) := st2.trans (Stp.new nF)
    have hF3 : upd H2 F (.lst []) F = some (.lst []) := upd_same
    have b3 := b2.upd (o := .lst []) (b2.ne nF)
    have hp3 := Same.new (o := .lst []) nF _ _ hp2
    have nFb : F ≠ b := (b2.ne nF).symm
    have npF : p ≠ F := fun e => by rw [e, nF] at hp2; cases hp2
    generalize upd H2 F (.lst []) = H3 at st3 hF3 b3 hp3
    repeat (first | refine ⟨_, rfl, ?_⟩ | refine ⟨_, _, rfl, rfl, ?_⟩ | refine ⟨_, _, rfl, ?_⟩ | refine ⟨rfl, ?_⟩)
    refine ⟨by omega, by omega, for_it walk_range (fun i σ G => ∃ (y5 y6 : Option V) (fs : List V) (zs : List (Nat × Nat)), σ = [some (.ref b), some (.int (c : Nat)), some (.ref p), some (.int (1 + i2)), some (.ref F), y5, y6] ∧ Stp [b] H G ∧ Bag G b (n + 61 + 8 * i) ∧ G p = some (.lst (ns.map V.str)) ∧ G F = some (.lst fs) ∧ Paired (sNN.at (F :: M) G) fs zs ∧ zs.Sublist (allU c i) ∧ zs.length ≤ 8 * i) ⟨_, _, [], [], rfl, st3, b3.mono (by omega), hp3, hF3, .nil, List.nil_sublist _, Nat.zero_le _⟩ (fun _ _ _ _ _ => trivial) (fun i x σ G1 G2 hi pp yy => ?_) fun σ G1 pp => ?_⟩
    rotate_left
    · obtain ⟨y5, y6, fs, zs, rfl, st, bg, hpG, hFG, pF, sub, _⟩ := pp
      repeat (first | refine ⟨_, rfl, ?_⟩ | refine ⟨_, _, rfl, rfl, ?_⟩ | refine ⟨_, _, rfl, ?_⟩ | refine ⟨rfl, ?_⟩)
      refine ⟨lenk 2 rfl (by decide), fun t nt => ?_⟩
      have alG := al.go st
      have npM : p ∉ M := al.off np
      have nFM : F ∉ M := al.off nFH
      have sT : Stp [] G1 (upd G1 t (.tup [.ref p, .ref F])) := Stp.new nt
      have bT := bg.upd (o := .tup [.ref p, .ref F]) (bg.ne nt)
      refine q _ ns zs _ (st.trans (Stp.new nt)) (bT.mono (by omega)) ?_ ⟨by omega, by omega, nm, nd⟩ (by omega) sub
      refine mk_P (s := sL sStr) (t := sL sNN) alG nt ⟨p, _, rfl, npM, hpG, pd_strs⟩ ⟨F, fs, rfl, nFM, hFG, Paired.mapP pF fun _ _ z => sNN.mv z fun a o n e => ⟨e, fun h => n (List.mem_cons_of_mem _ h)⟩⟩
    obtain ⟨y5, y6, fs, zs, rfl, st, bg, hpG, hFG, pF, sub, lz⟩ := pp
    obtain ⟨rfl, rfl⟩ := yy
    have li : i < c := by omega
    repeat (first | refine ⟨_, rfl, ?_⟩ | refine ⟨_, _, rfl, rfl, ?_⟩ | refine ⟨_, _, rfl, ?_⟩ | refine ⟨rfl, ?_⟩)
    refine ⟨⟨by omega, by omega, by omega, by omega⟩, for_it walk_range (fun j σ G => ∃ (y6 : Option V) (fs : List V) (zs : List (Nat × Nat)), σ = [some (.ref b), some (.int (c : Nat)), some (.ref p), some (.int (1 + i2)), some (.ref F), some (.int (0 + (i : Int))), y6] ∧ Stp [b] H G ∧ Bag G b (n + 61 + 8 * i + j) ∧ G p = some (.lst (ns.map V.str)) ∧ G F = some (.lst fs) ∧ Paired (sNN.at (F :: M) G) fs zs ∧ zs.Sublist (allU c i ++ (rowP c i).take j) ∧ zs.length ≤ 8 * i + j) ⟨_, fs, zs, rfl, st, bg, hpG, hFG, pF, by rw [List.take_zero, List.append_nil]; exact sub, by omega⟩ (fun _ _ _ _ _ => trivial) (fun j x σ G1 G2 hj pp yy => ?_) fun σ G1 pp => ?_⟩
    rotate_left
    · obtain ⟨y6, fs, zs, rfl, st, bg, hpG, hFG, pF, sub, lz⟩ := pp
      refine ⟨_, _, fs, zs, rfl, st, bg.mono (by omega), hpG, hFG, pF, ?_, by omega⟩
      rw [allU_succ]
      exact sub.trans (List.Sublist.append_left (List.take_sublist _ _) _)
    obtain ⟨y6, fs, zs, rfl, st, bg, hpG, hFG, pF, sub, lz⟩ := pp
    obtain ⟨rfl, rfl⟩ := yy
    have lj : i + 1 + j < c := by omega
    have er : 0 + (i : Int) + 1 + (j : Int) = ((i + 1 + j : Nat) : Int) := by omega
    repeat (first | refine ⟨_, rfl, ?_⟩ | refine ⟨_, _, rfl, rfl, ?_⟩ | refine ⟨_, _, rfl, ?_⟩ | refine ⟨rfl, ?_⟩)
    refine ⟨b, _, 4, rfl, bg, by omega, by decide, by decide, fun i3 H5 f5 b5 _ _ => ?_⟩
    have s5 := f5.stp b5.some
    have hp5 := s5.at hpG nbp
    have hF5 := s5.at hFG (mem1.mpr nFb)
    have pF5 := Sh.gos pF s5 (Sb.one (List.mem_cons_of_mem _ hb)) Sb.refl
    have st5 := st.trans s5
    repeat (first | refine ⟨_, rfl, ?_⟩ | refine ⟨_, _, rfl, rfl, ?_⟩ | refine ⟨_, _, rfl, ?_⟩ | refine ⟨rfl, ?_⟩)
    refine ite2 (fun _ => ?_) (fun _ => ?_)
    rotate_left
    · refine ⟨_, fs, zs, rfl, st5, b5, hp5, hF5, pF5, ?_, by omega⟩
      exact sub.trans (List.Sublist.append_left (List.take_sublist_take_left (by omega)) _)
    repeat (first | refine ⟨_, rfl, ?_⟩ | refine ⟨_, _, rfl, rfl, ?_⟩ | refine ⟨_, _, rfl, ?_⟩ | refine ⟨rfl, ?_⟩)
    refine ⟨.inl ⟨rfl, _, SqL.of hF5⟩, ?_⟩
    repeat (first | refine ⟨_, rfl, ?_⟩ | refine ⟨_, _, rfl, rfl, ?_⟩ | refine ⟨_, _, rfl, ?_⟩ | refine ⟨rfl, ?_⟩)
    refine ⟨lenk 2 rfl (by decide), fun t nt => ?_⟩
    have sT : Stp [] H5 (upd H5 t (.tup [.int (0 + (i : Int)), .int (0 + (i : Int) + 1 + (j : Int))])) := Stp.new nt
    have hT : upd H5 t (.tup [.int (0 + (i : Int)), .int (0 + (i : Int) + 1 + (j : Int))]) t = some (.tup [.int (0 + (i : Int)), .int (0 + (i : Int) + 1 + (j : Int))]) := upd_same
    have b6 := b5.upd (o := .tup [.int (0 + (i : Int)), .int (0 + (i : Int) + 1 + (j : Int))]) (b5.ne nt)
    have hp6 := Same.new (o := .tup [.int (0 + (i : Int)), .int (0 + (i : Int) + 1 + (j : Int))]) nt _ _ hp5
    have hF6 := Same.new (o := .tup [.int (0 + (i : Int)), .int (0 + (i : Int) + 1 + (j : Int))]) nt _ _ hF5
    have pF6 := Sh.gos pF5 sT Sb.nil Sb.refl
    have ntF : t ≠ F := fun e => by rw [e, hF5] at nt; cases nt
    have ntM : t ∉ M := (al.go st5).off nt
    have st6 : Stp [b] H (upd H5 t (.tup [.int (0 + (i : Int)), .int (0 + (i : Int) + 1 + (j : Int))])) := st5.trans (Stp.new nt)
    generalize upd H5 t (.tup [.int (0 + (i : Int)), .int (0 + (i : Int) + 1 + (j : Int))]) = H6 at sT hT b6 hp6 hF6 pF6 st6
    repeat (first | refine ⟨_, rfl, ?_⟩ | refine ⟨_, _, rfl, rfl, ?_⟩ | refine ⟨_, _, rfl, ?_⟩ | refine ⟨rfl, ?_⟩)
    have lf := plen pF6
    refine ⟨F, _, _, rfl, rfl, hF6, by rw [sizeLine_eq]; omega, ?_⟩
    obtain ⟨s11, pd11⟩ := app_L (s := sNN) (x := (i, i + 1 + j)) nFH st6 pF6 ⟨t, _, _, rfl, fun h => (List.mem_cons.mp h).elim ntF ntM, hT, by show V.int _ = V.int _; congr 1; omega, by show V.int _ = V.int _; congr 1⟩
    refine ⟨_, _, zs ++ [(i, i + 1 + j)], rfl, s11, (b6.upd (fun e => nFb e.symm)).mono (by omega), by rw [upd_ne npF]; exact hp6, upd_same, pd11, ?_, by simp; omega⟩
    rw [List.take_add_one, rowP_get (by omega), ← List.append_assoc]
    exact List.Sublist.append sub (List.Sublist.refl _)

end K46
namespace K46
open PySem PySem.Spec PyProof.Rows L2 TL
/-! ### its edges, handed over in some order -/
def nAt (ns : List Str) (i : Nat) : Str := (ns[i]?).getD (Str.ofString "")
theorem nAt_get {ns : List Str} {i : Nat} (h : i < ns.length) : ns[i]? = some (nAt ns i) := by
  unfold nAt
  rw [List.getElem?_eq_getElem h]; rfl
def nmP (ns : List Str) (e : Nat × Nat) : Str × Str := (nAt ns e.1, nAt ns e.2)
/-- edges by places -/
structure EOk (n : Nat) (es : List (Nat × Nat)) : Prop where
  few : es.length ≤ 40
  nd : es.Nodup
  sub : ∀ e ∈ es, e.1 < e.2 ∧ e.2 < n
/-- pairs of names that are the edges -/
def Rep (ns : List Str) (es : List (Nat × Nat)) (hs : List (Str × Str)) : Prop := GEOk ns hs ∧ ∀ i j, i < ns.length → j < ns.length → adjE hs (nAt ns i) (nAt ns j) = (decide ((i, j) ∈ es) || decide ((j, i) ∈ es))
def Sw (a b : Str × Str) : Prop := a = b ∨ a = (b.2, b.1)
theorem nAt_inj {ns : List Str} (nd : ns.Nodup) {i j : Nat} (hi : i < ns.length) (hj : j < ns.length) (e : nAt ns i = nAt ns j) : i = j :=
  nd_at nd (nAt_get hi) (by rw [e]; exact nAt_get hj)
theorem sw_mem {x y : Str} : ∀ {hs us : List (Str × Str)}, Paired Sw hs us → (((x, y) ∈ hs ∨ (y, x) ∈ hs) ↔ ((x, y) ∈ us ∨ (y, x) ∈ us))
  | _, _, .nil => Iff.rfl
  | a :: hs, b :: us, .cons h t => by
    have ih := sw_mem (x := x) (y := y) t
    simp only [List.mem_cons]
    rcases h with rfl | rfl
    · constructor
      · rintro ((h | h) | (h | h))
        · exact .inl (.inl h)
        · exact (ih.mp (.inl h)).imp .inr .inr
        · exact .inr (.inl h)
        · exact (ih.mp (.inr h)).imp .inr .inr
      · rintro ((h | h) | (h | h))
        · exact .inl (.inl h)
        · exact (ih.mpr (.inl h)).imp .inr .inr
        · exact .inr (.inl h)
        · exact (ih.mpr (.inr h)).imp .inr .inr
    · have sw : ∀ p q : Str, (p, q) = (b.2, b.1) ↔ (q, p) = b := fun p q => ⟨fun e => by cases e; rfl, fun e => by cases e; rfl⟩
      constructor
      · rintro ((h | h) | (h | h))
        · exact .inr (.inl ((sw _ _).mp h))
        · exact (ih.mp (.inl h)).imp .inr .inr
        · exact .inl (.inl ((sw _ _).mp h))
        · exact (ih.mp (.inr h)).imp .inr .inr
      · rintro ((h | h) | (h | h))
        · exact .inr (.inl ((sw _ _).mpr h))
        · exact (ih.mpr (.inl h)).imp .inr .inr
        · exact .inl (.inl ((sw _ _).mpr h))
        · exact (ih.mpr (.inr h)).imp .inr .inr
theorem nmP_mem {ns : List Str} {es : List (Nat × Nat)} (nd : ns.Nodup) (ok : EOk ns.length es) {i j : Nat} (hi : i < ns.length) (hj : j < ns.length) : (nAt ns i, nAt ns j) ∈ es.map (nmP ns) ↔ (i, j) ∈ es := by
  rw [List.mem_map]
  constructor
  · rintro ⟨e, he, h⟩
    obtain ⟨l1, l2⟩ := ok.sub e he
    have h1 := (Prod.mk.inj h).1
    have h2 := (Prod.mk.inj h).2
    rw [← nAt_inj nd (show e.1 < ns.length by omega) hi h1, ← nAt_inj nd l2 hj h2]
    exact he
  · intro h
    exact ⟨(i, j), h, rfl⟩
theorem rep_of {ns : List Str} {es : List (Nat × Nat)} {hs us : List (Str × Str)} (okN : GNOk ns) (ok : EOk ns.length es) (pm : us.Perm (es.map (nmP ns))) (sw : Paired Sw hs us) : Rep ns es hs := by
  have lh := plen sw
  have lu := pm.length_eq
  rw [List.length_map] at lu
  have hf := ok.few
  have inu : ∀ p ∈ us, ∃ e, e ∈ es ∧ p = nmP ns e := fun p hp => by
    obtain ⟨e, he, h⟩ := List.mem_map.mp (pm.mem_iff.mp hp)
    exact ⟨e, he, h.symm⟩
  have ndu : us.Nodup := by
    refine pm.nodup_iff.mpr ?_
    rw [List.nodup_iff_pairwise_ne, List.pairwise_map]
    refine (List.nodup_iff_pairwise_ne.mp ok.nd).imp_of_mem fun {a b} ha hb ne e => ne ?_
    obtain ⟨a1, a2⟩ := ok.sub a ha
    obtain ⟨b1, b2⟩ := ok.sub b hb
    exact Prod.ext (nAt_inj okN.nd (by omega) (by omega) (Prod.mk.inj e).1) (nAt_inj okN.nd a2 b2 (Prod.mk.inj e).2)
  have nosw : ∀ p ∈ us, ∀ q ∈ us, p ≠ (q.2, q.1) := fun p hp q hq e => by
    obtain ⟨a, ha, rfl⟩ := inu p hp
    obtain ⟨b, hb, rfl⟩ := inu q hq
    obtain ⟨a1, a2⟩ := ok.sub a ha
    obtain ⟨b1, b2⟩ := ok.sub b hb
    have e1 := nAt_inj okN.nd (show a.1 < ns.length by omega) b2 (Prod.mk.inj e).1
    have e2 := nAt_inj okN.nd a2 (show b.1 < ns.length by omega) (Prod.mk.inj e).2
    omega
  refine ⟨⟨by omega, fun e he => ?_, fun i e he => ?_⟩, fun i j hi hj => ?_⟩
  · obtain ⟨i, hi⟩ := List.getElem?_of_mem he
    obtain ⟨u, hu, h⟩ := pget' sw hi
    obtain ⟨z, hz, rfl⟩ := inu u (List.mem_of_getElem? hu)
    obtain ⟨z1, z2⟩ := ok.sub z hz
    have m1 : nAt ns z.1 ∈ ns := List.mem_of_getElem? (nAt_get (show z.1 < ns.length by omega))
    have m2 : nAt ns z.2 ∈ ns := List.mem_of_getElem? (nAt_get z2)
    have ne : nAt ns z.1 ≠ nAt ns z.2 := fun e => by
      have := nAt_inj okN.nd (by omega) z2 e
      omega
    rcases h with rfl | rfl
    · exact ⟨m1, m2, ne⟩
    · exact ⟨m2, m1, ne.symm⟩
  · obtain ⟨u, hu, h⟩ := pget' sw he
    have ptk : Paired Sw (hs.take i) (us.take i) := ptake sw
    have nin : ¬ (e ∈ hs.take i ∨ (e.2, e.1) ∈ hs.take i) := fun c => by
      have c2 : (e.1, e.2) ∈ us.take i ∨ (e.2, e.1) ∈ us.take i := (sw_mem ptk).mp c
      have hit : ∀ z, z ∈ us.take i → (z = u ∨ z = (u.2, u.1)) → False := fun z hz hzu => by
        rcases hzu with rfl | rfl
        · obtain ⟨j, hj⟩ := List.getElem?_of_mem hz
          have lj := (List.getElem?_eq_some_iff.mp hj).1
          rw [List.length_take] at lj
          rw [List.getElem?_take_of_lt (by omega)] at hj
          obtain ⟨la, ea⟩ := List.getElem?_eq_some_iff.mp hj
          obtain ⟨lb, eb⟩ := List.getElem?_eq_some_iff.mp hu
          exact List.pairwise_iff_getElem.mp (List.nodup_iff_pairwise_ne.mp ndu) j i la lb (by omega) (ea.trans eb.symm)
        · exact nosw _ (List.mem_of_mem_take hz) u (List.mem_of_getElem? hu) rfl
      rcases c2 with c2 | c2
      · refine hit _ c2 ?_
        rcases h with rfl | rfl
        · exact .inl rfl
        · exact .inr rfl
      · refine hit _ c2 ?_
        rcases h with rfl | rfl
        · exact .inr rfl
        · exact .inl rfl
    exact ⟨fun h => nin (.inl h), fun h => nin (.inr h)⟩
  · unfold adjE
    rw [Bool.eq_iff_iff, Bool.or_eq_true, Bool.or_eq_true, decide_eq_true_iff, decide_eq_true_iff, decide_eq_true_iff, decide_eq_true_iff, sw_mem sw, pm.mem_iff, pm.mem_iff, nmP_mem okN.nd ok hi hj, nmP_mem okN.nd ok hj hi]

end K46
namespace K46
open PySem PySem.Spec PyProof.Rows L2 TL
theorem eqv_nilG (ds : List PyData) : PyData.eqv (.list ds) (.list []) = ds.isEmpty := by
  cases ds <;> simp [PyData.eqv, PyData.eqvAll]
theorem nil_shaped : SeqAt.shaped (.list []) = true := (Shd.list (k := 0) all0).shaped (by decide)
theorem perase {α β : Type} {F : α → β → Prop} : ∀ {l : List α} {m : List β}, Paired F l m → ∀ k, Paired F (l.eraseIdx k) (m.eraseIdx k)
  | _, _, .nil, _ => .nil
  | _, _, .cons _ t, 0 => t
  | _, _, .cons h t, k + 1 => .cons h (perase t k)
theorem pairs_nm {ns : List Str} {es : List (Nat × Nat)} (okN : GNOk ns) (ok : EOk ns.length es) : ∀ e ∈ es.map (nmP ns), NameOk e.1 ∧ NameOk e.2 := fun e he => by
  obtain ⟨z, hz, rfl⟩ := List.mem_map.mp he
  obtain ⟨z1, z2⟩ := ok.sub z hz
  exact ⟨okN.nm _ (List.mem_of_getElem? (nAt_get (show z.1 < ns.length by omega))), okN.nm _ (List.mem_of_getElem? (nAt_get z2))⟩
def sp_lhanded (K : PySem.W.Frag) : Sp := fun vs H Q _ => ∃ (M : List Addr) (b : Addr) (n : Nat) (vn ve : V) (ns : List Str) (es : List (Nat × Nat)), vs = [.ref b, vn, ve] ∧ b ∈ M ∧ Alv M H ∧ Bag H b n ∧ n + 100 ≤ 1000000 ∧ (sL sStr).at M H vn ns ∧ (sL sNN).at M H ve es ∧ GNOk ns ∧ EOk ns.length es ∧
  ∀ (w : V) (hs : List (Str × Str)) H', Stp [b] H H' → Bag H' b (n + 100) → (sL sPS).at M H' w hs → Rep ns es hs → hs.length = es.length → (∀ a, w = .ref a → H a = none) → Q w H'
theorem ok_l_handed {P : Program} {w : World} {K : PySem.W.Frag} {mg : Str → Option Value} {base : Heap} (T : Txt P K mg) : FnOk P w K mg base CX0 2 T.f_l_handed T.fd_l_handed ["_law_box_here", "_law_names_here", "_law_edges"] (sp_lhanded K) := by
  refine T.F_l_handed.ok sc_l_handed (fun vs H Q E h => ?_) (fun cdv A outer s H vs Q E hr h => ?_)
  · obtain ⟨_, _, _, _, _, _, _, rfl, _⟩ := h; rfl
  · obtain ⟨M, b, n, vn, ve, ns, es, rfl, hb, al, hB, hn, hvn, hve, okN, okE, q⟩ := h
    obtain ⟨an, rfl, nan, hN⟩ := Sh.strs hvn
    obtain ⟨ae, xs, rfl, nae, hE, pE⟩ := hve
    have lx := plen pE
    have le40 := okE.few
    have l8 := okN.few
    have nmp := pairs_nm okN okE
    refine ⟨_, PSs.nox (pss_cons (ps_setLc (i := 3) (own := [("_law_at", 6), ("_law_other", 7)]) (g := gTup K 2 (gCons (gName 6) (gCons (gName 7) gNil))) rfl sc_l_handed.nd rfl rfl (sw_true rfl rfl rfl (by decide +kernel)) (pi_list (pv 2)) (blkOk_by (own := [("_law_at", 6), ("_law_other", 7)]) (N := N_l_handed) (sc := defScope s_l_handed) (by decide +kernel)) (fun _ _ _ _ _ => (pg_tup rfl (pgs_cons (pg_name (i := 6) sc_l_handed.nd rfl (Or.inl rfl)) (pgs_cons (pg_name (i := 7) sc_l_handed.nd rfl (Or.inl rfl)) pgs_nil)))) (fun _ _ _ _ _ => pts_nil) (fun _ _ _ _ _ => (pe_tup (pa_cons (pe_ix (show IxR _ (rIxL K) from ix_list) (pv 1) (pv 6) (fun _ _ => rfl)) (pa_cons (pe_ix (show IxR _ (rIxL K) from ix_list) (pv 1) (pv 7) (fun _ _ => rfl)) pa_nil)))))
      (pss_cons (ps_set (i := 4) sc_l_handed.nd rfl (Or.inl rfl) (pe_lst pa_nil))
      (pss_cons (ps_while PassesOwn.never (pt_cmpR (show OpR _ (compareOp .NotEq) (rNeD K) from op_neD hr.units) (pv 3) (pe_lst pa_nil) (nomark _)) (pss_cons (ps_set (i := 5) sc_l_handed.nd rfl (Or.inl rfl) (show PE _ _ (tBM K "list" rPopAt _ _) from pe_bm PySem.F.plainAttrs_list PySem.F.slot_list_pop PySem.F.type_list_pop mt_popAt (pv 3) (pa_cons (pe_call (ok_l_take T) (hr.mono (by decide)) (by rfl) T.g_l_take T.F_l_take.kp (b_l_take T) .nil pass0 (pa_cons (pv 0) (pa_cons (pe_callB (show CallR _ _ (rLenSeq K) from call_len_seq) (by rfl) T.n_len (by decide +kernel) (pa_cons (pv 3) pa_nil)) pa_nil))) pa_nil)))
      (pss_one (ps_expr (pe_bm PySem.F.plainAttrs_list PySem.F.slot_list_append PySem.F.type_list_append mt_append (pv 4) (pa_cons (pe_ix (show IxR _ (rIxL K) from ix_list) (pe_lst (pa_cons (pv 5) (pa_cons (show PE _ _ (tRevT K _) from pe_revT (pv 5)) pa_nil))) (pe_call (ok_l_take T) (hr.mono (by decide)) (by rfl) T.g_l_take T.F_l_take.kp (b_l_take T) .nil pass0 (pa_cons (pv 0) (pa_cons pe_int pa_nil))) (fun _ _ => rfl)) pa_nil))))))
      (pss_one (ps_ret (pv 4)))))), ?_⟩
    rw [show L2.start N_l_handed [V.ref b, V.ref an, V.ref ae] = [some (.ref b), some (.ref an), some (.ref ae), none, none, none, none, none] from rfl]
    repeat (first | refine ⟨_, rfl, ?_⟩ | refine ⟨_, _, rfl, rfl, ?_⟩ | refine ⟨_, _, rfl, ?_⟩ | refine ⟨rfl, ?_⟩)
    refine ⟨⟨_, SqL.of hE⟩, fun l nl => ?_⟩
    refine lc_it (walk_list (K := K) (a := ae) (xs := xs)) (fun i H' => ∃ zs, Acc sPS l M [] H H' zs ∧ zs = (es.take i).map (nmP ns)) ⟨[], Acc.start al nl (by simp), rfl⟩ (fun i H' _ ⟨_, ac, _⟩ => SqL.of (ac.st.same _ _ hE)) ?_ ?_
    · rintro i x Hx G hi ⟨zs, ac, ez⟩ ⟨rfl, hx⟩
      obtain ⟨e, he, te, _, _, rfl, -, hte, rfl, rfl⟩ := pget' pE hx
      obtain ⟨e1, e2⟩ := okE.sub e (List.mem_of_getElem? he)
      have sG := ac.st.same
      refine ⟨te, _, rfl, .inl (.inl (sG _ _ hte)), rfl, _, _, rfl, ?_⟩
      repeat (first | refine ⟨_, rfl, ?_⟩ | refine ⟨_, _, rfl, rfl, ?_⟩ | refine ⟨_, _, rfl, ?_⟩ | refine ⟨rfl, ?_⟩)
      have lei := (List.getElem?_eq_some_iff.mp he).1
      refine ⟨an, _, _, .str (nAt ns e.1), rfl, rfl, SqL.of (sG _ _ hN), atI_nat (by rw [List.getElem?_map, nAt_get (show e.1 < ns.length by omega)]; rfl), ?_⟩
      repeat (first | refine ⟨_, rfl, ?_⟩ | refine ⟨_, _, rfl, rfl, ?_⟩ | refine ⟨_, _, rfl, ?_⟩ | refine ⟨rfl, ?_⟩)
      refine ⟨an, _, _, .str (nAt ns e.2), rfl, rfl, SqL.of (sG _ _ hN), atI_nat (by rw [List.getElem?_map, nAt_get e2]; rfl), ?_⟩
      repeat (first | refine ⟨_, rfl, ?_⟩ | refine ⟨_, _, rfl, rfl, ?_⟩ | refine ⟨_, _, rfl, ?_⟩ | refine ⟨rfl, ?_⟩)
      refine ⟨lenk 2 rfl (by decide), fun t nt => ?_⟩
      obtain ⟨vsD, hDv, pD⟩ := ac.ac
      have ntD : t ≠ l := fun e => by rw [e, hDv] at nt; cases nt
      refine ac.put (y := nmP ns e) (R := fun zs => zs = (es.take (i + 1)).map (nmP ns)) (Stp.new nt) ⟨t, _, _, rfl, fun h => (List.mem_cons.mp h).elim ntD fun h => (al.go ac.st).off nt h, upd_same, rfl, rfl⟩ ?_ ?_
      · rw [ez, List.length_map, List.length_take]; omega
      · rw [ez, take_map_snoc _ he]
    rintro G ⟨zs, ac, ez⟩
    rw [lx, List.take_length] at ez
    subst ez
    have nlM : l ∉ M := ac.nM
    have nlH : H l = none := ac.nD
    obtain ⟨vs0, hl0, pl0⟩ := ac.ac
    have st0 : Stp [b] H G := Stp.of_same ac.st.same
    have b0 : Bag G b n := Bag.stp hB ac.st (by simp)
    have nbl : b ≠ l := hB.ne nlH
    repeat (first | refine ⟨_, rfl, ?_⟩ | refine ⟨_, _, rfl, rfl, ?_⟩ | refine ⟨_, _, rfl, ?_⟩ | refine ⟨rfl, ?_⟩)
    refine ⟨lenk 0 rfl (by decide), fun F nF => ?_⟩
    have nFH : H F = none := st0.none nF
    have nFl : F ≠ l := fun e => by rw [e, hl0] at nF; cases nF
    have nbF : b ≠ F := b0.ne nF
    have st1 : Stp [b] H (upd G F (.lst [])) := st0.trans (Stp.new nF)
    have hF1 : upd G F (.lst []) F = some (.lst []) := upd_same
    have hl1 := Same.new (o := .lst []) nF _ _ hl0
    have b1 := b0.upd (o := .lst []) nbF
    have sbF : Sb (F :: l :: M) (l :: M) G := Sb.new nF Sb.refl
    have pl1 : Paired (sPS.at (F :: l :: M) (upd G F (.lst []))) vs0 (es.map (nmP ns)) := Sh.gos pl0 (Stp.new (m := []) (o := .lst []) nF) Sb.nil sbF
    generalize upd G F (.lst []) = H1 at st1 hF1 hl1 b1 pl1
    repeat (first | refine ⟨_, rfl, ?_⟩ | refine ⟨_, _, rfl, rfl, ?_⟩ | refine ⟨_, _, rfl, ?_⟩ | refine ⟨rfl, ?_⟩)
    refine ⟨fun m σ G => ∃ (y5 : Option V) (vs ws : List V) (lf us hs : List (Str × Str)), σ = [some (.ref b), some (.ref an), some (.ref ae), some (.ref l), some (.ref F), y5, none, none] ∧ Stp [b] H G ∧ Bag G b (n + 2 * hs.length) ∧ G l = some (.lst vs) ∧ Paired (sPS.at (F :: l :: M) G) vs lf ∧ G F = some (.lst ws) ∧ Paired (sPS.at (F :: l :: M) G) ws hs ∧ (us ++ lf).Perm (es.map (nmP ns)) ∧ Paired Sw hs us ∧ m = lf.length, ⟨_, _, _, [], es.map (nmP ns), [], [], rfl, st1, b1, hl1, pl1, hF1, .nil, List.Perm.refl _, .nil, rfl⟩, ?_⟩
    rintro m σ G2 ⟨y5, vs, ws, lf, us, hs, rfl, st, bg, hl, pl, hF, pF, pm, sw, rfl⟩
    have lvs := plen pl
    have lhs := plen sw
    have lpm := pm.length_eq
    rw [List.length_append, List.length_map] at lpm
    have nmlf : ∀ e ∈ lf, NameOk e.1 ∧ NameOk e.2 := fun e he => nmp e (pm.mem_iff.mp (List.mem_append.mpr (.inr he)))
    repeat (first | refine ⟨_, rfl, ?_⟩ | refine ⟨_, _, rfl, rfl, ?_⟩ | refine ⟨_, _, rfl, ?_⟩ | refine ⟨rfl, ?_⟩)
    refine ⟨lenk 0 rfl (by decide), fun e0 ne0 => ?_⟩
    have se : Same G2 (upd G2 e0 (.lst [])) := Same.new ne0
    have he0 : upd G2 e0 (.lst []) e0 = some (.lst []) := upd_same
    have b2 := bg.upd (o := .lst []) (bg.ne ne0)
    generalize upd G2 e0 (.lst []) = G3 at se he0 b2
    have st2 := st.trans (Stp.of_same se)
    have pl2 := Sh.gos pl (Stp.of_same (m := []) se) Sb.nil Sb.refl
    have pF2 := Sh.gos pF (Stp.of_same (m := []) se) Sb.nil Sb.refl
    have hl2 := se _ _ hl
    have hF2 := se _ _ hF
    refine ⟨.list (lf.map psD), .list [], .lst (SqL.of hl2) (dpA (fun _ _ z => isD_ps.dp z) pl2), .lst (SqL.of he0) .nil, (shd_pss nmlf).shaped (by decide), nil_shaped, ?_⟩
    rw [eqv_nilG]
    clear bg hl pl hF pF st
    refine ⟨_, rfl, ite2 (fun e => ?_) (fun e => ?_)⟩
    rotate_left
    · repeat (first | refine ⟨_, rfl, ?_⟩ | refine ⟨_, _, rfl, rfl, ?_⟩ | refine ⟨_, _, rfl, ?_⟩ | refine ⟨rfl, ?_⟩)
      obtain rfl : lf = [] := by simpa using e
      rw [List.append_nil] at pm
      refine q _ hs _ st2 (b2.mono (by simp at lpm; omega)) ⟨F, ws, rfl, al.off nFH, hF2, Paired.mapP pF2 fun _ _ z => sPS.mv z fun a o n e => ⟨e, fun h => n (List.mem_cons_of_mem _ (List.mem_cons_of_mem _ h))⟩⟩ (rep_of okN okE pm sw) (by rw [lhs]; simp at lpm; omega) (fun a e => by cases e; exact nFH)
    have lf1 : 1 ≤ lf.length := by
      cases lf with
      | nil => simp at e
      | cons _ _ => simp
    refine ⟨_, fun _ _ z => z, ?_⟩
    repeat (first | refine ⟨_, rfl, ?_⟩ | refine ⟨_, _, rfl, rfl, ?_⟩ | refine ⟨_, _, rfl, ?_⟩ | refine ⟨rfl, ?_⟩)
    refine ⟨.inl ⟨rfl, _, SqL.of hl2⟩, ?_⟩
    repeat (first | refine ⟨_, rfl, ?_⟩ | refine ⟨_, _, rfl, rfl, ?_⟩ | refine ⟨_, _, rfl, ?_⟩ | refine ⟨rfl, ?_⟩)
    refine ⟨l, _, rfl, .inl (SqL.of hl2), ?_⟩
    repeat (first | refine ⟨_, rfl, ?_⟩ | refine ⟨_, _, rfl, rfl, ?_⟩ | refine ⟨_, _, rfl, ?_⟩ | refine ⟨rfl, ?_⟩)
    refine ⟨b, _, _, rfl, b2, by omega, by omega, by omega, fun k G4 f4 b4 k0 k1 => ?_⟩
    have s4 := f4.stp b4.some
    have hl4 := s4.at hl2 (mem1.mpr nbl.symm)
    have hF4 := s4.at hF2 (mem1.mpr nbF.symm)
    have bM : b ∈ F :: l :: M := List.mem_cons_of_mem _ (List.mem_cons_of_mem _ hb)
    have pl4 := Sh.gos pl2 s4 (Sb.one bM) Sb.refl
    have pF4 := Sh.gos pF2 s4 (Sb.one bM) Sb.refl
    have st4 := st2.trans s4
    have hkl : k.toNat < vs.length := by omega
    have hk : vs[k.toNat]? = some (vs[k.toNat]'hkl) := List.getElem?_eq_getElem hkl
    obtain ⟨ed, hed, te, _, _, ev, nte, hte, rfl, rfl⟩ := pget' pl4 hk
    repeat (first | refine ⟨_, rfl, ?_⟩ | refine ⟨_, _, rfl, rfl, ?_⟩ | refine ⟨_, _, rfl, ?_⟩ | refine ⟨rfl, ?_⟩)
    refine ⟨l, _, k, k.toNat, _, rfl, rfl, hl4, by omega, by omega, seq_at k0 (by omega), hk, ?_⟩
    rw [ev]
    have slf : (lf.eraseIdx k.toNat).length < lf.length := by rw [List.length_eraseIdx]; split <;> omega
    have per := popP hed
    have st5 : Stp [b] H (upd G4 l (.lst (vs.eraseIdx k.toNat))) := st4.putN nlH
    have hl5 : upd G4 l (.lst (vs.eraseIdx k.toNat)) l = some (.lst (vs.eraseIdx k.toNat)) := upd_same
    have hF5 : upd G4 l (.lst (vs.eraseIdx k.toNat)) F = some (.lst ws) := by rw [upd_ne nFl]; exact hF4
    have b5 := b4.upd (o := .lst (vs.eraseIdx k.toNat)) nbl
    have sl : Stp [l] G4 (upd G4 l (.lst (vs.eraseIdx k.toNat))) := Stp.put (by simp)
    have sbl : Sb [l] (F :: l :: M) G4 := Sb.one (List.mem_cons_of_mem _ List.mem_cons_self)
    have pl5 : Paired (sPS.at (F :: l :: M) (upd G4 l (.lst (vs.eraseIdx k.toNat)))) (vs.eraseIdx k.toNat) (lf.eraseIdx k.toNat) := Sh.gos (perase pl4 k.toNat) sl sbl Sb.refl
    have pF5 := Sh.gos pF4 sl sbl Sb.refl
    have nteF : te ≠ F := fun e => nte (by rw [e]; exact List.mem_cons_self)
    have ntel : te ≠ l := fun e => nte (by rw [e]; exact List.mem_cons_of_mem _ List.mem_cons_self)
    have hte5 : upd G4 l (.lst (vs.eraseIdx k.toNat)) te = some (.tup [.str ed.1, .str ed.2]) := by rw [upd_ne ntel]; exact hte
    generalize upd G4 l (.lst (vs.eraseIdx k.toNat)) = G5 at st5 hl5 hF5 b5 pl5 pF5 hte5
    clear sl sbl pl4 pF4 hl4 hF4 pl2 pF2
    repeat (first | refine ⟨_, rfl, ?_⟩ | refine ⟨_, _, rfl, rfl, ?_⟩ | refine ⟨_, _, rfl, ?_⟩ | refine ⟨rfl, ?_⟩)
    refine ⟨.inl ⟨rfl, _, SqL.of hF5⟩, ?_⟩
    repeat (first | refine ⟨_, rfl, ?_⟩ | refine ⟨_, _, rfl, rfl, ?_⟩ | refine ⟨_, _, rfl, ?_⟩ | refine ⟨rfl, ?_⟩)
    refine ⟨te, _, rfl, .inl (.inl hte5), fun t2 nt2 => ?_⟩
    have alF : Alv (F :: l :: M) G5 := Alv.cons hF5 (Alv.cons hl5 (al.go st5))
    have nt2M : t2 ∉ F :: l :: M := alF.off nt2
    have s6 : Same G5 (upd G5 t2 (.tup [.str ed.1, .str ed.2].reverse)) := Same.new nt2
    have h6 : upd G5 t2 (.tup [.str ed.1, .str ed.2].reverse) t2 = some (.tup [.str ed.2, .str ed.1]) := upd_same
    have b6 := b5.upd (o := .tup [.str ed.1, .str ed.2].reverse) (b5.ne nt2)
    generalize upd G5 t2 (.tup [.str ed.1, .str ed.2].reverse) = G6 at s6 h6 b6
    repeat (first | refine ⟨_, rfl, ?_⟩ | refine ⟨_, _, rfl, rfl, ?_⟩ | refine ⟨_, _, rfl, ?_⟩ | refine ⟨rfl, ?_⟩)
    refine ⟨lenk 2 rfl (by decide), fun P nP => ?_⟩
    have s7 : Same G6 (upd G6 P (.lst [.ref te, .ref t2])) := Same.new nP
    have h7 : upd G6 P (.lst [.ref te, .ref t2]) P = some (.lst [.ref te, .ref t2]) := upd_same
    have b7 := b6.upd (o := .lst [.ref te, .ref t2]) (b6.ne nP)
    have nPb : P ≠ b := (b6.ne nP).symm
    generalize upd G6 P (.lst [.ref te, .ref t2]) = G7 at s7 h7 b7
    have s57 := s6.trans s7
    repeat (first | refine ⟨_, rfl, ?_⟩ | refine ⟨_, _, rfl, rfl, ?_⟩ | refine ⟨_, _, rfl, ?_⟩ | refine ⟨rfl, ?_⟩)
    refine ⟨b, _, 2, rfl, b7, by omega, by decide, by decide, fun i8 G8 f8 b8 z0 z1 => ?_⟩
    have s8 := f8.stp b8.some
    have s58 : Stp [b] G5 G8 := (Stp.of_same s57).trans s8
    have bM : b ∈ F :: l :: M := List.mem_cons_of_mem _ (List.mem_cons_of_mem _ hb)
    have h8 := s8.at h7 (mem1.mpr nPb)
    have hF8 := s58.at hF5 (mem1.mpr nbF.symm)
    have hl8 := s58.at hl5 (mem1.mpr nbl.symm)
    have pl8 := Sh.gos pl5 s58 (Sb.one bM) Sb.refl
    have pF8 := Sh.gos pF5 s58 (Sb.one bM) Sb.refl
    have st8 := st5.trans s58
    have nteb : te ≠ b := fun e => nte (by rw [e]; exact bM)
    have nt2b : t2 ≠ b := fun e => nt2M (by rw [e]; exact bM)
    have hte8 := s58.at hte5 (mem1.mpr nteb)
    have ht28 := ((Stp.of_same s7).trans s8 : Stp [b] G6 G8).at h6 (mem1.mpr nt2b)
    obtain ⟨v, e', hv, hve, hsw⟩ : ∃ v e', atI [V.ref te, V.ref t2] i8 = some v ∧ sPS.at (F :: l :: M) G8 v e' ∧ Sw e' ed := by
      rcases (by omega : i8 = 0 ∨ i8 = 1) with rfl | rfl
      · exact ⟨_, ed, atI_nat (j := 0) rfl, ⟨te, _, _, rfl, nte, hte8, rfl, rfl⟩, .inl rfl⟩
      · exact ⟨_, (ed.2, ed.1), atI_nat (j := 1) rfl, ⟨t2, _, _, rfl, nt2M, ht28, rfl, rfl⟩, .inr rfl⟩
    repeat (first | refine ⟨_, rfl, ?_⟩ | refine ⟨_, _, rfl, rfl, ?_⟩ | refine ⟨_, _, rfl, ?_⟩ | refine ⟨rfl, ?_⟩)
    refine ⟨P, _, i8, v, rfl, rfl, SqL.of h8, hv, ?_⟩
    repeat (first | refine ⟨_, rfl, ?_⟩ | refine ⟨_, _, rfl, rfl, ?_⟩ | refine ⟨_, _, rfl, ?_⟩ | refine ⟨rfl, ?_⟩)
    have lws := plen pF8
    refine ⟨F, _, _, rfl, rfl, hF8, by rw [sizeLine_eq]; omega, ?_⟩
    have sF : Stp [F] G8 (upd G8 F (.lst (ws ++ [v]))) := Stp.put (by simp)
    have sbF2 : Sb [F] (F :: l :: M) G8 := Sb.one List.mem_cons_self
    refine ⟨(lf.eraseIdx k.toNat).length, slf, _, _, ws ++ [v], lf.eraseIdx k.toNat, us ++ [ed], hs ++ [e'], rfl, st8.putN nFH, ?_, by rw [upd_ne nFl.symm]; exact hl8, Sh.gos pl8 sF sbF2 Sb.refl, upd_same, psnoc (Sh.gos pF8 sF sbF2 Sb.refl) (Sh.go hve sF sbF2 Sb.refl), ?_, psnoc sw hsw, rfl⟩
    · exact (b8.upd nbF).mono (by rw [List.length_append]; simp; omega)
    · rw [List.append_assoc]
      exact (List.Perm.append_left us per).trans pm

end K46
namespace K46
open PySem PySem.Spec PyProof.Rows L2 TL
/-! ### edges in order, neighbors -/
theorem sub_filter {α : Type} [DecidableEq α] {l L : List α} (h : l.Sublist L) : L.Nodup → (L.filter fun x => decide (x ∈ l)) = l := by
  induction h with
  | slnil => intro _; rfl
  | @cons l1 l2 a h ih =>
    intro nd
    rw [List.nodup_cons] at nd
    rw [List.filter_cons, decide_eq_false (fun m => nd.1 (h.subset m)), if_neg Bool.false_ne_true]
    exact ih nd.2
  | @cons_cons l1 l2 a h ih =>
    intro nd
    rw [List.nodup_cons] at nd
    rw [List.filter_cons, decide_eq_true List.mem_cons_self, if_pos rfl]
    congr 1
    rw [← ih nd.2]
    refine List.filter_congr fun x hx => ?_
    rw [ih nd.2, decide_eq_decide, List.mem_cons]
    exact ⟨fun m => m.resolve_left fun e => nd.1 (by rw [← e]; exact hx), .inr⟩
theorem allU_fst {c : Nat} : ∀ {i : Nat} {e : Nat × Nat}, e ∈ allU c i → e.1 < i ∧ e.1 < e.2 ∧ e.2 < c := fun {i e} h => by
  unfold allU at h
  obtain ⟨k, hk, h⟩ := List.mem_flatMap.mp h
  unfold rowP at h
  obtain ⟨j, hj, rfl⟩ := List.mem_map.mp h
  obtain ⟨m, hm⟩ := List.getElem?_of_mem hj
  rw [List.getElem?_drop] at hm
  obtain ⟨lm, em⟩ := List.getElem?_eq_some_iff.mp hm
  rw [List.length_range] at lm
  rw [List.getElem_range] at em
  have := List.mem_range.mp hk
  exact ⟨this, by show k < j; omega, by show j < c; omega⟩
theorem allU_nd (c : Nat) : ∀ i, (allU c i).Nodup
  | 0 => List.nodup_nil
  | i + 1 => by
    rw [allU_succ, List.nodup_append]
    refine ⟨allU_nd c i, ?_, fun a ha b hb e => ?_⟩
    · unfold rowP
      rw [List.nodup_iff_pairwise_ne, List.pairwise_map]
      exact (List.nodup_iff_pairwise_ne.mp (List.Nodup.sublist (List.drop_sublist _ _) List.nodup_range)).imp fun {a b} z e => z (Prod.mk.inj e).2
    · subst e
      have h1 := (allU_fst ha).1
      unfold rowP at hb
      obtain ⟨j, _, rfl⟩ := List.mem_map.mp hb
      exact Nat.lt_irrefl _ h1
theorem allP_len {c : Nat} (h : c ≤ 8) : (allP c).length ≤ 28 := by
  have : c = 0 ∨ c = 1 ∨ c = 2 ∨ c = 3 ∨ c = 4 ∨ c = 5 ∨ c = 6 ∨ c = 7 ∨ c = 8 := by omega
  rcases this with rfl | rfl | rfl | rfl | rfl | rfl | rfl | rfl | rfl <;> decide
theorem sub_ok {n : Nat} {es : List (Nat × Nat)} (h : es.Sublist (allP n)) (l8 : n ≤ 8) : EOk n es ∧ es.length ≤ 28 := by
  have l := Nat.le_trans h.length_le (allP_len l8)
  exact ⟨⟨by omega, List.Nodup.sublist h (allU_nd n n), fun e he => (allU_fst (h.subset he)).2⟩, l⟩
theorem ns_range (ns : List Str) : ns = (List.range ns.length).map (nAt ns) := by
  refine List.ext_getElem (by simp) fun i h1 h2 => ?_
  rw [List.getElem_map, List.getElem_range]
  have := nAt_get h1
  rw [List.getElem?_eq_getElem h1] at this
  exact Option.some.inj this
/-- the places of the neighbors -/
def near (n : Nat) (es : List (Nat × Nat)) (i : Nat) : List Nat := (List.range n).filter fun j => decide ((i, j) ∈ es) || decide ((j, i) ∈ es)
theorem nb_near {ns : List Str} {es : List (Nat × Nat)} {hs : List (Str × Str)} (h : Rep ns es hs) {i : Nat} (hi : i < ns.length) : nbE ns hs (nAt ns i) = (near ns.length es i).map (nAt ns) := by
  unfold nbE near
  have key : ∀ l : List Str, l = (List.range ns.length).map (nAt ns) → l.filter (adjE hs (nAt ns i)) = ((List.range ns.length).filter fun j => decide ((i, j) ∈ es) || decide ((j, i) ∈ es)).map (nAt ns) := fun l e => by
    rw [e, List.filter_map]
    congr 1
    exact List.filter_congr fun j hj => h.2 i j hi (List.mem_range.mp hj)
  exact key ns (ns_range ns)
theorem nb_in {ns : List Str} {es : List (Nat × Nat)} {hs : List (Str × Str)} (okN : GNOk ns) (h : Rep ns es hs) {i j : Nat} (hi : i < ns.length) (hj : j < ns.length) : decide (nAt ns j ∈ nbE ns hs (nAt ns i)) = decide (j ∈ near ns.length es i) := by
  rw [nb_near h hi, decide_eq_decide, List.mem_map]
  constructor
  · rintro ⟨k, hk, e⟩
    have lk := List.mem_range.mp (List.mem_filter.mp hk).1
    rw [← nAt_inj okN.nd lk hj e]; exact hk
  · intro h
    exact ⟨j, h, rfl⟩
theorem flatMap_congr {α β : Type} {f g : α → List β} : ∀ {l : List α}, (∀ x ∈ l, f x = g x) → l.flatMap f = l.flatMap g
  | [], _ => rfl
  | x :: l, h => by rw [List.flatMap_cons, List.flatMap_cons, h x List.mem_cons_self, flatMap_congr fun y hy => h y (List.mem_cons_of_mem _ hy)]
theorem edges_eq {ns : List Str} {es : List (Nat × Nat)} {hs : List (Str × Str)} (okN : GNOk ns) (sub : es.Sublist (allP ns.length)) (h : Rep ns es hs) : edU (nbE ns hs) ns ns.length = es.map (nmP ns) := by
  have okE := (sub_ok sub okN.few).1
  conv => rhs; rw [← sub_filter sub (allU_nd _ _)]
  unfold edU allP allU
  rw [List.filter_flatMap, List.map_flatMap]
  refine flatMap_congr fun k hk => ?_
  have lk := List.mem_range.mp hk
  unfold rowG rowP
  rw [nAt_get lk]
  show List.map _ (List.filter _ (ns.drop (k + 1))) = _
  rw [List.filter_map, List.map_map]
  have hd : ns.drop (k + 1) = ((List.range ns.length).drop (k + 1)).map (nAt ns) := (congrArg (List.drop (k + 1)) (ns_range ns)).trans List.map_drop.symm
  rw [hd, List.filter_map, List.map_map]
  have e : (((List.range ns.length).drop (k + 1)).filter ((fun y => decide (y ∈ nbE ns hs (nAt ns k))) ∘ nAt ns)) = (((List.range ns.length).drop (k + 1)).filter ((fun x => decide (x ∈ es)) ∘ fun j => (k, j))) := by
    refine List.filter_congr fun j hj => ?_
    obtain ⟨m, hm⟩ := List.getElem?_of_mem hj
    rw [List.getElem?_drop] at hm
    obtain ⟨lm, em⟩ := List.getElem?_eq_some_iff.mp hm
    rw [List.length_range] at lm
    rw [List.getElem_range] at em
    show decide (nAt ns j ∈ nbE ns hs (nAt ns k)) = decide ((k, j) ∈ es)
    rw [nb_in okN h lk (by omega), decide_eq_decide]
    unfold near
    rw [List.mem_filter, Bool.or_eq_true, decide_eq_true_iff, decide_eq_true_iff, List.mem_range]
    exact ⟨fun ⟨_, h⟩ => h.resolve_right fun c => by have := (okE.sub _ c).1; have : j < k := this; omega, fun c => ⟨by omega, .inl c⟩⟩
  rw [e]
  show List.map (nmP ns ∘ fun j => (k, j)) _ = _
  congr 1
  exact List.filter_congr fun j _ => decide_eq_decide.mpr Iff.rfl

end K46
namespace K46
open PySem PySem.Spec PyProof.Rows L2 TL
/-! ### what a graph tells -/
theorem okd_pss {es : List (Str × Str)} (h : ∀ e ∈ es, NameOk e.1 ∧ NameOk e.2) (l : es.length ≤ 40) : OkD 7003 2 (.list (es.map psD)) := (okd_list (B := 171) (k := 1) (m := 40) (fun d hd => by
  obtain ⟨e, he, rfl⟩ := List.mem_map.mp hd
  exact okd_tuple (B := 82) (k := 0) (m := 2) (allC (okd_name (h e he).1) (all1 (okd_name (h e he).2))) (Nat.le_refl _)) (by rw [List.length_map]; exact l)).mono (by decide) (by decide)
theorem okd_nms {l : List Str} {m : Nat} (h : ∀ s ∈ l, NameOk s) (hm : l.length ≤ m) : OkD (m * 84 + 3) 1 (.list (l.map PyData.str)) := okd_list (B := 82) (fun d hd => by
  obtain ⟨s, hs, rfl⟩ := List.mem_map.mp hd; exact okd_name (h s hs)) (by rw [List.length_map]; exact hm)
theorem strs_dx {K : PySem.W.Frag} {H : Hp} {a : Addr} {ns : List Str} (h : H a = some (.lst (ns.map V.str))) : Dx K H (.ref a) (.list (ns.map PyData.str)) := (isD_L isD_str).dx (show (sL sStr).at [] H (.ref a) ns from ⟨a, _, rfl, by simp, h, pd_strs⟩)
def eL (e : Nat × Nat) : List Int := [(e.1 : Nat), (e.2 : Nat)]
theorem eL_in {es : List (Nat × Nat)} {i j : Nat} : ([(i : Int), (j : Int)] ∈ es.map eL) ↔ (i, j) ∈ es := by
  rw [List.mem_map]
  constructor
  · rintro ⟨e, he, h⟩
    have h1 : (e.1 : Int) = i := (List.cons.inj h).1
    have h2 : (e.2 : Int) = j := (List.cons.inj (List.cons.inj h).2).1
    have : e = (i, j) := Prod.ext (by show e.1 = i; omega) (by show e.2 = j; omega)
    rw [← this]; exact he
  · intro h
    exact ⟨(i, j), h, rfl⟩
theorem es_dp {K : PySem.W.Frag} {M : List Addr} {H : Hp} {a : Addr} {xs : List V} {es : List (Nat × Nat)} (h : H a = some (.lst xs)) (pd : Paired (sNN.at M H) xs es) : Dp K H (.ref a) (.list ((es.map eL).map tupD)) := by
  rw [List.map_map]
  refine .lst (SqL.of h) (dpA (F := sNN.at M H) (d := tupD ∘ eL) (fun v e z => ?_) pd)
  obtain ⟨t, _, _, rfl, _, ht, rfl, rfl⟩ := z
  exact .tup (.inl (.inl ht)) (.cons (.int _) (.cons (.int _) .nil))
theorem ij_dp {K : PySem.W.Frag} {H : Hp} {t : Addr} {i j : Int} (h : H t = some (.tup [.int i, .int j])) : Dp K H (.ref t) (tupD [i, j]) := .tup (.inl (.inl h)) (.cons (.int _) (.cons (.int _) .nil))
theorem flat_nats (l : List Nat) : (l.map fun j => V.int (j : Nat)).all flatV = true := by
  rw [List.all_map, List.all_eq_true]
  intro x _; rfl
theorem inV_nat (l : List Nat) (k : Nat) : inV (.int (0 + (k : Int))) (l.map fun j => V.int (j : Nat)) = decide (k ∈ l) := by
  unfold inV
  rw [List.any_map, Bool.eq_iff_iff, List.any_eq_true, decide_eq_true_iff]
  constructor
  · rintro ⟨x, hx, h⟩
    have h : ((x : Int) == (0 + (k : Int))) = true := h
    have := eq_of_beq h
    have e : x = k := by omega
    rw [← e]; exact hx
  · intro h
    exact ⟨k, h, show ((k : Int) == (0 + (k : Int))) = true by rw [Int.zero_add]; exact beq_self_eq_true _⟩
theorem G_eok {ns : List Str} {es : List (Nat × Nat)} (okN : GNOk ns) (sub : es.Sublist (allP ns.length)) : EOk ns.length es := (sub_ok sub okN.few).1
def sp_ltold (K : PySem.W.Frag) (C : Addr) : Sp := fun vs H Q _ => ∃ (g vn ve : V) (ns : List Str) (es : List (Nat × Nat)) (hs : List (Str × Str)), vs = [g, vn, ve] ∧ (sG C).at [] H g (ns, hs) ∧ (sL sStr).at [] H vn ns ∧ (sL sNN).at [] H ve es ∧ GNOk ns ∧ es.Sublist (allP ns.length) ∧ Rep ns es hs ∧ ∀ H', Same H H' → Q (.bl true) H'
theorem ok_l_told_right {P : Program} {w : World} {K : PySem.W.Frag} {mg : Str → Option Value} {base : Heap} (T : Txt P K mg) : FnG P w K mg base CX0 3 T.f_l_told_right T.fd_l_told_right ["_law_graph_here", "_law_names_here", "_law_edges"] (sp_ltold K T.C_Graph) := by
  refine T.F_l_told_right.okG sc_l_told_right (fun vs H Q E h => ?_) (fun cdv A outer s H vs Q E hr hG h => ?_)
  · obtain ⟨_, _, _, _, _, _, rfl, _⟩ := h; rfl
  · obtain ⟨g, vn, ve, ns, es, hs, rfl, hg, hvn, hve, okN, sub, rep, q⟩ := h
    obtain ⟨p, rfl, hGr⟩ := hg
    replace hGr : IsG T.C_Graph H (fun a => a ∉ []) p ns (nbE ns hs) := hGr
    obtain ⟨an, rfl, -, hN⟩ := Sh.strs hvn
    obtain ⟨ae, xs, rfl, -, hE, pE⟩ := hve
    have lx := plen pE
    have okE := G_eok okN sub
    have l8 := okN.few
    have le40 := okE.few
    have nmp := pairs_nm okN okE
    obtain ⟨dx, dn, kvs, hp, _, hdn, _, pdK⟩ := id hGr
    refine ⟨_, PSs.nox (Evl.pss_cut (ps_for PassesOwn.never rfl (pi_range1 (by rfl) T.n_range (pa_cons pe_int pa_nil)) (pg_name (i := 3) sc_l_told_right.nd rfl (Or.inl rfl)) (pss_cons (ps_set (i := 4) sc_l_told_right.nd rfl (Or.inl rfl) (pe_lst (pa_cons (pe_meth0 (pl := _) (pv 0) T.cl_Graph T.m_Graph_names (ok_Graph_names T) (hr.mono (by decide)) (b_Graph_names T) .nil pass0) (pa_cons (pe_meth0 (pl := _) (pv 0) T.cl_Graph T.m_Graph_edges (ok_Graph_edges T) (hr.mono (by decide)) (b_Graph_edges T) .nil pass0) pa_nil))))
      (pss_cons (ps_setLc (i := 7) (own := [("_law_at", 5), ("_law_other", 6)]) (g := gTup K 2 (gCons (gName 5) (gCons (gName 6) gNil))) rfl sc_l_told_right.nd rfl rfl (sw_true rfl rfl rfl (by decide +kernel)) (pi_list (pv 2)) (blkOk_by (own := [("_law_at", 5), ("_law_other", 6)]) (N := N_l_told_right) (sc := defScope s_l_told_right) (by decide +kernel)) (fun _ _ _ _ _ => (pg_tup rfl (pgs_cons (pg_name (i := 5) sc_l_told_right.nd rfl (Or.inl rfl)) (pgs_cons (pg_name (i := 6) sc_l_told_right.nd rfl (Or.inl rfl)) pgs_nil)))) (fun _ _ _ _ _ => pts_nil) (fun _ _ _ _ _ => (pe_tup (pa_cons (pe_ix (show IxR _ (rIxL K) from ix_list) (pv 1) (pv 5) (fun _ _ => rfl)) (pa_cons (pe_ix (show IxR _ (rIxL K) from ix_list) (pv 1) (pv 6) (fun _ _ => rfl)) pa_nil)))))
      (pss_cons (ps_if (PW.pt (pw_or (pt_cmpR op_ne (pe_callB (show CallR _ _ (rReprD K) from call_reprD hG hr.units T.sm) (by rfl) T.n_repr (by decide +kernel) (pa_cons (pv 4) pa_nil)) (pe_callB (show CallR _ _ (rReprD K) from call_reprD hG hr.units T.sm) (by rfl) T.n_repr (by decide +kernel) (pa_cons (pe_lst (pa_cons (pv 1) (pa_cons (pv 7) pa_nil))) pa_nil)) (nomark _)) (pw_or1 (pt_cmpR op_ne (pe_callB (show CallR _ _ (rLenX T.C_Graph _ E0) from call_lenX (ok_Graph_len T) (hr.mono (by decide)) (b_Graph_len T) pass0 T.m_Graph_len.found T.m_Graph_len.fn) (by rfl) T.n_len (by decide +kernel) (pa_cons (pv 0) pa_nil)) (pe_callB (show CallR _ _ (rLenSeq K) from call_len_seq) (by rfl) T.n_len (by decide +kernel) (pa_cons (pv 1) pa_nil)) (nomark _))))) (pss_one (ps_ret pe_bl)) pss_nil)
      (pss_cons (ps_expr (pe_bm PySem.F.plainAttrs_list PySem.F.slot_list_append PySem.F.type_list_append mt_append (pe_ix (show IxR _ (rIxL K) from ix_list) (pv 4) pe_int (fun _ _ => rfl)) (pa_cons pe_str pa_nil)))
      (pss_one (ps_expr (pe_bm PySem.F.plainAttrs_list PySem.F.slot_list_append PySem.F.type_list_append mt_append (pe_ix (show IxR _ (rIxL K) from ix_list) (pv 4) pe_int (fun _ _ => rfl)) (pa_cons (pe_tup (pa_cons pe_str (pa_cons pe_str pa_nil))) pa_nil)))))))))
      (pss_cons (ps_for PassesOwn.never rfl (pi_enum (by rfl) T.n_enumerate (pa_cons (pv 1) pa_nil)) (pg_tup rfl (pgs_cons (pg_name (i := 5) sc_l_told_right.nd rfl (Or.inr rfl)) (pgs_cons (pg_name (i := 8) sc_l_told_right.nd rfl (Or.inl rfl)) pgs_nil))) (Evl.pss_cut (ps_setLc (i := 9) (own := [("_law_other", 6)]) (g := gName 6) rfl sc_l_told_right.nd rfl rfl (sw_true rfl rfl rfl (by decide +kernel)) (pi_range1 (by rfl) T.n_range (pa_cons (pe_callB (show CallR _ _ (rLenSeq K) from call_len_seq) (by rfl) T.n_len (by decide +kernel) (pa_cons (pv 1) pa_nil)) pa_nil)) (blkOk_by (own := [("_law_other", 6)]) (N := N_l_told_right) (sc := defScope s_l_told_right) (by decide +kernel)) (fun _ _ _ _ _ => (pg_name (i := 6) sc_l_told_right.nd rfl (Or.inl rfl))) (fun _ _ _ _ _ => pts_one (PW.pt (pw_or (pt_cmpR (show OpR _ (compareOp .In) (rInD K) from op_inD (hu65 hr)) (pe_tup (pa_cons (pv 5) (pa_cons (pv 6) pa_nil))) (pv 2) (by first | rfl | with_unfolding_all rfl)) (pw_or1 (pt_cmpR (show OpR _ (compareOp .In) (rInD K) from op_inD (hu65 hr)) (pe_tup (pa_cons (pv 6) (pa_cons (pv 5) pa_nil))) (pv 2) (by first | rfl | with_unfolding_all rfl)))))) (fun _ _ _ _ _ => (pv 6)))
      (Evl.pss_cut (ps_for PassesOwn.never rfl (pi_range1 (by rfl) T.n_range (pa_cons pe_int pa_nil)) (pg_name (i := 3) sc_l_told_right.nd rfl (Or.inl rfl)) (pss_cons (ps_set (i := 10) sc_l_told_right.nd rfl (Or.inl rfl) (pe_meth (pl := _) (pv 0) T.cl_Graph T.m_Graph_neighbors (ok_Graph_neighbors T) (hr.mono (by decide)) (b_Graph_neighbors T) .nil pass0 (pa_cons (pv 8) pa_nil)))
      (pss_cons (ps_if (pt_cmpR op_ne (pe_callB (show CallR _ _ (rReprD K) from call_reprD hG hr.units T.sm) (by rfl) T.n_repr (by decide +kernel) (pa_cons (pv 10) pa_nil)) (pe_callB (show CallR _ _ (rReprD K) from call_reprD hG hr.units T.sm) (by rfl) T.n_repr (by decide +kernel) (pa_cons (pe_lc (own := [("_law_other", 6)]) (g := gName 6) rfl sc_l_told_right.nd (pi_list (pv 9)) (blkOk_by (own := [("_law_other", 6)]) (N := N_l_told_right) (sc := defScope s_l_told_right) (by decide +kernel)) (fun _ _ _ _ _ => (pg_name (i := 6) sc_l_told_right.nd rfl (Or.inl rfl))) (fun _ _ _ _ _ => pts_nil) (fun _ _ _ _ _ => (pe_ix (show IxR _ (rIxL K) from ix_list) (pv 1) (pv 6) (fun _ _ => rfl)))) pa_nil)) (nomark _)) (pss_one (ps_ret pe_bl)) pss_nil)
      (pss_one (ps_expr (pe_bm PySem.F.plainAttrs_list PySem.F.slot_list_append PySem.F.type_list_append mt_append (pv 10) (pa_cons (pv 8) pa_nil)))))))
      (pss_one (ps_for PassesOwn.never rfl (pi_range1 (by rfl) T.n_range (pa_cons (pe_callB (show CallR _ _ (rLenSeq K) from call_len_seq) (by rfl) T.n_len (by decide +kernel) (pa_cons (pv 1) pa_nil)) pa_nil)) (pg_name (i := 6) sc_l_told_right.nd rfl (Or.inl rfl)) (pss_one (ps_if (pt_cmpR op_ne (pe_callB (show CallR _ _ (rReprD K) from call_reprD hG hr.units T.sm) (by rfl) T.n_repr (by decide +kernel) (pa_cons (pe_meth (pl := _) (pv 0) T.cl_Graph T.m_Graph_are_adjacent (ok_Graph_are_adjacent T) (hr.mono (by decide)) (b_Graph_are_adjacent T) .nil pass0 (pa_cons (pv 8) (pa_cons (pe_ix (show IxR _ (rIxL K) from ix_list) (pv 1) (pv 6) (fun _ _ => rfl)) pa_nil))) pa_nil)) (pe_callB (show CallR _ _ (rReprD K) from call_reprD hG hr.units T.sm) (by rfl) T.n_repr (by decide +kernel) (pa_cons (pe_or (pe_cmpR op_eq (pv 6) (pv 5) (nomark _)) (pe_one (pe_cmpR (show OpR _ (compareOp .In) (rIn K false) from op_in_seq) (pv 6) (pv 9) (by first | rfl | with_unfolding_all rfl)))) pa_nil)) (nomark _)) (pss_one (ps_ret pe_bl)) pss_nil)))))))
      (pss_one (ps_ret pe_bl)))), ?_⟩
    rw [show L2.start N_l_told_right [V.ref p, V.ref an, V.ref ae] = [some (.ref p), some (.ref an), some (.ref ae), none, none, none, none, none, none, none, none] from rfl]
    refine ⟨fun σ G => ∃ y3 y4 y5 y6 y7, σ = [some (.ref p), some (.ref an), some (.ref ae), y3, y4, y5, y6, y7, none, none, none] ∧ Same H G, ?_, ?_⟩
    --[[
    · repeat (first | refine ⟨_, rfl, ?_⟩ | refine ⟨_, _, rfl, rfl, ?_⟩ | refine ⟨_, _, rfl, ?_⟩ | refine ⟨rfl, ?_⟩)
      refine ⟨by decide, by decide, for_it walk_range (fun i σ G => ∃ y3 y4 y5 y6 y7, σ = [some (.ref p), some (.ref an), some (.ref ae), y3, y4, y5, y6, y7, none, none, none] ∧ Same H G) ⟨_, _, _, _, _, rfl, Same.refl _⟩ (fun _ _ _ _ _ => trivial) (fun i x σ G1 G2 hi pp yy => ?_) fun σ G1 pp => ?_⟩
      rotate_left
      · exact pp
      obtain ⟨y3, y4, y5, y6, y7, rfl, s1⟩ := pp
      obtain ⟨rfl, rfl⟩ := yy
      repeat (first | refine ⟨_, rfl, ?_⟩ | refine ⟨_, _, rfl, rfl, ?_⟩ | refine ⟨_, _, rfl, ?_⟩ | refine ⟨rfl, ?_⟩)
      refine ⟨p, dx, _, rfl, s1 _ _ hp, gfl_no (by decide +kernel), ?_⟩
      repeat (first | refine ⟨_, rfl, ?_⟩ | refine ⟨_, _, rfl, rfl, ?_⟩ | refine ⟨_, _, rfl, ?_⟩ | refine ⟨rfl, ?_⟩)
      refine ⟨p, _, ns, _, rfl, hGr.same s1, fun l nl => ?_⟩
      have s2 : Same G2 (upd G2 l (.lst (ns.map V.str))) := Same.new nl
      have hl : upd G2 l (.lst (ns.map V.str)) l = some (.lst (ns.map V.str)) := upd_same
      generalize upd G2 l (.lst (ns.map V.str)) = G3 at s2 hl
      have s12 := s1.trans s2
      repeat (first | refine ⟨_, rfl, ?_⟩ | refine ⟨_, _, rfl, rfl, ?_⟩ | refine ⟨_, _, rfl, ?_⟩ | refine ⟨rfl, ?_⟩)
      refine ⟨p, dx, _, rfl, s12 _ _ hp, gfl_no (by decide +kernel), ?_⟩
      repeat (first | refine ⟨_, rfl, ?_⟩ | refine ⟨_, _, rfl, rfl, ?_⟩ | refine ⟨_, _, rfl, ?_⟩ | refine ⟨rfl, ?_⟩)
      refine ⟨[], p, _, ns, _, rfl, Alv.nil, hGr.same s12, okN.nd, l8, fun D G4 s4 nD hD => ?_⟩
      rw [edges_eq okN sub rep] at hD
      have s14 := s12.trans s4
      repeat (first | refine ⟨_, rfl, ?_⟩ | refine ⟨_, _, rfl, rfl, ?_⟩ | refine ⟨_, _, rfl, ?_⟩ | refine ⟨rfl, ?_⟩)
      refine ⟨lenk 2 rfl (by decide), fun t nt => ?_⟩
      have s5 : Same G4 (upd G4 t (.lst [.ref l, .ref D])) := Same.new nt
      have ht : upd G4 t (.lst [.ref l, .ref D]) t = some (.lst [.ref l, .ref D]) := upd_same
      generalize upd G4 t (.lst [.ref l, .ref D]) = G5 at s5 ht
      have s15 := s14.trans s5
      have ntl : t ≠ l := fun e => by rw [e, s4 _ _ hl] at nt; cases nt
      have hD0 := hD
      obtain ⟨_, wsD, eD, -, hDl, pD⟩ := hD0
      cases eD
      have ntD : t ≠ D := fun e => by rw [e, hDl] at nt; cases nt
      have nlD : l ≠ D := fun e => by rw [← e, hl] at nD; cases nD
      have lwD := plen pD
      repeat (first | refine ⟨_, rfl, ?_⟩ | refine ⟨_, _, rfl, rfl, ?_⟩ | refine ⟨_, _, rfl, ?_⟩ | refine ⟨rfl, ?_⟩)
      refine ⟨⟨_, SqL.of (s15 _ _ hE)⟩, fun U nU => ?_⟩
      refine lc_it (walk_list (K := K) (a := ae) (xs := xs)) (fun i H' => ∃ zs, Acc sPS U [] [] G5 H' zs ∧ zs = (es.take i).map (nmP ns)) ⟨[], Acc.start Alv.nil nU (by simp), rfl⟩ (fun i H' _ ⟨_, ac, _⟩ => SqL.of (ac.st.same _ _ (s15 _ _ hE))) ?_ ?_
      · rintro i x Hx G hi ⟨zs, ac, ez⟩ ⟨rfl, hx⟩
        obtain ⟨e, he, te, _, _, rfl, -, hte, rfl, rfl⟩ := pget' pE hx
        obtain ⟨e1, e2⟩ := okE.sub e (List.mem_of_getElem? he)
        have sG := s15.trans ac.st.same
        refine ⟨te, _, rfl, .inl (.inl (sG _ _ hte)), rfl, _, _, rfl, ?_⟩
        repeat (first | refine ⟨_, rfl, ?_⟩ | refine ⟨_, _, rfl, rfl, ?_⟩ | refine ⟨_, _, rfl, ?_⟩ | refine ⟨rfl, ?_⟩)
        have lei := (List.getElem?_eq_some_iff.mp he).1
        refine ⟨an, _, _, .str (nAt ns e.1), rfl, rfl, SqL.of (sG _ _ hN), atI_nat (by rw [List.getElem?_map, nAt_get (show e.1 < ns.length by omega)]; rfl), ?_⟩
        repeat (first | refine ⟨_, rfl, ?_⟩ | refine ⟨_, _, rfl, rfl, ?_⟩ | refine ⟨_, _, rfl, ?_⟩ | refine ⟨rfl, ?_⟩)
        refine ⟨an, _, _, .str (nAt ns e.2), rfl, rfl, SqL.of (sG _ _ hN), atI_nat (by rw [List.getElem?_map, nAt_get e2]; rfl), ?_⟩
        repeat (first | refine ⟨_, rfl, ?_⟩ | refine ⟨_, _, rfl, rfl, ?_⟩ | refine ⟨_, _, rfl, ?_⟩ | refine ⟨rfl, ?_⟩)
        refine ⟨lenk 2 rfl (by decide), fun t nt => ?_⟩
        obtain ⟨vsD, hDv, pD⟩ := ac.ac
        have ntD : t ≠ U := fun e => by rw [e, hDv] at nt; cases nt
        refine ac.put (y := nmP ns e) (R := fun zs => zs = (es.take (i + 1)).map (nmP ns)) (Stp.new nt) ⟨t, _, _, rfl, mem1.mpr ntD, upd_same, rfl, rfl⟩ ?_ ?_
        · rw [ez, List.length_map, List.length_take]; omega
        · rw [ez, take_map_snoc _ he]
      rintro G6 ⟨zs, ac, ez⟩
      rw [lx, List.take_length] at ez
      subst ez
      have s6 := ac.st.same
      have s16 := s15.trans s6
      have hl6 : G6 l = some (.lst (ns.map V.str)) := s6 _ _ (s5 _ _ (s4 _ _ hl))
      have hD6 := Sh.go hD (Stp.of_same (m := []) (s5.trans s6)) Sb.nil Sb.refl
      have ht6 := s6 _ _ ht
      obtain ⟨d0, ed0⟩ : ∃ d0, d0 = PyData.list [.list (ns.map PyData.str), .list ((es.map (nmP ns)).map psD)] := ⟨_, rfl⟩
      have fd : Fine d0 := by
        rw [ed0]
        exact (okd_list (B := 8000) (k := 2) (m := 2) (allC ((okd_nms okN.nm l8).mono (by decide) (by decide)) (all1 ((okd_pss nmp (by rw [List.length_map]; exact le40)).mono (by decide) (by decide)))) (Nat.le_refl _)).fine (by decide) (by decide)
      (repeat (refine ⟨_, rfl, ?_⟩))
      refine ⟨.ref t, d0, rfl, by rw [ed0]; exact .lst (SqL.of ht6) (.cons (strs_dx hl6) (.cons ((isD_L isD_ps).dx hD6) .nil)), fd, ?_⟩
      generalize hsh : PyData.shown d0 = tx
      (repeat (refine ⟨_, rfl, ?_⟩))
      refine ⟨lenk 2 rfl (by decide), fun t2 nt2 => ?_⟩
      have s7 : Same G6 (upd G6 t2 (.lst [.ref an, .ref U])) := Same.new nt2
      have h7 : upd G6 t2 (.lst [.ref an, .ref U]) t2 = some (.lst [.ref an, .ref U]) := upd_same
      generalize upd G6 t2 (.lst [.ref an, .ref U]) = G7 at s7 h7
      have s17 := s16.trans s7
      (repeat (refine ⟨_, rfl, ?_⟩))
      refine ⟨.ref t2, d0, rfl, by rw [ed0]; exact .lst (SqL.of h7) (.cons (strs_dx (s17 _ _ hN)) (.cons ((isD_L isD_ps).dx (Sh.go ac.done (Stp.of_same (m := []) s7) Sb.nil Sb.refl)) .nil)), fd, ?_⟩
      rw [hsh]
      refine ⟨rfl, _, rfl, ?_⟩
      rw [decide_eq_true rfl]
      refine ite2 (fun z => by simp at z) (fun _ => ?_)
      (repeat (refine ⟨_, rfl, ?_⟩))
      refine ⟨p, dx, _, rfl, s17 _ _ hp, p, _, ns, _, rfl, hGr.same s17, ns.length, rfl, by omega, ?_⟩
      (repeat (refine ⟨_, rfl, ?_⟩))
      refine ⟨an, _, rfl, .inl (SqL.of (s17 _ _ hN)), ?_⟩
      refine ⟨rfl, _, rfl, ite2 (fun z => by simp at z) (fun _ => ?_)⟩
      (repeat (refine ⟨_, rfl, ?_⟩))
      refine ⟨t, _, (0 : Int), _, rfl, rfl, SqL.of (s7 _ _ ht6), atI_nat (j := 0) rfl, ?_⟩
      have hl7 := s7 _ _ hl6
      have hD7 : G7 D = some (.lst wsD) := s7 _ _ (s6 _ _ (s5 _ _ hDl))
      have ht7 := s7 _ _ ht6
      have nlH : H l = none := Same.none s1 nl
      have nDH : H D = none := Same.none s12 nD
      refine ⟨.inl ⟨rfl, _, SqL.of hl7⟩, ?_⟩
      repeat (first | refine ⟨_, rfl, ?_⟩ | refine ⟨_, _, rfl, rfl, ?_⟩ | refine ⟨_, _, rfl, ?_⟩ | refine ⟨rfl, ?_⟩)
      refine ⟨l, _, _, rfl, rfl, hl7, by rw [List.length_map, sizeLine_eq]; omega, ?_⟩
      have s18 := Same.upd_p (o := .lst (ns.map V.str ++ [.str (Str.ofString "zzz")])) s17 nlH
      have hD8 : upd G7 l (.lst (ns.map V.str ++ [.str (Str.ofString "zzz")])) D = some (.lst wsD) := by rw [upd_ne nlD.symm]; exact hD7
      have ht8 : upd G7 l (.lst (ns.map V.str ++ [.str (Str.ofString "zzz")])) t = some (.lst [.ref l, .ref D]) := by rw [upd_ne ntl]; exact ht7
      generalize upd G7 l (.lst (ns.map V.str ++ [.str (Str.ofString "zzz")])) = G8 at s18 hD8 ht8
      repeat (first | refine ⟨_, rfl, ?_⟩ | refine ⟨_, _, rfl, rfl, ?_⟩ | refine ⟨_, _, rfl, ?_⟩ | refine ⟨rfl, ?_⟩)
      refine ⟨t, _, (1 : Int), _, rfl, rfl, SqL.of ht8, atI_nat (j := 1) rfl, ?_⟩
      refine ⟨.inl ⟨rfl, _, SqL.of hD8⟩, ?_⟩
      repeat (first | refine ⟨_, rfl, ?_⟩ | refine ⟨_, _, rfl, rfl, ?_⟩ | refine ⟨_, _, rfl, ?_⟩ | refine ⟨rfl, ?_⟩)
      refine ⟨lenk 2 rfl (by decide), fun t9 nt9 => ?_⟩
      have s9 : Same G8 (upd G8 t9 (.tup [.str (Str.ofString "zzz"), .str (Str.ofString "yyy")])) := Same.new nt9
      generalize upd G8 t9 (.tup [.str (Str.ofString "zzz"), .str (Str.ofString "yyy")]) = G9 at s9
      repeat (first | refine ⟨_, rfl, ?_⟩ | refine ⟨_, _, rfl, rfl, ?_⟩ | refine ⟨_, _, rfl, ?_⟩ | refine ⟨rfl, ?_⟩)
      refine ⟨D, _, _, rfl, rfl, s9 _ _ hD8, by rw [lwD, List.length_map, sizeLine_eq]; omega, ?_⟩
      exact ⟨_, _, _, _, _, rfl, Same.upd_p (s18.trans s9) nDH⟩
    --]]
    rintro σ G ⟨y3, y4, y5, y6, y7, rfl, s1⟩
    repeat (first | refine ⟨_, rfl, ?_⟩ | refine ⟨_, _, rfl, rfl, ?_⟩ | refine ⟨_, _, rfl, ?_⟩ | refine ⟨rfl, ?_⟩)
    refine ⟨an, _, rfl, SqL.of (s1 _ _ hN), for_it (walk_enum (K := K) (a := an) (xs := ns.map V.str)) (fun i σ G => ∃ y3 y5 y6 y8 y9 y10, σ = [some (.ref p), some (.ref an), some (.ref ae), y3, y4, y5, y6, y7, y8, y9, y10] ∧ Same H G) ⟨_, _, _, _, _, _, rfl, s1⟩ (fun i σ G _ ⟨_, _, _, _, _, _, _, k⟩ => SqL.of (k _ _ hN)) ?_ ?_⟩
    rotate_left
    · rintro σ G1 ⟨y3, y5, y6, y8, y9, y10, rfl, s2⟩
      repeat (first | refine ⟨_, rfl, ?_⟩ | refine ⟨_, _, rfl, rfl, ?_⟩ | refine ⟨_, _, rfl, ?_⟩ | refine ⟨rfl, ?_⟩)
      exact q _ s2
    rintro i x σ H2 G2 hi ⟨y3, y5, y6, y8, y9, y10, rfl, s2⟩ ⟨T1, x1, x2, rfl, nT, rfl, ex1, ex2⟩
    cases ex1
    replace ex2 : (ns.map V.str)[i]? = some x2 := ex2
    have li : i < ns.length := by simpa using hi
    obtain rfl : x2 = .str (nAt ns i) := by
      rw [List.getElem?_map, nAt_get li] at ex2
      exact (Option.some.inj ex2).symm
    have mi : nAt ns i ∈ ns := List.mem_of_getElem? (nAt_get li)
    have s3 := s2.trans (Same.new (o := .tup [.int (i : Nat), .str (nAt ns i)]) nT)
    refine ⟨T1, _, rfl, .inl (.inl upd_same), rfl, _, _, rfl, _, _, rfl, rfl, ?_⟩
    generalize upd H2 T1 (.tup [.int (i : Nat), .str (nAt ns i)]) = G3 at s3
    refine ⟨fun σ G => ∃ (Nn : Addr) (y6 : Option V), σ = [some (.ref p), some (.ref an), some (.ref ae), y3, y4, some (.int (i : Nat)), y6, y7, some (.str (nAt ns i)), some (.ref Nn), y10] ∧ Same H G ∧ G Nn = some (.lst ((near ns.length es i).map fun j => V.int (j : Nat))) ∧ H Nn = none, ?_, ?_⟩
    --[[
    · repeat (first | refine ⟨_, rfl, ?_⟩ | refine ⟨_, _, rfl, rfl, ?_⟩ | refine ⟨_, _, rfl, ?_⟩ | refine ⟨rfl, ?_⟩)
      refine ⟨an, _, rfl, .inl (SqL.of (s3 _ _ hN)), ?_⟩
      repeat (first | refine ⟨_, rfl, ?_⟩ | refine ⟨_, _, rfl, rfl, ?_⟩ | refine ⟨_, _, rfl, ?_⟩ | refine ⟨rfl, ?_⟩)
      refine ⟨by omega, by rw [List.length_map]; omega, fun D nD => lc_range (fun j H' => H' D = some (.lst (((List.range j).filter fun j => decide ((i, j) ∈ es) || decide ((j, i) ∈ es)).map fun j => V.int (j : Nat))) ∧ Same G3 H') ⟨upd_same, Same.new nD⟩ (fun j H' hj pp => ⟨rfl, ?_⟩) (fun H5 pp => ?_)⟩
      · obtain ⟨hD, s5⟩ := pp
        have s15 := s3.trans s5
        have lf := List.length_filter_le (fun j => decide ((i, j) ∈ es) || decide ((j, i) ∈ es)) (List.range j)
        rw [List.length_range] at lf
        have lj : j < ns.length := by simpa using hj
        rw [List.range_succ, List.filter_append, List.filter_cons, List.filter_nil]
        repeat (first | refine ⟨_, rfl, ?_⟩ | refine ⟨_, _, rfl, rfl, ?_⟩ | refine ⟨_, _, rfl, ?_⟩ | refine ⟨rfl, ?_⟩)
        rw [show (0 + (j : Int)) = ((j : Nat) : Int) from Int.zero_add _]
        refine ⟨lenk 2 rfl (by decide), fun t nt => ?_⟩
        have s6 : Same H' (upd H' t (.tup [.int (i : Nat), .int (j : Nat)])) := Same.new nt
        have h6 : upd H' t (.tup [.int (i : Nat), .int (j : Nat)]) t = some (.tup [.int (i : Nat), .int (j : Nat)]) := upd_same
        have hD6 := s6 _ _ hD
        generalize upd H' t (.tup [.int (i : Nat), .int (j : Nat)]) = G6 at s6 h6 hD6
        have s16 := s15.trans s6
        repeat (first | refine ⟨_, rfl, ?_⟩ | refine ⟨_, _, rfl, rfl, ?_⟩ | refine ⟨_, _, rfl, ?_⟩ | refine ⟨rfl, ?_⟩)
        refine ⟨_, _, ij_dp h6, es_dp (s16 _ _ hE) (Sh.gos pE (Stp.of_same (m := []) s16) Sb.nil Sb.refl), (shd_tup _).shaped (by decide), (shd_tups _).shaped (by decide), ?_⟩
        rw [any_tups]
        refine ⟨_, rfl, ite2 (fun c => ?_) (fun c => ?_)⟩
        · have c' : (i, j) ∈ es := eL_in.mp (of_decide_eq_true c)
          repeat (first | refine ⟨_, rfl, ?_⟩ | refine ⟨_, _, rfl, rfl, ?_⟩ | refine ⟨_, _, rfl, ?_⟩ | refine ⟨rfl, ?_⟩)
          refine ⟨_, hD6, by rw [List.length_map, sizeLine_eq]; omega, ?_, Same.upd_p (s5.trans s6) nD⟩
          rw [upd_same, decide_eq_true c', Bool.true_or, if_pos rfl, List.map_append]; rfl
        have c' : (i, j) ∉ es := fun h => c (decide_eq_true (eL_in.mpr h))
        repeat (first | refine ⟨_, rfl, ?_⟩ | refine ⟨_, _, rfl, rfl, ?_⟩ | refine ⟨_, _, rfl, ?_⟩ | refine ⟨rfl, ?_⟩)
        refine ⟨lenk 2 rfl (by decide), fun t2 nt2 => ?_⟩
        have s7 : Same G6 (upd G6 t2 (.tup [.int (j : Nat), .int (i : Nat)])) := Same.new nt2
        have h7 : upd G6 t2 (.tup [.int (j : Nat), .int (i : Nat)]) t2 = some (.tup [.int (j : Nat), .int (i : Nat)]) := upd_same
        have hD7 := s7 _ _ hD6
        generalize upd G6 t2 (.tup [.int (j : Nat), .int (i : Nat)]) = G7 at s7 h7 hD7
        have s17 := s16.trans s7
        repeat (first | refine ⟨_, rfl, ?_⟩ | refine ⟨_, _, rfl, rfl, ?_⟩ | refine ⟨_, _, rfl, ?_⟩ | refine ⟨rfl, ?_⟩)
        refine ⟨_, _, ij_dp h7, es_dp (s17 _ _ hE) (Sh.gos pE (Stp.of_same (m := []) s17) Sb.nil Sb.refl), (shd_tup _).shaped (by decide), (shd_tups _).shaped (by decide), ?_⟩
        rw [any_tups, decide_eq_false c', Bool.false_or]
        refine ⟨_, rfl, ite2 (fun c2 => ?_) (fun c2 => ?_)⟩
        · have c3 : (j, i) ∈ es := eL_in.mp (of_decide_eq_true c2)
          repeat (first | refine ⟨_, rfl, ?_⟩ | refine ⟨_, _, rfl, rfl, ?_⟩ | refine ⟨_, _, rfl, ?_⟩ | refine ⟨rfl, ?_⟩)
          refine ⟨_, hD7, by rw [List.length_map, sizeLine_eq]; omega, ?_, Same.upd_p (s5.trans (s6.trans s7)) nD⟩
          rw [upd_same, decide_eq_true c3, if_pos rfl, List.map_append]; rfl
        · have c3 : (j, i) ∉ es := fun h => c2 (decide_eq_true (eL_in.mpr h))
          rw [decide_eq_false c3, if_neg Bool.false_ne_true, List.append_nil]
          exact ⟨hD7, s5.trans (s6.trans s7)⟩
      · obtain ⟨hD, s5⟩ := pp
        rw [Int.toNat_natCast, List.length_map] at hD
        exact ⟨_, _, rfl, s3.trans s5, hD, Same.none s3 nD⟩
    --]]
    clear s3
    rintro σ G4 ⟨Nn, y6, rfl, s4, hNn, nNn⟩
    have nbe := nb_near rep li
    have nml : ∀ x ∈ (near ns.length es i).map (nAt ns), NameOk x := fun x hx => by
      obtain ⟨j, hj, rfl⟩ := List.mem_map.mp hx
      exact okN.nm _ (List.mem_of_getElem? (nAt_get (List.mem_range.mp (List.mem_filter.mp hj).1)))
    have lnear : (near ns.length es i).length ≤ 8 := Nat.le_trans (List.length_filter_le _ _) (by rw [List.length_range]; exact l8)
    refine ⟨fun σ G => ∃ (y3 y6 y10 : Option V), σ = [some (.ref p), some (.ref an), some (.ref ae), y3, y4, some (.int (i : Nat)), y6, y7, some (.str (nAt ns i)), some (.ref Nn), y10] ∧ Same G4 G, ?_, ?_⟩
    --[[
    · repeat (first | refine ⟨_, rfl, ?_⟩ | refine ⟨_, _, rfl, rfl, ?_⟩ | refine ⟨_, _, rfl, ?_⟩ | refine ⟨rfl, ?_⟩)
      refine ⟨by decide, by decide, for_it walk_range (fun k σ G => ∃ (y3 y6 y10 : Option V), σ = [some (.ref p), some (.ref an), some (.ref ae), y3, y4, some (.int (i : Nat)), y6, y7, some (.str (nAt ns i)), some (.ref Nn), y10] ∧ Same G4 G) ⟨_, _, _, rfl, Same.refl _⟩ (fun _ _ _ _ _ => trivial) (fun k x σ G5 G6 hk pp yy => ?_) fun σ G1 pp => pp⟩
      obtain ⟨y3, y6, y10, rfl, s5⟩ := pp
      obtain ⟨rfl, rfl⟩ := yy
      have s45 := s4.trans s5
      repeat (first | refine ⟨_, rfl, ?_⟩ | refine ⟨_, _, rfl, rfl, ?_⟩ | refine ⟨_, _, rfl, ?_⟩ | refine ⟨rfl, ?_⟩)
      refine ⟨p, dx, _, rfl, s45 _ _ hp, gfl_no (by decide +kernel), ?_⟩
      repeat (first | refine ⟨_, rfl, ?_⟩ | refine ⟨_, _, rfl, rfl, ?_⟩ | refine ⟨_, _, rfl, ?_⟩ | refine ⟨rfl, ?_⟩)
      refine ⟨p, _, ns, _, nAt ns i, rfl, hGr.same s45, okN.nd, mi, fun f G7 s7 nf hf => ?_⟩
      rw [nbe] at hf
      have s47 := s45.trans s7
      have nf4 : G4 f = none := Same.none s5 nf
      have fd : Fine (.list (((near ns.length es i).map (nAt ns)).map PyData.str)) := (okd_nms (m := 8) nml (by rw [List.length_map]; exact lnear)).fine (by decide) (by decide)
      (repeat (refine ⟨_, rfl, ?_⟩))
      refine ⟨.ref f, _, rfl, strs_dx hf, fd, ?_⟩
      generalize hsh : PyData.shown (.list (((near ns.length es i).map (nAt ns)).map PyData.str)) = tx
      (repeat (refine ⟨_, rfl, ?_⟩))
      have hN7 := (s5.trans s7) _ _ hNn
      refine ⟨⟨_, SqL.of hN7⟩, fun U nU => ?_⟩
      refine lc_it (walk_list (K := K) (a := Nn) (xs := (near ns.length es i).map fun j => V.int (j : Nat))) (fun k H' => H' U = some (.lst (((near ns.length es i).take k).map fun j => V.str (nAt ns j))) ∧ Same G7 H') ⟨upd_same, Same.new nU⟩ (fun k H' _ h => SqL.of (h.2 _ _ hN7)) ?_ ?_
      · rintro m z H8 H9 hm ⟨hU, s8⟩ ⟨rfl, hz⟩
        rw [List.getElem?_map] at hz
        obtain ⟨j, hj, rfl⟩ := Option.map_eq_some_iff.mp hz
        have lj : j < ns.length := List.mem_range.mp (List.mem_filter.mp (List.mem_of_getElem? hj)).1
        have lm := (List.getElem?_eq_some_iff.mp hj).1
        refine ⟨wipe_in (by decide), ?_⟩
        repeat (first | refine ⟨_, rfl, ?_⟩ | refine ⟨_, _, rfl, rfl, ?_⟩ | refine ⟨_, _, rfl, ?_⟩ | refine ⟨rfl, ?_⟩)
        refine ⟨an, _, _, .str (nAt ns j), rfl, rfl, SqL.of (s8 _ _ (s47 _ _ hN)), atI_nat (by rw [List.getElem?_map, nAt_get lj]; rfl), ?_⟩
        refine ⟨_, hU, by rw [List.length_map, List.length_take, sizeLine_eq]; omega, ?_, Same.upd_p s8 nU⟩
        rw [upd_same, take_map_snoc _ hj]
      rintro G8 ⟨hU, s8⟩
      rw [List.length_map, List.take_length] at hU
      have hU' : G8 U = some (.lst (((near ns.length es i).map (nAt ns)).map V.str)) := by rw [hU, List.map_map]; rfl
      (repeat (refine ⟨_, rfl, ?_⟩))
      refine ⟨.ref U, _, rfl, strs_dx hU', fd, ?_⟩
      rw [hsh]
      refine ⟨rfl, _, rfl, ?_⟩
      rw [decide_eq_true rfl]
      refine ite2 (fun z => by simp at z) (fun _ => ?_)
      have hf8 := s8 _ _ hf
      repeat (first | refine ⟨_, rfl, ?_⟩ | refine ⟨_, _, rfl, rfl, ?_⟩ | refine ⟨_, _, rfl, ?_⟩ | refine ⟨rfl, ?_⟩)
      refine ⟨.inl ⟨rfl, _, SqL.of hf8⟩, ?_⟩
      repeat (first | refine ⟨_, rfl, ?_⟩ | refine ⟨_, _, rfl, rfl, ?_⟩ | refine ⟨_, _, rfl, ?_⟩ | refine ⟨rfl, ?_⟩)
      refine ⟨f, _, _, rfl, rfl, hf8, by rw [List.length_map, List.length_map, sizeLine_eq]; omega, ?_⟩
      exact ⟨_, _, _, rfl, Same.upd_p (s5.trans (s7.trans s8)) nf4⟩
    --]]
    rintro σ G5 ⟨y3, y6, y10, rfl, s5⟩
    have s15 := s4.trans s5
    repeat (first | refine ⟨_, rfl, ?_⟩ | refine ⟨_, _, rfl, rfl, ?_⟩ | refine ⟨_, _, rfl, ?_⟩ | refine ⟨rfl, ?_⟩)
    refine ⟨an, _, rfl, .inl (SqL.of (s15 _ _ hN)), ?_⟩
    repeat (first | refine ⟨_, rfl, ?_⟩ | refine ⟨_, _, rfl, rfl, ?_⟩ | refine ⟨_, _, rfl, ?_⟩ | refine ⟨rfl, ?_⟩)
    refine ⟨by omega, by rw [List.length_map]; omega, for_it walk_range (fun k σ G => ∃ (y6 : Option V), σ = [some (.ref p), some (.ref an), some (.ref ae), y3, y4, some (.int (i : Nat)), y6, y7, some (.str (nAt ns i)), some (.ref Nn), y10] ∧ Same G5 G) ⟨_, rfl, Same.refl _⟩ (fun _ _ _ _ _ => trivial) (fun k x σ G6 G7 hk pp yy => ?_) fun σ G1 pp => ?_⟩
    rotate_left
    · obtain ⟨y6, rfl, s6⟩ := pp
      exact ⟨_, _, _, _, _, _, rfl, s15.trans s6⟩
    obtain ⟨y6, rfl, s6⟩ := pp
    obtain ⟨rfl, rfl⟩ := yy
    have lk : k < ns.length := by simpa using hk
    have mk' : nAt ns k ∈ ns := List.mem_of_getElem? (nAt_get lk)
    have s16 := s15.trans s6
    have hat : atI (ns.map V.str) (0 + (k : Int)) = some (.str (nAt ns k)) := by
      rw [Int.zero_add]
      exact atI_nat (by rw [List.getElem?_map, nAt_get lk]; rfl)
    repeat (first | refine ⟨_, rfl, ?_⟩ | refine ⟨_, _, rfl, rfl, ?_⟩ | refine ⟨_, _, rfl, ?_⟩ | refine ⟨rfl, ?_⟩)
    refine ⟨p, dx, _, rfl, s16 _ _ hp, gfl_no (by decide +kernel), ?_⟩
    repeat (first | refine ⟨_, rfl, ?_⟩ | refine ⟨_, _, rfl, rfl, ?_⟩ | refine ⟨_, _, rfl, ?_⟩ | refine ⟨rfl, ?_⟩)
    refine ⟨an, _, _, .str (nAt ns k), rfl, rfl, SqL.of (s16 _ _ hN), hat, ?_⟩
    repeat (first | refine ⟨_, rfl, ?_⟩ | refine ⟨_, _, rfl, rfl, ?_⟩ | refine ⟨_, _, rfl, ?_⟩ | refine ⟨rfl, ?_⟩)
    refine ⟨p, _, ns, _, nAt ns i, nAt ns k, rfl, hGr.same s16, okN.nd, mi, mk', fun G8 s8 => ?_⟩
    have s18 := s16.trans s8
    have ei : decide (nAt ns i = nAt ns k) = decide (k = i) := decide_eq_decide.mpr ⟨fun e => (nAt_inj okN.nd li lk e).symm, fun e => by rw [e]⟩
    rw [nb_in okN rep li lk, ei]
    generalize hB : (decide (k = i) || decide (k ∈ near ns.length es i)) = B
    have fb : Fine (.bool B) := (okd_bool B).fine (by decide) (by decide)
    (repeat (refine ⟨_, rfl, ?_⟩))
    refine ⟨_, .bool B, rfl, .bl B, fb, ?_⟩
    generalize hsh : PyData.shown (.bool B) = tx
    (repeat (refine ⟨_, rfl, ?_⟩))
    refine ⟨rfl, _, rfl, ite2 (fun c => ?_) (fun c => ?_)⟩
    · have hki : k = i := by
        have h := of_decide_eq_true c
        have h : (0 + (k : Int)) = (i : Int) := by injection h
        omega
      have eB : B = true := by rw [← hB, decide_eq_true hki]; rfl
      (repeat (refine ⟨_, rfl, ?_⟩))
      refine ⟨_, .bool true, rfl, .bl true, (okd_bool true).fine (by decide) (by decide), ?_⟩
      rw [show PyData.shown (.bool true) = tx by rw [← eB]; exact hsh]
      refine ⟨rfl, _, rfl, ?_⟩
      rw [decide_eq_true rfl]
      refine ite2 (fun z => by simp at z) (fun _ => ?_)
      exact ⟨_, rfl, s6.trans s8⟩
    · have hki : ¬ k = i := fun e => c (decide_eq_true (show V.int (0 + (k : Int)) = V.int (i : Int) by rw [Int.zero_add, e]))
      have eB : decide (k ∈ near ns.length es i) = B := by rw [← hB, decide_eq_false hki, Bool.false_or]
      (repeat (refine ⟨_, rfl, ?_⟩))
      refine ⟨Nn, _, rfl, .inl (SqL.of ((s5.trans (s6.trans s8)) _ _ hNn)), rfl, flat_nats _, ?_⟩
      rw [inV_nat, eB]
      (repeat (refine ⟨_, rfl, ?_⟩))
      refine ⟨_, .bool B, rfl, .bl B, fb, ?_⟩
      rw [hsh]
      refine ⟨rfl, _, rfl, ?_⟩
      rw [decide_eq_true rfl]
      refine ite2 (fun z => by simp at z) (fun _ => ?_)
      exact ⟨_, rfl, s6.trans s8⟩

end K46
namespace K46
open PySem PySem.Spec PyProof.Rows L2 TL
/-! ### graphs compared -/
theorem sG_parts {C : Addr} {M : List Addr} {H : Hp} {v : V} {ns : List Str} {hs : List (Str × Str)} (h : (sG C).at M H v (ns, hs)) : ∃ p, v = .ref p ∧ IsG C H (fun a => a ∉ M) p ns (nbE ns hs) := h
theorem nbE_nm {ns : List Str} {hs : List (Str × Str)} (okN : GNOk ns) : ∀ x, ∀ z ∈ nbE ns hs x, NameOk z := fun x z hz => okN.nm z (List.mem_filter.mp hz).1
def sameH (ns ns' : List Str) (hs hs' : List (Str × Str)) : Bool := sameG ns ns' (nbE ns hs) (nbE ns' hs')
theorem geq_sp {K : PySem.W.Frag} {C : Addr} {M M' : List Addr} {H : Hp} {p : Addr} {v : V} {ns ns' : List Str} {hs hs' : List (Str × Str)} {Q : VK} {E : XK} (hg : (sG C).at M H (.ref p) (ns, hs)) (hg' : (sG C).at M' H v (ns', hs')) (okN : GNOk ns) (okN' : GNOk ns')
    (q : ∀ H', Same H H' → Q (.bl (sameH ns ns' hs hs')) H') : sp_geq K C [.ref p, v] H Q E := by
  obtain ⟨p0, e0, h⟩ := sG_parts hg
  cases e0
  obtain ⟨p', e, h'⟩ := sG_parts hg'
  exact ⟨p, v, _, ns, _, rfl, h, okN.nd, okN.nm, nbE_nm okN, .inl ⟨p', _, ns', _, e, h', okN'.nd, okN'.nm, nbE_nm okN', q⟩⟩
theorem geq_ask {K : PySem.W.Frag} {C : Addr} (O : OwnC K C) {M M' : List Addr} {H : Hp} {p : Addr} {v : V} {ns ns' : List Str} {hs hs' : List (Str × Str)} {Q : VK} {E : XK} (hg : (sG C).at M H (.ref p) (ns, hs)) (hg' : (sG C).at M' H v (ns', hs')) (okN : GNOk ns) (okN' : GNOk ns')
    (q : ∀ H', Same H H' → Q (.bl (sameH ns ns' hs hs')) H') : rEqX K C (sp_geq K C) E (.ref p) v H Q := by
  obtain ⟨p0, e0, dx, dn, kvs, hp, _⟩ := sG_parts hg
  cases e0
  obtain ⟨p', e, dx', dn', kvs', hp', _⟩ := sG_parts hg'
  exact ⟨p, dx, _, _, rfl, hp, by rw [e]; exact O.ty hp', O.nm, geq_sp hg hg' okN okN' fun H' s => ⟨_, rfl, q H' s⟩⟩
theorem gne_ask {K : PySem.W.Frag} {C : Addr} (O : OwnC K C) {M M' : List Addr} {H : Hp} {p : Addr} {v : V} {ns ns' : List Str} {hs hs' : List (Str × Str)} {Q : VK} {E : XK} (hg : (sG C).at M H (.ref p) (ns, hs)) (hg' : (sG C).at M' H v (ns', hs')) (okN : GNOk ns) (okN' : GNOk ns')
    (q : ∀ H', Same H H' → Q (.bl (!sameH ns ns' hs hs')) H') : rNeX K C (sp_geq K C) E (.ref p) v H Q := by
  obtain ⟨p0, e0, dx, dn, kvs, hp, _⟩ := sG_parts hg
  cases e0
  obtain ⟨p', e, dx', dn', kvs', hp', _⟩ := sG_parts hg'
  exact ⟨p, dx, _, _, rfl, hp, by rw [e]; exact O.ty hp', O.nm, geq_sp hg hg' okN okN' fun H' s => ⟨_, rfl, q H' s⟩⟩
/-- something that is no graph -/
theorem geq_no {K : PySem.W.Frag} {C : Addr} {M : List Addr} {H : Hp} {p : Addr} {v : V} {t : Value} {ns : List Str} {hs : List (Str × Str)} {Q : VK} {E : XK} (hg : (sG C).at M H (.ref p) (ns, hs)) (okN : GNOk ns) (ty : TyX K H v t) (nf : PySem.W.notFirst K C t = true) (kk : PySem.W.kitOne K t (.ref C) = some false) (q : Q (.bl false) H) : rEqX K C (sp_geq K C) E (.ref p) v H Q := by
  obtain ⟨p0, e0, h⟩ := sG_parts hg
  cases e0
  obtain ⟨dx, dn, kvs, hp, _⟩ := id h
  exact ⟨p, dx, _, t, rfl, hp, ty, nf, p, v, _, ns, _, rfl, h, okN.nd, okN.nm, nbE_nm okN, .inr ⟨t, ty, kk, _, rfl, q⟩⟩
theorem gne_no {K : PySem.W.Frag} {C : Addr} {M : List Addr} {H : Hp} {p : Addr} {v : V} {t : Value} {ns : List Str} {hs : List (Str × Str)} {Q : VK} {E : XK} (hg : (sG C).at M H (.ref p) (ns, hs)) (okN : GNOk ns) (ty : TyX K H v t) (nf : PySem.W.notFirst K C t = true) (kk : PySem.W.kitOne K t (.ref C) = some false) (q : Q (.bl true) H) : rNeX K C (sp_geq K C) E (.ref p) v H Q := by
  obtain ⟨p0, e0, h⟩ := sG_parts hg
  cases e0
  obtain ⟨dx, dn, kvs, hp, _⟩ := id h
  exact ⟨p, dx, _, t, rfl, hp, ty, nf, p, v, _, ns, _, rfl, h, okN.nd, okN.nm, nbE_nm okN, .inr ⟨t, ty, kk, _, rfl, q⟩⟩
theorem same_yes {ns : List Str} {es : List (Nat × Nat)} {hs hs' : List (Str × Str)} (h : Rep ns es hs) (h' : Rep ns es hs') : sameH ns ns hs hs' = true := by
  unfold sameH sameG
  rw [decide_eq_true rfl, Bool.true_and, List.all_eq_true]
  intro x hx
  obtain ⟨i, hi⟩ := List.getElem?_of_mem hx
  have li := (List.getElem?_eq_some_iff.mp hi).1
  rw [nAt_get li] at hi
  cases hi
  rw [nb_near h li, nb_near h' li]
  exact decide_eq_true rfl
theorem same_ns {ns ns' : List Str} {hs hs' : List (Str × Str)} (h : ns ≠ ns') : sameH ns ns' hs hs' = false := by
  unfold sameH sameG
  rw [decide_eq_false h, Bool.false_and]
theorem same_es {ns : List Str} {es es' : List (Nat × Nat)} {hs hs' : List (Str × Str)} (okN : GNOk ns) (ok : EOk ns.length es) (ok' : EOk ns.length es') (h : Rep ns es hs) (h' : Rep ns es' hs') {i j : Nat} (hij : i < j) (hj : j < ns.length) (d : decide ((i, j) ∈ es) ≠ decide ((i, j) ∈ es')) : sameH ns ns hs hs' = false := by
  unfold sameH sameG
  rw [decide_eq_true rfl, Bool.true_and, List.all_eq_false]
  refine ⟨nAt ns i, List.mem_of_getElem? (nAt_get (show i < ns.length by omega)), fun c => d ?_⟩
  have e := of_decide_eq_true c
  have h1 := nb_in okN h (show i < ns.length by omega) hj
  have h2 := nb_in okN h' (show i < ns.length by omega) hj
  rw [e, h2] at h1
  have nr : ∀ {es : List (Nat × Nat)}, EOk ns.length es → decide (j ∈ near ns.length es i) = decide ((i, j) ∈ es) := fun {es} ok => by
    rw [decide_eq_decide]
    unfold near
    rw [List.mem_filter, Bool.or_eq_true, decide_eq_true_iff, decide_eq_true_iff, List.mem_range]
    exact ⟨fun ⟨_, h⟩ => h.resolve_right fun c => by have := (ok.sub _ c).1; have : j < i := this; omega, fun c => ⟨hj, .inl c⟩⟩
  rw [nr ok, nr ok'] at h1
  exact h1.symm
theorem mkGs {K : PySem.W.Frag} {C : Addr} {H : Hp} {M : List Addr} {Post : Addr → Hp → Prop} {E : XK} {v u : V} {ns : List Str} {hs : List (Str × Str)} {vs dvs : List V} (al : Alv M H) (hv : (sQ sStr).at M H v ns) (hu : SqE K H u hs) (okN : GNOk ns) (okE : GEOk ns hs)
    (q : ∀ p H', Same H H' → H p = none → (sG C).at M H' (.ref p) (ns, hs) → Post p H') (e : vs ++ dvs = [v, u] := by rfl) :
    ∀ x dx, H x = none → H dx = none → dx ≠ x → sp_ginit K C (.ref x :: (vs ++ dvs)) (upd (upd H dx (.own x)) x (.ins C dx [])) (fun v H2 => v = .non ∧ Post x H2) E := by
  intro x dx nx ndx ne
  rw [e]
  refine ⟨H, x, dx, v, u, ns, hs, rfl, upd_same, nx, Same.upd_p (Same.new ndx) nx, Sh.all hv, hu, okN, okE, fun H' s hG => ⟨rfl, q x H' s nx ⟨x, rfl, ?_⟩⟩⟩
  obtain ⟨dx, dn, kvs, h1, w1, h2, w2, pd⟩ := hG
  exact ⟨dx, dn, kvs, h1, al.off w1, h2, al.off w2, Paired.mono (fun _ _ ⟨e, a, e2, w, h⟩ => ⟨e, a, e2, al.off w, h⟩) pd⟩
/-- what stays while a graph is compared -/
structure Eqr (C : Addr) (M : List Addr) (b p : Addr) (vn ve : V) (ns : List Str) (hs : List (Str × Str)) (es : List (Nat × Nat)) (H G : Hp) (m : Nat) : Prop where
  st : Stp [b] H G
  bag : Bag G b m
  al : Alv M G
  hg : (sG C).at M G (.ref p) (ns, hs)
  hn : (sL sStr).at M G vn ns
  he : (sL sNN).at M G ve es
theorem Eqr.same {C : Addr} {M : List Addr} {b p : Addr} {vn ve : V} {ns : List Str} {hs : List (Str × Str)} {es : List (Nat × Nat)} {H G G' : Hp} {m : Nat} (h : Eqr C M b p vn ve ns hs es H G m) (s : Same G G') : Eqr C M b p vn ve ns hs es H G' m :=
  ⟨h.st.trans (Stp.of_same s), Bag.stp h.bag (Stp.of_same (m := []) s) (by simp), h.al.go (Stp.of_same (m := []) s), Sh.go h.hg (Stp.of_same (m := []) s) Sb.nil Sb.refl, Sh.go h.hn (Stp.of_same (m := []) s) Sb.nil Sb.refl, Sh.go h.he (Stp.of_same (m := []) s) Sb.nil Sb.refl⟩
theorem Eqr.step {C : Addr} {M : List Addr} {b p : Addr} {vn ve : V} {ns : List Str} {hs : List (Str × Str)} {es : List (Nat × Nat)} {H G G' : Hp} {m m' : Nat} (h : Eqr C M b p vn ve ns hs es H G m) (hb : b ∈ M) (s : Stp [b] G G') (bg : Bag G' b m') : Eqr C M b p vn ve ns hs es H G' m' :=
  ⟨h.st.trans s, bg, h.al.go s, Sh.go h.hg s (Sb.one hb) Sb.refl, Sh.go h.hn s (Sb.one hb) Sb.refl, Sh.go h.he s (Sb.one hb) Sb.refl⟩
theorem Eqr.mono {C : Addr} {M : List Addr} {b p : Addr} {vn ve : V} {ns : List Str} {hs : List (Str × Str)} {es : List (Nat × Nat)} {H G : Hp} {m m' : Nat} (h : Eqr C M b p vn ve ns hs es H G m) (l : m ≤ m') : Eqr C M b p vn ve ns hs es H G m' := ⟨h.st, h.bag.mono l, h.al, h.hg, h.hn, h.he⟩

end K46
namespace K46
open PySem PySem.Spec PyProof.Rows L2 TL
theorem allU_len (c : Nat) : ∀ i, (allU c i).length ≤ c * i
  | 0 => Nat.le_refl _
  | i + 1 => by
    rw [allU_succ, List.length_append, Nat.mul_succ]
    exact Nat.add_le_add (allU_len c i) (by rw [rowP_len]; omega)
/-- edges with one more, or one less -/
def togE (es : List (Nat × Nat)) (pr : Nat × Nat) : List (Nat × Nat) := (es.filter fun e => !decide (e = pr)) ++ List.replicate (if pr ∈ es then 0 else 1) pr
theorem tog_in {es : List (Nat × Nat)} {pr : Nat × Nat} : decide (pr ∈ togE es pr) = !decide (pr ∈ es) := by
  unfold togE
  by_cases h : pr ∈ es
  · rw [if_pos h, decide_eq_true h, decide_eq_false]
    · rfl
    · intro m
      rcases List.mem_append.mp m with m | m
      · have := (List.mem_filter.mp m).2
        simp at this
      · simp at m
  · rw [if_neg h, decide_eq_false h, decide_eq_true]
    · rfl
    · exact List.mem_append.mpr (.inr (by simp))
theorem tog_ok {n : Nat} {es : List (Nat × Nat)} {pr : Nat × Nat} (ok : EOk n es) (l : es.length ≤ 28) (h1 : pr.1 < pr.2) (h2 : pr.2 < n) : EOk n (togE es pr) := by
  unfold togE
  have lf := List.length_filter_le (fun e => !decide (e = pr)) es
  refine ⟨?_, ?_, fun e he => ?_⟩
  · rw [List.length_append, List.length_replicate]
    split <;> omega
  · rw [List.nodup_append]
    refine ⟨List.Nodup.sublist List.filter_sublist ok.nd, ?_, fun a ha c hc e => ?_⟩
    · split
      · exact List.nodup_nil
      · exact List.nodup_cons.mpr ⟨by simp, List.nodup_nil⟩
    · have := (List.mem_filter.mp ha).2
      rw [e, List.eq_of_mem_replicate hc] at this
      simp at this
  · rcases List.mem_append.mp he with he | he
    · exact ok.sub e (List.mem_filter.mp he).1
    · rw [List.eq_of_mem_replicate he]; exact ⟨h1, h2⟩
theorem eqv_eL (x y : Nat × Nat) : PyData.eqv (tupD (eL x)) (tupD (eL y)) = decide (x = y) := by
  have h := any_tups [eL x] (eL y)
  rw [List.map_cons, List.map_nil, List.any_cons, List.any_nil, Bool.or_false] at h
  rw [h, decide_eq_decide, List.mem_singleton]
  constructor
  · intro e
    have h1 : (y.1 : Int) = x.1 := (List.cons.inj e).1
    have h2 : (y.2 : Int) = x.2 := (List.cons.inj (List.cons.inj e).2).1
    exact Prod.ext (by omega) (by omega)
  · intro e; rw [e]
theorem flat_rep {α : Type} (n : Nat) (v : α) : (List.replicate n [v]).flatten = List.replicate n v := by
  induction n with
  | zero => rfl
  | succ n ih => rw [List.replicate_succ, List.flatten_cons, ih]; rfl
theorem prep {α β : Type} {F : α → β → Prop} {x : α} {y : β} (h : F x y) : ∀ n : Nat, Paired F (List.replicate n x) (List.replicate n y)
  | 0 => .nil
  | n + 1 => .cons h (prep h n)
theorem rot_perm (ns : List Str) : (ns.drop 1 ++ ns.take 1).Perm ns := List.perm_append_comm.trans (by rw [List.take_append_drop])
theorem rot_ne {ns : List Str} (nd : ns.Nodup) (l : 2 ≤ ns.length) : ns ≠ ns.drop 1 ++ ns.take 1 := fun e => by
  cases ns with
  | nil => simp at l
  | cons x t =>
    cases t with
    | nil => simp at l
    | cons y t =>
      have h := (List.cons.inj e).1
      rw [List.nodup_cons] at nd
      exact nd.1 (by rw [h]; exact List.mem_cons_self)
theorem GNOk.perm {ns ns' : List Str} (h : GNOk ns) (p : ns'.Perm ns) : GNOk ns' := ⟨by rw [p.length_eq]; exact h.pos, by rw [p.length_eq]; exact h.few, fun x hx => h.nm x (p.mem_iff.mp hx), p.nodup_iff.mpr h.nd⟩
theorem GEOk.perm {ns ns' : List Str} {es : List (Str × Str)} (h : GEOk ns es) (p : ns'.Perm ns) : GEOk ns' es := ⟨h.few, fun e he => ⟨p.mem_iff.mpr (h.sub e he).1, p.mem_iff.mpr (h.sub e he).2.1, (h.sub e he).2.2⟩, h.new⟩
/-- the last two names exchanged -/
def turn (ns : List Str) : List Str := ns.take (ns.length - 2) ++ ns.drop (ns.length - 1) ++ (ns.drop (ns.length - 2)).take (ns.length - 1 - (ns.length - 2))
theorem cut_m2 {xs : List V} : cutV xs none (some (-2)) = xs.take (xs.length - 2) := cut_less (xs := xs) 2 (by decide)
theorem cut_m1 {xs : List V} : cutV xs (some (-1)) none = xs.drop (xs.length - 1) := cut_last (xs := xs) 1 (by decide)
theorem cut_m21 {xs : List V} : cutV xs (some (-2)) (some (-1)) = (xs.drop (xs.length - 2)).take (xs.length - 1 - (xs.length - 2)) := by
  have h2 : HT.sIx xs.length 0 (some (-2)) = xs.length - 2 := by
    show (if (-2 : Int) < 0 then (-2 + (xs.length : Int)).toNat else min (-2 : Int).toNat xs.length) = _
    rw [if_pos (by decide)]; omega
  have h1 : HT.sIx xs.length xs.length (some (-1)) = xs.length - 1 := by
    show (if (-1 : Int) < 0 then (-1 + (xs.length : Int)).toNat else min (-1 : Int).toNat xs.length) = _
    rw [if_pos (by decide)]; omega
  unfold cutV
  rw [h2, h1]
theorem set_nd : ∀ {l : List Str} {i : Nat} {y : Str}, l.Nodup → y ∉ l → (l.set i y).Nodup
  | [], _, _, _, _ => by rw [List.set_nil]; exact List.nodup_nil
  | a :: l, 0, y, nd, h => by
    rw [List.nodup_cons] at nd
    rw [List.set_cons_zero, List.nodup_cons]
    exact ⟨fun m => h (List.mem_cons_of_mem _ m), nd.2⟩
  | a :: l, i + 1, y, nd, h => by
    rw [List.nodup_cons] at nd
    rw [List.set_cons_succ, List.nodup_cons]
    refine ⟨fun m => ?_, set_nd nd.2 fun m => h (List.mem_cons_of_mem _ m)⟩
    rcases List.mem_or_eq_of_mem_set m with m | e
    · exact nd.1 m
    · exact h (by rw [← e]; exact List.mem_cons_self)
theorem set_ok {ns : List Str} {i : Nat} {y : Str} (h : GNOk ns) (ny : y ∉ ns) (nm : NameOk y) : GNOk (ns.set i y) := ⟨by rw [List.length_set]; exact h.pos, by rw [List.length_set]; exact h.few, fun x hx => (List.mem_or_eq_of_mem_set hx).elim (h.nm x) fun e => by rw [e]; exact nm, set_nd h.nd ny⟩
theorem set_ne {ns : List Str} {i : Nat} {y : Str} (l : i < ns.length) (ny : y ∉ ns) : ns ≠ ns.set i y := fun e => ny (by
  have h : (ns.set i y)[i]? = some y := by rw [List.getElem?_set_self l]
  rw [← e] at h
  exact List.mem_of_getElem? h)
theorem two_last {ns : List Str} (l : 2 ≤ ns.length) : ∃ A u v, ns = A ++ [u, v] := by
  have h : (ns.drop (ns.length - 2)).length = 2 := by rw [List.length_drop]; omega
  match hd : ns.drop (ns.length - 2), h with
  | [u, v], _ => exact ⟨ns.take (ns.length - 2), u, v, by rw [← hd, List.take_append_drop]⟩
theorem turn_eq (A : List Str) (u v : Str) : turn (A ++ [u, v]) = A ++ [v, u] := by
  unfold turn
  have l : (A ++ [u, v]).length = A.length + 2 := by simp
  rw [l, show A.length + 2 - 2 = A.length by omega, show A.length + 2 - 1 = A.length + 1 by omega, show A.length + 1 - A.length = 1 by omega]
  simp [List.drop_append]
theorem turn_perm {ns : List Str} (l : 2 ≤ ns.length) : (turn ns).Perm ns := by
  obtain ⟨A, u, v, rfl⟩ := two_last l
  rw [turn_eq]
  exact List.Perm.append_left A (List.Perm.swap u v [])
theorem turn_ne {ns : List Str} (nd : ns.Nodup) (l : 2 ≤ ns.length) : ns ≠ turn ns := fun e => by
  obtain ⟨A, u, v, rfl⟩ := two_last l
  rw [turn_eq] at e
  have h := List.append_cancel_left e
  have h1 := (List.cons.inj h).1
  rw [List.nodup_append] at nd
  have := nd.2.1
  rw [List.nodup_cons] at this
  exact this.1 (by rw [h1]; exact List.mem_cons_self)
theorem xch_ok {n a : Nat} {es : List (Nat × Nat)} {fp : Nat × Nat} (ok : EOk n es) (l : es.length ≤ 28) (la : a < es.length) (nf : fp ∉ es) (h1 : fp.1 < fp.2) (h2 : fp.2 < n) : EOk n (es.take a ++ es.drop (a + 1) ++ [fp]) := by
  have mem : ∀ e, e ∈ es.take a ++ es.drop (a + 1) → e ∈ es := fun e he => (List.mem_append.mp he).elim List.mem_of_mem_take List.mem_of_mem_drop
  refine ⟨by rw [List.length_append, List.length_append, List.length_take, List.length_drop]; simp; omega, ?_, fun e he => ?_⟩
  · rw [List.nodup_append]
    refine ⟨?_, by simp, fun x hx c hc e => nf (by rw [List.mem_singleton.mp hc] at e; rw [← e]; exact mem x hx)⟩
    have sub : (es.take a ++ es.drop (a + 1)).Sublist es := by
      conv => rhs; rw [← List.take_append_drop a es]
      refine List.Sublist.append (List.Sublist.refl _) ?_
      rw [← List.drop_drop]
      exact List.drop_sublist _ _
    exact List.Nodup.sublist sub ok.nd
  · rcases List.mem_append.mp he with he | he
    · exact ok.sub e (mem e he)
    · rw [List.mem_singleton.mp he]; exact ⟨h1, h2⟩
def LN : List Str := (Str.ofString "abcdefghi").cps.toList.map fun c => (⟨#[c]⟩ : Str)
theorem ln_nd : LN.Nodup := by decide +kernel
theorem ln_len : LN.length = 9 := by decide +kernel
theorem ln_ok : ∀ x ∈ LN, NameOk x := fun x hx => by
  have h : (LN.all fun x => decide (1 ≤ (tl x).length) && decide ((tl x).length ≤ 8) && (tl x).all fun c => decide (97 ≤ c) && decide (c ≤ 122)) = true := by decide +kernel
  have := List.all_eq_true.mp h x hx
  simp only [Bool.and_eq_true, decide_eq_true_eq, List.all_eq_true] at this
  exact ⟨this.1.1, this.1.2, fun c hc => this.2 c hc⟩
theorem ln_new {ns : List Str} (h : ns.length ≤ 8) : ∃ y t, (LN.filter fun x => !decide (x ∈ ns)) = y :: t ∧ y ∉ ns ∧ NameOk y := by
  cases e : LN.filter fun x => !decide (x ∈ ns) with
  | nil =>
    rw [List.filter_eq_nil_iff] at e
    have := php ln_nd (m := ns) fun x hx => by
      have := e x hx
      simpa using this
    rw [ln_len] at this
    omega
  | cons y t =>
    have hy : y ∈ LN.filter fun x => !decide (x ∈ ns) := by rw [e]; exact List.mem_cons_self
    obtain ⟨h1, h2⟩ := List.mem_filter.mp hy
    exact ⟨y, t, rfl, by simpa using h2, ln_ok y h1⟩
def sp_leq (K : PySem.W.Frag) (C : Addr) : Sp := fun vs H Q _ => ∃ (M : List Addr) (b p : Addr) (n : Nat) (vn ve : V) (ns : List Str) (hs : List (Str × Str)) (es : List (Nat × Nat)), vs = [.ref b, .ref p, vn, ve] ∧ b ∈ M ∧ n + 1000 ≤ 1000000 ∧ Eqr C M b p vn ve ns hs es H H n ∧ GNOk ns ∧ es.Sublist (allP ns.length) ∧ Rep ns es hs ∧
  ∀ H', Stp [b] H H' → Bag H' b (n + 1000) → Q (.bl true) H'
theorem ok_l_equal_right {P : Program} {w : World} {K : PySem.W.Frag} {mg : Str → Option Value} {base : Heap} (T : Txt P K mg) : FnOk P w K mg base CX0 5 T.f_l_equal_right T.fd_l_equal_right ["_law_box_here", "_law_graph_here", "_law_names_here", "_law_edges"] (sp_leq K T.C_Graph) := by
  refine T.F_l_equal_right.ok sc_l_equal_right (fun vs H Q E h => ?_) (fun cdv A outer s H vs Q E hr h => ?_)
  · obtain ⟨_, _, _, _, _, _, _, _, _, rfl, _⟩ := h; rfl
  · obtain ⟨M, b, p, n, vn, ve, ns, hs, es, rfl, hb, hn, eq, okN, sub, rep, q⟩ := h
    have okE := G_eok okN sub
    have le28 := (sub_ok sub okN.few).2
    have l8 := okN.few
    have l1 := okN.pos
    refine ⟨_, PSs.nox (Evl.pss_cut (ps_if (pt_not (pt_cmpR (show OpR _ (compareOp .Eq) (rEqX K T.C_Graph _ E0) from op_eqX (ok_Graph_eq T) (hr.mono (by decide)) (b_Graph_eq T) pass0 T.m_Graph_eq.found T.m_Graph_eq.fn) (pv 1) (pe_makeS T.mk_Graph (ok_Graph_init T) (hr.mono (by decide)) (by rfl) T.g_Graph (b_Graph_init T) .nil passS0 (pa_cons (pe_callTy (show CallR _ _ (rTupOf K) from call_tuple_of) (by rfl) T.n_tuple (by decide +kernel) (pa_cons (pv 2) pa_nil)) (pa_cons (pe_callTy (show CallR _ _ (rTupOf K) from call_tuple_of) (by rfl) T.n_tuple (by decide +kernel) (pa_cons (pe_call (ok_l_handed T) (hr.mono (by decide)) (by rfl) T.g_l_handed T.F_l_handed.kp (b_l_handed T) .nil pass0 (pa_cons (pv 0) (pa_cons (pv 2) (pa_cons (pv 3) pa_nil)))) pa_nil)) pa_nil))) (nomark _))) (pss_one (ps_ret pe_bl)) pss_nil)
      (Evl.pss_cut (ps_set (i := 4) sc_l_equal_right.nd rfl (Or.inl rfl) (pe_slice (show SlR _ (rSlL K) from sl_list) (pe_lc (own := [("_law_letter", 14)]) (g := gName 14) rfl sc_l_equal_right.nd (pi_str pe_str) (blkOk_by (own := [("_law_letter", 14)]) (N := N_l_equal_right) (sc := defScope s_l_equal_right) (by decide +kernel)) (fun _ _ _ _ _ => (pg_name (i := 14) sc_l_equal_right.nd rfl (Or.inl rfl))) (fun _ _ _ _ _ => pts_one (pt_cmpR (show OpR _ (compareOp .NotIn) (rIn K true) from op_notIn_seq) (pv 14) (pv 2) (by first | rfl | with_unfolding_all rfl))) (fun _ _ _ _ _ => (pv 14))) po_none (po_some pe_int)))
      (Evl.pss_cut (ps_set (i := 5) sc_l_equal_right.nd rfl (Or.inl rfl) (pe_call (ok_l_handed T) (hr.mono (by decide)) (by rfl) T.g_l_handed T.F_l_handed.kp (b_l_handed T) .nil pass0 (pa_cons (pv 0) (pa_cons (pv 2) (pa_cons (pv 3) pa_nil)))))
      (Evl.pss_cut (ps_if (PW.pt (pw_or (pt_cmpR (show OpR _ (compareOp .Eq) (rEqX K T.C_Graph _ E0) from op_eqX (ok_Graph_eq T) (hr.mono (by decide)) (b_Graph_eq T) pass0 T.m_Graph_eq.found T.m_Graph_eq.fn) (pv 1) (pv 2) (nomark _)) (pw_or1 (PW.pt (pw_and (pt_cmpR op_lt (pe_callB (show CallR _ _ (rLenSeq K) from call_len_seq) (by rfl) T.n_len (by decide +kernel) (pa_cons (pv 2) pa_nil)) pe_int (nomark _)) (pw_and1 (pt_cmpR (show OpR _ (compareOp .Eq) (rEqX K T.C_Graph _ E0) from op_eqX (ok_Graph_eq T) (hr.mono (by decide)) (b_Graph_eq T) pass0 T.m_Graph_eq.found T.m_Graph_eq.fn) (pv 1) (pe_makeS T.mk_Graph (ok_Graph_init T) (hr.mono (by decide)) (by rfl) T.g_Graph (b_Graph_init T) .nil passS0 (pa_cons (pe_op op_cat (pv 2) (pv 4)) (pa_cons (pv 5) pa_nil))) (nomark _)))))))) (pss_one (ps_ret pe_bl)) pss_nil)
      (Evl.pss_cut (ps_set (i := 6) sc_l_equal_right.nd rfl (Or.inl rfl) (pe_lst pa_nil))
      (Evl.pss_cut (ps_for PassesOwn.never rfl (pi_range1 (by rfl) T.n_range (pa_cons (pe_callB (show CallR _ _ (rLenSeq K) from call_len_seq) (by rfl) T.n_len (by decide +kernel) (pa_cons (pv 2) pa_nil)) pa_nil)) (pg_name (i := 7) sc_l_equal_right.nd rfl (Or.inr rfl)) (pss_one (ps_set (i := 6) sc_l_equal_right.nd rfl (Or.inl rfl) (pe_op op_cat (pv 6) (pe_lc (own := [("_law_other", 8)]) (g := gName 8) rfl sc_l_equal_right.nd (pi_range2 (by rfl) T.n_range (pa_cons (pe_op op_add (pv 7) pe_int) (pa_cons (pe_callB (show CallR _ _ (rLenSeq K) from call_len_seq) (by rfl) T.n_len (by decide +kernel) (pa_cons (pv 2) pa_nil)) pa_nil))) (blkOk_by (own := [("_law_other", 8)]) (N := N_l_equal_right) (sc := defScope s_l_equal_right) (by decide +kernel)) (fun _ _ _ _ _ => (pg_name (i := 8) sc_l_equal_right.nd rfl (Or.inl rfl))) (fun _ _ _ _ _ => pts_nil) (fun _ _ _ _ _ => (pe_tup (pa_cons (pv 7) (pa_cons (pv 8) pa_nil)))))))))
      (Evl.pss_cut (ps_if (pt_cmpR (show OpR _ (compareOp .NotEq) (rNeD K) from op_neD hr.units) (pv 6) (pe_lst pa_nil) (nomark _)) (Evl.pss_cut (ps_set (i := 9) sc_l_equal_right.nd rfl (Or.inr rfl) (pe_ix (show IxR _ (rIxL K) from ix_list) (pv 6) (pe_call (ok_l_take T) (hr.mono (by decide)) (by rfl) T.g_l_take T.F_l_take.kp (b_l_take T) .nil pass0 (pa_cons (pv 0) (pa_cons (pe_callB (show CallR _ _ (rLenSeq K) from call_len_seq) (by rfl) T.n_len (by decide +kernel) (pa_cons (pv 6) pa_nil)) pa_nil))) (fun _ _ => rfl)))
      (Evl.pss_cut (ps_set (i := 10) sc_l_equal_right.nd rfl (Or.inl rfl) (pe_op op_cat (pe_lc (own := [("_law_edge", 15)]) (g := gName 15) rfl sc_l_equal_right.nd (pi_list (pv 3)) (blkOk_by (own := [("_law_edge", 15)]) (N := N_l_equal_right) (sc := defScope s_l_equal_right) (by decide +kernel)) (fun _ _ _ _ _ => (pg_name (i := 15) sc_l_equal_right.nd rfl (Or.inl rfl))) (fun _ _ _ _ _ => pts_one (pt_cmpR (show OpR _ (compareOp .NotEq) (rNeD K) from op_neD hr.units) (pv 15) (pv 9) (nomark _))) (fun _ _ _ _ _ => (pv 15))) (pe_op op_rep (pe_lst (pa_cons (pv 9) pa_nil)) (pe_callTy call_int1 (by rfl) T.n_int (by decide +kernel) (pa_cons (pe_cmpR (show OpR _ (compareOp .NotIn) (rNotInD K) from op_notInD (hu65 hr)) (pv 9) (pv 3) (by first | rfl | with_unfolding_all rfl)) pa_nil)))))
      (Evl.pss_cut (ps_set (i := 8) sc_l_equal_right.nd rfl (Or.inl rfl) (pe_makeS T.mk_Graph (ok_Graph_init T) (hr.mono (by decide)) (by rfl) T.g_Graph (b_Graph_init T) .nil passS0 (pa_cons (pv 2) (pa_cons (pe_call (ok_l_handed T) (hr.mono (by decide)) (by rfl) T.g_l_handed T.F_l_handed.kp (b_l_handed T) .nil pass0 (pa_cons (pv 0) (pa_cons (pv 2) (pa_cons (pv 10) pa_nil)))) pa_nil))))
      (pss_one (ps_if (PW.pt (pw_or (pt_cmpR (show OpR _ (compareOp .Eq) (rEqX K T.C_Graph _ E0) from op_eqX (ok_Graph_eq T) (hr.mono (by decide)) (b_Graph_eq T) pass0 T.m_Graph_eq.found T.m_Graph_eq.fn) (pv 1) (pv 8) (nomark _)) (pw_or (pt_not (pt_cmpR (show OpR _ (compareOp .NotEq) (rNeX K T.C_Graph _ E0) from op_neX (ok_Graph_eq T) (hr.mono (by decide)) (b_Graph_eq T) pass0 T.ow_Graph.ne T.ow_Graph.ob T.m_Graph_eq.found T.m_Graph_eq.fn) (pv 1) (pv 8) (nomark _))) (pw_or1 (pt_cmpR (show OpR _ (compareOp .Eq) (rEqX K T.C_Graph _ E0) from op_eqX (ok_Graph_eq T) (hr.mono (by decide)) (b_Graph_eq T) pass0 T.m_Graph_eq.found T.m_Graph_eq.fn) (pv 1) (pe_makeS T.mk_Graph (ok_Graph_init T) (hr.mono (by decide)) (by rfl) T.g_Graph (b_Graph_init T) .nil passS0 (pa_cons (pe_op op_cat (pe_slice (show SlR _ (rSlL K) from sl_list) (pv 2) (po_some pe_int) po_none) (pe_slice (show SlR _ (rSlL K) from sl_list) (pv 2) po_none (po_some pe_int))) (pa_cons (pv 5) pa_nil))) (nomark _)))))) (pss_one (ps_ret pe_bl)) pss_nil))))) pss_nil)
      (Evl.pss_cut (ps_set (i := 7) sc_l_equal_right.nd rfl (Or.inr rfl) (pe_call (ok_l_take T) (hr.mono (by decide)) (by rfl) T.g_l_take T.F_l_take.kp (b_l_take T) .nil pass0 (pa_cons (pv 0) (pa_cons (pe_callB (show CallR _ _ (rLenSeq K) from call_len_seq) (by rfl) T.n_len (by decide +kernel) (pa_cons (pv 2) pa_nil)) pa_nil))))
      (Evl.pss_cut (ps_set (i := 11) sc_l_equal_right.nd rfl (Or.inl rfl) (pe_op op_cat (pe_op op_cat (pe_slice (show SlR _ (rSlL K) from sl_list) (pv 2) po_none (po_some (pv 7))) (pe_slice (show SlR _ (rSlL K) from sl_list) (pe_lc (own := [("_law_letter", 14)]) (g := gName 14) rfl sc_l_equal_right.nd (pi_str pe_str) (blkOk_by (own := [("_law_letter", 14)]) (N := N_l_equal_right) (sc := defScope s_l_equal_right) (by decide +kernel)) (fun _ _ _ _ _ => (pg_name (i := 14) sc_l_equal_right.nd rfl (Or.inl rfl))) (fun _ _ _ _ _ => pts_one (pt_cmpR (show OpR _ (compareOp .NotIn) (rIn K true) from op_notIn_seq) (pv 14) (pv 2) (by first | rfl | with_unfolding_all rfl))) (fun _ _ _ _ _ => (pv 14))) po_none (po_some pe_int))) (pe_slice (show SlR _ (rSlL K) from sl_list) (pv 2) (po_some (pe_op op_add (pv 7) pe_int)) po_none)))
      (Evl.pss_cut (ps_set (i := 12) sc_l_equal_right.nd rfl (Or.inl rfl) (pe_op op_cat (pe_op op_cat (pe_slice (show SlR _ (rSlL K) from sl_list) (pv 2) po_none (po_some (pe_un un_neg pe_int))) (pe_slice (show SlR _ (rSlL K) from sl_list) (pv 2) (po_some (pe_un un_neg pe_int)) po_none)) (pe_slice (show SlR _ (rSlL K) from sl_list) (pv 2) (po_some (pe_un un_neg pe_int)) (po_some (pe_un un_neg pe_int)))))
      (Evl.pss_cut (ps_for PassesOwn.never rfl (pi_list (pe_slice (show SlR _ (rSlL K) from sl_list) (pe_lst (pa_cons (pv 11) (pa_cons (pv 12) pa_nil))) po_none (po_some (pe_op op_add pe_int (pe_callTy call_int1 (by rfl) T.n_int (by decide +kernel) (pa_cons (pe_cmpR op_gt (pe_callB (show CallR _ _ (rLenSeq K) from call_len_seq) (by rfl) T.n_len (by decide +kernel) (pa_cons (pv 2) pa_nil)) pe_int (nomark _)) pa_nil)))))) (pg_name (i := 10) sc_l_equal_right.nd rfl (Or.inl rfl)) (Evl.pss_cut (ps_set (i := 8) sc_l_equal_right.nd rfl (Or.inl rfl) (pe_makeS T.mk_Graph (ok_Graph_init T) (hr.mono (by decide)) (by rfl) T.g_Graph (b_Graph_init T) .nil passS0 (pa_cons (pv 10) (pa_cons (pe_call (ok_l_handed T) (hr.mono (by decide)) (by rfl) T.g_l_handed T.F_l_handed.kp (b_l_handed T) .nil pass0 (pa_cons (pv 0) (pa_cons (pv 10) (pa_cons (pv 3) pa_nil)))) pa_nil))))
      (pss_one (ps_if (PW.pt (pw_or (pt_cmpR (show OpR _ (compareOp .Eq) (rEqX K T.C_Graph _ E0) from op_eqX (ok_Graph_eq T) (hr.mono (by decide)) (b_Graph_eq T) pass0 T.m_Graph_eq.found T.m_Graph_eq.fn) (pv 1) (pv 8) (nomark _)) (pw_or1 (pt_not (pt_cmpR (show OpR _ (compareOp .NotEq) (rNeX K T.C_Graph _ E0) from op_neX (ok_Graph_eq T) (hr.mono (by decide)) (b_Graph_eq T) pass0 T.ow_Graph.ne T.ow_Graph.ob T.m_Graph_eq.found T.m_Graph_eq.fn) (pv 1) (pv 8) (nomark _)))))) (pss_one (ps_ret pe_bl)) pss_nil))))
      (Evl.pss_cut (ps_setLc (i := 13) (own := [("_law_pair", 9)]) (g := gName 9) rfl sc_l_equal_right.nd rfl rfl (sw_true rfl rfl rfl (by decide +kernel)) (pi_list (pv 6)) (blkOk_by (own := [("_law_pair", 9)]) (N := N_l_equal_right) (sc := defScope s_l_equal_right) (by decide +kernel)) (fun _ _ _ _ _ => (pg_name (i := 9) sc_l_equal_right.nd rfl (Or.inl rfl))) (fun _ _ _ _ _ => pts_one (pt_cmpR (show OpR _ (compareOp .NotIn) (rNotInD K) from op_notInD (hu65 hr)) (pv 9) (pv 3) (by first | rfl | with_unfolding_all rfl))) (fun _ _ _ _ _ => (pv 9)))
      (Evl.pss_cut (ps_if (PW.pt (pw_and (pt_cmpR (show OpR _ (compareOp .NotEq) (rNeD K) from op_neD hr.units) (pv 13) (pe_lst pa_nil) (nomark _)) (pw_and1 (pt_cmpR (show OpR _ (compareOp .NotEq) (rNeD K) from op_neD hr.units) (pv 3) (pe_lst pa_nil) (nomark _))))) (Evl.pss_cut (ps_set (i := 7) sc_l_equal_right.nd rfl (Or.inr rfl) (pe_call (ok_l_take T) (hr.mono (by decide)) (by rfl) T.g_l_take T.F_l_take.kp (b_l_take T) .nil pass0 (pa_cons (pv 0) (pa_cons (pe_callB (show CallR _ _ (rLenSeq K) from call_len_seq) (by rfl) T.n_len (by decide +kernel) (pa_cons (pv 3) pa_nil)) pa_nil))))
      (Evl.pss_cut (ps_set (i := 10) sc_l_equal_right.nd rfl (Or.inl rfl) (pe_op op_cat (pe_op op_cat (pe_slice (show SlR _ (rSlL K) from sl_list) (pv 3) po_none (po_some (pv 7))) (pe_slice (show SlR _ (rSlL K) from sl_list) (pv 3) (po_some (pe_op op_add (pv 7) pe_int)) po_none)) (pe_lst (pa_cons (pe_ix (show IxR _ (rIxL K) from ix_list) (pv 13) (pe_call (ok_l_take T) (hr.mono (by decide)) (by rfl) T.g_l_take T.F_l_take.kp (b_l_take T) .nil pass0 (pa_cons (pv 0) (pa_cons (pe_callB (show CallR _ _ (rLenSeq K) from call_len_seq) (by rfl) T.n_len (by decide +kernel) (pa_cons (pv 13) pa_nil)) pa_nil))) (fun _ _ => rfl)) pa_nil))))
      (Evl.pss_cut (ps_set (i := 8) sc_l_equal_right.nd rfl (Or.inl rfl) (pe_makeS T.mk_Graph (ok_Graph_init T) (hr.mono (by decide)) (by rfl) T.g_Graph (b_Graph_init T) .nil passS0 (pa_cons (pv 2) (pa_cons (pe_call (ok_l_handed T) (hr.mono (by decide)) (by rfl) T.g_l_handed T.F_l_handed.kp (b_l_handed T) .nil pass0 (pa_cons (pv 0) (pa_cons (pv 2) (pa_cons (pv 10) pa_nil)))) pa_nil))))
      (pss_one (ps_if (PW.pt (pw_or (pt_cmpR (show OpR _ (compareOp .Eq) (rEqX K T.C_Graph _ E0) from op_eqX (ok_Graph_eq T) (hr.mono (by decide)) (b_Graph_eq T) pass0 T.m_Graph_eq.found T.m_Graph_eq.fn) (pv 1) (pv 8) (nomark _)) (pw_or1 (pt_not (pt_cmpR (show OpR _ (compareOp .NotEq) (rNeX K T.C_Graph _ E0) from op_neX (ok_Graph_eq T) (hr.mono (by decide)) (b_Graph_eq T) pass0 T.ow_Graph.ne T.ow_Graph.ob T.m_Graph_eq.found T.m_Graph_eq.fn) (pv 1) (pv 8) (nomark _)))))) (pss_one (ps_ret pe_bl)) pss_nil))))) pss_nil)
      (pss_one (ps_ret pe_bl))))))))))))))), ?_⟩
    rw [show L2.start N_l_equal_right [V.ref b, V.ref p, vn, ve] = [some (.ref b), some (.ref p), some vn, some ve, none, none, none, none, none, none, none, none, none, none, none, none] from rfl]
    refine ⟨fun σ G => σ = [some (.ref b), some (.ref p), some vn, some ve, none, none, none, none, none, none, none, none, none, none, none, none] ∧ Eqr T.C_Graph M b p vn ve ns hs es H G (n + 100), ?_, ?_⟩
    --[[
    · repeat (first | refine ⟨_, rfl, ?_⟩ | refine ⟨_, _, rfl, rfl, ?_⟩ | refine ⟨_, _, rfl, ?_⟩ | refine ⟨rfl, ?_⟩)
      obtain ⟨an, rfl, nan, hN⟩ := Sh.strs eq.hn
      refine ⟨an, _, rfl, .inl ⟨SqL.of hN, fun t nt => ?_⟩⟩
      have s1 : Same H (upd H t (.tup (ns.map V.str))) := Same.new nt
      have ht : upd H t (.tup (ns.map V.str)) t = some (.tup (ns.map V.str)) := upd_same
      have ntM := eq.al.off nt
      have e1 := eq.same s1
      generalize upd H t (.tup (ns.map V.str)) = H1 at s1 ht e1
      repeat (first | refine ⟨_, rfl, ?_⟩ | refine ⟨_, _, rfl, rfl, ?_⟩ | refine ⟨_, _, rfl, ?_⟩ | refine ⟨rfl, ?_⟩)
      refine ⟨M, b, n, _, _, ns, es, rfl, hb, e1.al, e1.bag, by omega, e1.hn, e1.he, okN, okE, fun w hs' H2 s2 b2 hw rep' lh _ => ?_⟩
      have e2 := e1.step hb s2 b2
      obtain ⟨aw, ws, rfl, naw, hW, pW⟩ := id hw
      have ht2 := s2.at ht (fun m => ntM (by rw [List.mem_singleton.mp m]; exact hb))
      repeat (first | refine ⟨_, rfl, ?_⟩ | refine ⟨_, _, rfl, rfl, ?_⟩ | refine ⟨_, _, rfl, ?_⟩ | refine ⟨rfl, ?_⟩)
      refine ⟨aw, _, rfl, .inl ⟨SqL.of hW, fun t2 nt2 => ?_⟩⟩
      have s3 : Same H2 (upd H2 t2 (.tup ws)) := Same.new nt2
      have hw3 : SqE K (upd H2 t2 (.tup ws)) (.ref t2) hs' := SqE.of (M := []) ⟨t2, ws, rfl, by simp, .inr upd_same, Sh.gos (Paired.mapP pW fun _ _ z => Sh.all z) (Stp.of_same (m := []) s3) Sb.nil Sb.refl⟩
      have e3 := e2.same s3
      have ht3 := s3 _ _ ht2
      generalize upd H2 t2 (.tup ws) = H3 at s3 hw3 e3 ht3
      repeat (first | refine ⟨_, rfl, ?_⟩ | refine ⟨_, _, rfl, rfl, ?_⟩ | refine ⟨_, _, rfl, ?_⟩ | refine ⟨rfl, ?_⟩)
      refine mkGs e3.al ⟨t, _, rfl, ntM, .inr ht3, pd_strs⟩ hw3 okN rep'.1 fun p2 H4 s4 np2 hp2 => ?_
      have e4 := e3.same s4
      refine geq_ask T.ow_Graph e4.hg hp2 okN okN fun H5 s5 => ?_
      rw [same_yes rep rep']
      repeat (first | refine ⟨_, rfl, ?_⟩ | refine ⟨_, _, rfl, rfl, ?_⟩ | refine ⟨_, _, rfl, ?_⟩ | refine ⟨rfl, ?_⟩)
      exact e4.same s5
    --]]
    clear eq
    rintro σ G ⟨rfl, eq⟩
    refine ⟨fun σ G => ∃ (a4 : Addr) (y : Str), σ = [some (.ref b), some (.ref p), some vn, some ve, some (.ref a4), none, none, none, none, none, none, none, none, none, none, none] ∧ Eqr T.C_Graph M b p vn ve ns hs es H G (n + 100) ∧ (sL sStr).at M G (.ref a4) [y] ∧ y ∉ ns ∧ NameOk y, ?_, ?_⟩
    --[[
    · repeat (first | refine ⟨_, rfl, ?_⟩ | refine ⟨_, _, rfl, rfl, ?_⟩ | refine ⟨_, _, rfl, ?_⟩ | refine ⟨rfl, ?_⟩)
      obtain ⟨an, evn, nan, hN⟩ := Sh.strs eq.hn
      refine fun D nD => lc_it walk_str (fun j H' => H' D = some (.lst (((LN.take j).filter fun x => !decide (x ∈ ns)).map V.str)) ∧ Same G H') ⟨upd_same, Same.new nD⟩ (fun _ _ _ _ => trivial) ?_ ?_
      · rintro j x Hx H5 hj ⟨h1, s1⟩ ⟨rfl, d, hd, rfl⟩
        have hL : LN[j]? = some ⟨#[d]⟩ := by
          unfold LN
          rw [List.getElem?_map, Array.getElem?_toList, hd]; rfl
        have lj := (List.getElem?_eq_some_iff.mp hL).1
        rw [ln_len] at lj
        refine ⟨wipe_in (by decide), ?_⟩
        rw [ftake _ hL]
        repeat (first | refine ⟨_, rfl, ?_⟩ | refine ⟨_, _, rfl, rfl, ?_⟩ | refine ⟨_, _, rfl, ?_⟩ | refine ⟨rfl, ?_⟩)
        refine ⟨an, _, evn, .inl (SqL.of (s1 _ _ hN)), rfl, flat_str _, ?_⟩
        rw [inV_str]
        refine ⟨_, rfl, ite2 (fun c => ?_) (fun c => ?_)⟩
        · replace c : (!decide ((⟨#[d]⟩ : Str) ∈ ns)) = true := c
          repeat (first | refine ⟨_, rfl, ?_⟩ | refine ⟨_, _, rfl, rfl, ?_⟩ | refine ⟨_, _, rfl, ?_⟩ | refine ⟨rfl, ?_⟩)
          have lf := List.length_filter_le (fun x => !decide (x ∈ ns)) (LN.take j)
          rw [List.length_take] at lf
          refine ⟨_, h1, by rw [List.length_map, sizeLine_eq]; omega, ?_, Same.upd_p s1 nD⟩
          rw [upd_same, if_pos c, List.map_append]; rfl
        · replace c : ¬ (!decide ((⟨#[d]⟩ : Str) ∈ ns)) = true := c
          rw [if_neg c, List.append_nil]
          exact ⟨h1, s1⟩
      rintro H1 ⟨hD, s1⟩
      rw [show (Str.ofString "abcdefghi").cps.size = LN.length from rfl, List.take_length] at hD
      obtain ⟨y, t, ey, ny, ynm⟩ := ln_new (ns := ns) l8
      rw [ey] at hD
      repeat (first | refine ⟨_, rfl, ?_⟩ | refine ⟨_, _, rfl, rfl, ?_⟩ | refine ⟨_, _, rfl, ?_⟩ | refine ⟨rfl, ?_⟩)
      refine ⟨D, _, rfl, SqL.of hD, fun lD nlD => ?_⟩
      rw [show (1 : Int) = ((1 : Nat) : Int) from rfl, cut_to]
      have s2 : Same H1 (upd H1 lD (.lst (((y :: t).map V.str).take 1))) := Same.new nlD
      have e1 := eq.same s1
      have h2 : (sL sStr).at M (upd H1 lD (.lst (((y :: t).map V.str).take 1))) (.ref lD) [y] := ⟨lD, _, rfl, e1.al.off nlD, upd_same, pd_strs (ns := [y])⟩
      have e2 := e1.same s2
      generalize upd H1 lD (.lst (((y :: t).map V.str).take 1)) = H2 at s2 h2 e2
      refine ⟨lD, y, rfl, e2, h2, ny, ynm⟩
    --]]
    clear eq
    rintro σ G ⟨a4, y, rfl, eq, h4, ny, ynm⟩
    refine ⟨fun σ G => ∃ (v5 : V) (hs5 : List (Str × Str)), σ = [some (.ref b), some (.ref p), some vn, some ve, some (.ref a4), some v5, none, none, none, none, none, none, none, none, none, none] ∧ Eqr T.C_Graph M b p vn ve ns hs es H G (n + 200) ∧ (sL sStr).at M G (.ref a4) [y] ∧ (sL sPS).at M G v5 hs5 ∧ Rep ns es hs5 ∧ hs5.length = es.length, ?_, ?_⟩
    --[[
    · repeat (first | refine ⟨_, rfl, ?_⟩ | refine ⟨_, _, rfl, rfl, ?_⟩ | refine ⟨_, _, rfl, ?_⟩ | refine ⟨rfl, ?_⟩)
      refine ⟨M, b, n + 100, _, _, ns, es, rfl, hb, eq.al, eq.bag, by omega, eq.hn, eq.he, okN, okE, fun w hs' H2 s2 b2 hw rep' lh _ => ?_⟩
      repeat (first | refine ⟨_, rfl, ?_⟩ | refine ⟨_, _, rfl, rfl, ?_⟩ | refine ⟨_, _, rfl, ?_⟩ | refine ⟨rfl, ?_⟩)
      exact ⟨w, hs', rfl, (eq.step hb s2 b2).mono (by omega), Sh.go h4 s2 (Sb.one hb) Sb.refl, hw, rep', lh⟩
    --]]
    clear eq h4
    rintro σ G ⟨v5, hs5, rfl, eq, h4, h5, rep5, l5⟩
    have nsp : ns ≠ ns ++ [y] := fun e => by
      have := congrArg List.length e
      rw [List.length_append] at this
      simp at this
    have okY : ns.length < 8 → GNOk (ns ++ [y]) := fun l => ⟨by simp, by simp; omega, fun x hx => (List.mem_append.mp hx).elim (okN.nm x) fun h => by rw [List.mem_singleton.mp h]; exact ynm, by
      rw [List.nodup_append]
      exact ⟨okN.nd, by simp, fun a ha c hc e => ny (by rw [List.mem_singleton.mp hc] at e; rw [← e]; exact ha)⟩⟩
    have geY : GEOk (ns ++ [y]) hs5 := ⟨rep5.1.few, fun e he => ⟨List.mem_append.mpr (.inl (rep5.1.sub e he).1), List.mem_append.mpr (.inl (rep5.1.sub e he).2.1), (rep5.1.sub e he).2.2⟩, rep5.1.new⟩
    refine ⟨fun σ G => σ = [some (.ref b), some (.ref p), some vn, some ve, some (.ref a4), some v5, none, none, none, none, none, none, none, none, none, none] ∧ Eqr T.C_Graph M b p vn ve ns hs es H G (n + 200) ∧ (sL sPS).at M G v5 hs5, ?_, ?_⟩
    --[[
    · repeat (first | refine ⟨_, rfl, ?_⟩ | refine ⟨_, _, rfl, rfl, ?_⟩ | refine ⟨_, _, rfl, ?_⟩ | refine ⟨rfl, ?_⟩)
      obtain ⟨an, rfl, nan, hN⟩ := Sh.strs eq.hn
      refine geq_no (t := .type "list") eq.hg okN (.base (.lst hN)) (T.ow_Graph.nf "list" (by simp [tyNames])) (T.ow_Graph.fr "list" (by simp [tyNames])) ?_
      repeat (first | refine ⟨_, rfl, ?_⟩ | refine ⟨_, _, rfl, rfl, ?_⟩ | refine ⟨_, _, rfl, ?_⟩ | refine ⟨rfl, ?_⟩)
      refine ⟨an, _, rfl, .inl (SqL.of hN), ?_⟩
      repeat (first | refine ⟨_, rfl, ?_⟩ | refine ⟨_, _, rfl, rfl, ?_⟩ | refine ⟨_, _, rfl, ?_⟩ | refine ⟨rfl, ?_⟩)
      refine ite2 (fun c => ?_) (fun c => ?_)
      rotate_left
      · repeat (first | refine ⟨_, rfl, ?_⟩ | refine ⟨_, _, rfl, rfl, ?_⟩ | refine ⟨_, _, rfl, ?_⟩ | refine ⟨rfl, ?_⟩)
        exact ⟨eq, h5⟩
      have lt : ns.length < 8 := by
        rw [List.length_map] at c
        have := of_decide_eq_true c
        omega
      repeat (first | refine ⟨_, rfl, ?_⟩ | refine ⟨_, _, rfl, rfl, ?_⟩ | refine ⟨_, _, rfl, ?_⟩ | refine ⟨rfl, ?_⟩)
      obtain ⟨_, e4, n4, h4'⟩ := Sh.strs h4
      cases e4
      refine ⟨an, a4, _, _, rfl, rfl, hN, h4', by rw [List.length_map, List.length_map, sizeLine_eq]; simp; omega, fun r nr => ?_⟩
      have s1 : Same G (upd G r (.lst (ns.map V.str ++ [y].map V.str))) := Same.new nr
      have hr1 : upd G r (.lst (ns.map V.str ++ [y].map V.str)) r = some (.lst ((ns ++ [y]).map V.str)) := by rw [upd_same, List.map_append]
      have nrM := eq.al.off nr
      have e1 := eq.same s1
      have h51 := Sh.go h5 (Stp.of_same (m := []) s1) Sb.nil Sb.refl
      generalize upd G r (.lst (ns.map V.str ++ [y].map V.str)) = G1 at s1 hr1 e1 h51
      repeat (first | refine ⟨_, rfl, ?_⟩ | refine ⟨_, _, rfl, rfl, ?_⟩ | refine ⟨_, _, rfl, ?_⟩ | refine ⟨rfl, ?_⟩)
      refine mkGs e1.al ⟨r, _, rfl, nrM, .inl hr1, pd_strs⟩ (SqE.of (Sh.sq h51)) (okY lt) geY fun p2 H4 s4 np2 hp2 => ?_
      have e4 := e1.same s4
      refine geq_ask T.ow_Graph e4.hg hp2 okN (okY lt) fun H5 s5 => ?_
      rw [same_ns nsp]
      repeat (first | refine ⟨_, rfl, ?_⟩ | refine ⟨_, _, rfl, rfl, ?_⟩ | refine ⟨_, _, rfl, ?_⟩ | refine ⟨rfl, ?_⟩)
      exact ⟨e4.same s5, Sh.go h51 (Stp.of_same (m := []) (s4.trans s5)) Sb.nil Sb.refl⟩
    --]]
    clear eq h4 h5
    rintro σ G ⟨rfl, eq, h5⟩
    refine ⟨fun σ G => ∃ (v6 : V), σ = [some (.ref b), some (.ref p), some vn, some ve, some (.ref a4), some v5, some v6, none, none, none, none, none, none, none, none, none] ∧ Eqr T.C_Graph M b p vn ve ns hs es H G (n + 200) ∧ (sL sPS).at M G v5 hs5 ∧ (sL sNN).at M G v6 [], ?_, ?_⟩
    --[[
    · repeat (first | refine ⟨_, rfl, ?_⟩ | refine ⟨_, _, rfl, rfl, ?_⟩ | refine ⟨_, _, rfl, ?_⟩ | refine ⟨rfl, ?_⟩)
      refine ⟨lenk 0 rfl (by decide), fun r nr => ?_⟩
      have s1 : Same G (upd G r (.lst [])) := Same.new nr
      exact ⟨.ref r, rfl, eq.same s1, Sh.go h5 (Stp.of_same (m := []) s1) Sb.nil Sb.refl, r, _, rfl, eq.al.off nr, upd_same, .nil⟩
    --]]
    clear eq h5
    rintro σ G ⟨v6, rfl, eq, h5, h6⟩
    refine ⟨fun σ G => ∃ (v6 : V) (y7 : Option V), σ = [some (.ref b), some (.ref p), some vn, some ve, some (.ref a4), some v5, some v6, y7, none, none, none, none, none, none, none, none] ∧ Eqr T.C_Graph M b p vn ve ns hs es H G (n + 200) ∧ (sL sPS).at M G v5 hs5 ∧ (sL sNN).at M G v6 (allP ns.length), ?_, ?_⟩
    --[[
    · repeat (first | refine ⟨_, rfl, ?_⟩ | refine ⟨_, _, rfl, rfl, ?_⟩ | refine ⟨_, _, rfl, ?_⟩ | refine ⟨rfl, ?_⟩)
      obtain ⟨an, evn, nan, hN⟩ := Sh.strs eq.hn
      refine ⟨an, _, by rw [evn], .inl (SqL.of hN), ?_⟩
      repeat (first | refine ⟨_, rfl, ?_⟩ | refine ⟨_, _, rfl, rfl, ?_⟩ | refine ⟨_, _, rfl, ?_⟩ | refine ⟨rfl, ?_⟩)
      refine ⟨by omega, by rw [List.length_map]; omega, for_it walk_range (fun i σ G => ∃ (v6 : V) (y7 : Option V), σ = [some (.ref b), some (.ref p), some vn, some ve, some (.ref a4), some v5, some v6, y7, none, none, none, none, none, none, none, none] ∧ Eqr T.C_Graph M b p vn ve ns hs es H G (n + 200) ∧ (sL sPS).at M G v5 hs5 ∧ (sL sNN).at M G v6 (allU ns.length i)) ⟨v6, _, rfl, eq, h5, h6⟩ (fun _ _ _ _ _ => trivial) (fun i x σ G1 G2 hi pp yy => ?_) fun σ G1 pp => ?_⟩
      rotate_left
      · obtain ⟨v6, y7, rfl, e1, h5, h6⟩ := pp
        rw [Int.toNat_natCast, List.length_map] at h6
        exact ⟨v6, y7, rfl, e1, h5, h6⟩
      obtain ⟨v6, y7, rfl, eq, h5, h6⟩ := pp
      obtain ⟨rfl, rfl⟩ := yy
      have li : i < ns.length := by simpa using hi
      obtain ⟨an, evn, nan, hN⟩ := Sh.strs eq.hn
      repeat (first | refine ⟨_, rfl, ?_⟩ | refine ⟨_, _, rfl, rfl, ?_⟩ | refine ⟨_, _, rfl, ?_⟩ | refine ⟨rfl, ?_⟩)
      refine ⟨an, _, by rw [evn], .inl (SqL.of hN), ?_⟩
      repeat (first | refine ⟨_, rfl, ?_⟩ | refine ⟨_, _, rfl, rfl, ?_⟩ | refine ⟨_, _, rfl, ?_⟩ | refine ⟨rfl, ?_⟩)
      refine ⟨⟨by omega, by omega, by rw [List.length_map]; omega, by rw [List.length_map]; omega⟩, fun D nD => lc_range (fun j H' => ∃ zs, Acc sNN D M [] _ H' zs ∧ zs = (rowP ns.length i).take j) ⟨[], Acc.start eq.al nD (by simp), rfl⟩ (fun j H' hj pp => ⟨rfl, ?_⟩) (fun H3 pp => ?_)⟩
      · obtain ⟨zs, ac, ez⟩ := pp
        have lj : i + 1 + j < ns.length := by rw [List.length_map] at hj; omega
        repeat (first | refine ⟨_, rfl, ?_⟩ | refine ⟨_, _, rfl, rfl, ?_⟩ | refine ⟨_, _, rfl, ?_⟩ | refine ⟨rfl, ?_⟩)
        refine ⟨lenk 2 rfl (by decide), fun t nt => ?_⟩
        obtain ⟨vsD, hDv, pD⟩ := ac.ac
        have ntD : t ≠ D := fun e => by rw [e, hDv] at nt; cases nt
        have ntM : t ∉ M := (ac.al.go ac.st).off nt
        refine ac.put (y := (i, i + 1 + j)) (R := fun zs => zs = (rowP ns.length i).take (j + 1)) (Stp.new nt) ⟨t, _, _, rfl, fun h => (List.mem_cons.mp h).elim ntD ntM, upd_same, by show V.int _ = V.int _; congr 1; omega, by show V.int _ = V.int _; congr 1; omega⟩ ?_ ?_
        · rw [ez, List.length_take]; omega
        · rw [ez, List.take_add_one, rowP_get lj]; rfl
      · obtain ⟨zs, ac, ez⟩ := pp
        have ez2 : zs = rowP ns.length i := by
          rw [ez, List.take_of_length_le]
          rw [rowP_len, List.length_map]; omega
        subst ez2
        have s3 := ac.st.same
        obtain ⟨_, ws, eD, nDM, hD, pD⟩ := ac.done
        cases eD
        have e3 := eq.same s3
        have h53 := Sh.go h5 (Stp.of_same (m := []) s3) Sb.nil Sb.refl
        obtain ⟨a6, w6, rfl, n6, h6', p6⟩ := Sh.go h6 (Stp.of_same (m := []) s3) Sb.nil (Sb.refl (M := M))
        repeat (first | refine ⟨_, rfl, ?_⟩ | refine ⟨_, _, rfl, rfl, ?_⟩ | refine ⟨_, _, rfl, ?_⟩ | refine ⟨rfl, ?_⟩)
        have l6 := plen p6
        have lD := plen pD
        have b6 : (allU ns.length i).length ≤ 64 := Nat.le_trans (allU_len ns.length i) (Nat.le_trans (Nat.mul_le_mul l8 (show i ≤ 8 by omega)) (by decide))
        have bD : (rowP ns.length i).length ≤ 8 := by rw [rowP_len]; omega
        refine ⟨a6, D, _, _, rfl, rfl, h6', hD, by rw [sizeLine_eq]; omega, fun r nr => ?_⟩
        have s4 : Same H3 (upd H3 r (.lst (w6 ++ ws))) := Same.new nr
        refine ⟨.ref r, _, rfl, e3.same s4, Sh.go h53 (Stp.of_same (m := []) s4) Sb.nil Sb.refl, r, _, rfl, e3.al.off nr, upd_same, ?_⟩
        rw [allU_succ]
        exact papp (Sh.gos p6 (Stp.of_same (m := []) s4) Sb.nil Sb.refl) (Sh.gos pD (Stp.of_same (m := []) s4) Sb.nil Sb.refl)
    --]]
    clear eq h5 h6
    rintro σ G ⟨v6, y7, rfl, eq, h5, h6⟩
    refine ⟨fun σ G => ∃ (y8 y9 y10 : Option V), σ = [some (.ref b), some (.ref p), some vn, some ve, some (.ref a4), some v5, some v6, y7, y8, y9, y10, none, none, none, none, none] ∧ Eqr T.C_Graph M b p vn ve ns hs es H G (n + 400) ∧ (sL sNN).at M G v6 (allP ns.length), ?_, ?_⟩
    --[[
    · repeat (first | refine ⟨_, rfl, ?_⟩ | refine ⟨_, _, rfl, rfl, ?_⟩ | refine ⟨_, _, rfl, ?_⟩ | refine ⟨rfl, ?_⟩)
      obtain ⟨a6, w6, rfl, n6, h6', p6⟩ := id h6
      have l6 := plen p6
      refine ⟨lenk 0 rfl (by decide), fun e0 ne0 => ?_⟩
      have s1 : Same G (upd G e0 (.lst [])) := Same.new ne0
      have he0 : upd G e0 (.lst []) e0 = some (.lst []) := upd_same
      have e1 := eq.same s1
      have h51 := Sh.go h5 (Stp.of_same (m := []) s1) Sb.nil Sb.refl
      have p61 := Sh.gos p6 (Stp.of_same (m := []) s1) Sb.nil Sb.refl
      have h61 := s1 _ _ h6'
      generalize upd G e0 (.lst []) = G1 at s1 he0 e1 h51 p61 h61
      refine ⟨_, _, es_dp h61 p61, .lst (SqL.of he0) .nil, (shd_tups _).shaped (by decide), nil_shaped, ?_⟩
      rw [eqv_nilG]
      refine ⟨_, rfl, ite2 (fun c => ?_) (fun c => ?_)⟩
      rotate_left
      · exact ⟨_, _, _, rfl, e1.mono (by omega), a6, w6, rfl, n6, h61, p61⟩
      have la : 1 ≤ (allP ns.length).length := by
        cases e : allP ns.length with
        | nil => rw [e] at c; simp at c
        | cons _ _ => simp
      have la28 := allP_len l8
      refine ⟨fun σ G => ∃ (pr : Nat × Nat) (tp : Addr), σ = [some (.ref b), some (.ref p), some vn, some ve, some (.ref a4), some v5, some (.ref a6), y7, none, some (.ref tp), none, none, none, none, none, none] ∧ Eqr T.C_Graph M b p vn ve ns hs es H G (n + 201) ∧ (sL sPS).at M G v5 hs5 ∧ (sL sNN).at M G (.ref a6) (allP ns.length) ∧ sNN.at M G (.ref tp) pr ∧ pr ∈ allP ns.length, ?_, ?_⟩
      · repeat (first | refine ⟨_, rfl, ?_⟩ | refine ⟨_, _, rfl, rfl, ?_⟩ | refine ⟨_, _, rfl, ?_⟩ | refine ⟨rfl, ?_⟩)
        refine ⟨a6, _, rfl, .inl (SqL.of h61), ?_⟩
        repeat (first | refine ⟨_, rfl, ?_⟩ | refine ⟨_, _, rfl, rfl, ?_⟩ | refine ⟨_, _, rfl, ?_⟩ | refine ⟨rfl, ?_⟩)
        refine ⟨b, _, _, rfl, e1.bag, by omega, by omega, by omega, fun k G2 f2 b2 k0 k1 => ?_⟩
        have s2 := f2.stp b2.some
        have h62 := s2.at h61 (fun m => n6 (by rw [List.mem_singleton.mp m]; exact hb))
        have p62 := Sh.gos p61 s2 (Sb.one hb) Sb.refl
        obtain ⟨x, hx, hat⟩ := atI_in (xs := w6) k0 (by omega)
        obtain ⟨pr, hpr, hm⟩ := pget' p62 hx
        obtain ⟨tp, _, _, ex, _⟩ := id hm
        subst ex
        refine ⟨a6, w6, k, _, rfl, rfl, SqL.of h62, hat, ?_⟩
        repeat (first | refine ⟨_, rfl, ?_⟩ | refine ⟨_, _, rfl, rfl, ?_⟩ | refine ⟨_, _, rfl, ?_⟩ | refine ⟨rfl, ?_⟩)
        exact ⟨pr, tp, rfl, e1.step hb s2 b2, Sh.go h51 s2 (Sb.one hb) Sb.refl, ⟨a6, w6, rfl, n6, h62, p62⟩, hm, List.mem_of_getElem? hpr⟩
      clear eq h5 h6 h6' p6 e1 h51 p61 h61 s1 he0
      rintro σ G ⟨pr, tp, rfl, eq, h5, h6, hpr, mpr⟩
      obtain ⟨-, pr1, pr2⟩ := allU_fst mpr
      refine ⟨fun σ G => ∃ (v10 : V), σ = [some (.ref b), some (.ref p), some vn, some ve, some (.ref a4), some v5, some (.ref a6), y7, none, some (.ref tp), some v10, none, none, none, none, none] ∧ Eqr T.C_Graph M b p vn ve ns hs es H G (n + 201) ∧ (sL sPS).at M G v5 hs5 ∧ (sL sNN).at M G (.ref a6) (allP ns.length) ∧ (sL sNN).at M G v10 (togE es pr), ?_, ?_⟩
      · obtain ⟨ae, xs, eve, nae, hE, pE⟩ := eq.he
        have lx := plen pE
        have okt := tog_ok okE le28 pr1 pr2
        repeat (first | refine ⟨_, rfl, ?_⟩ | refine ⟨_, _, rfl, rfl, ?_⟩ | refine ⟨_, _, rfl, ?_⟩ | refine ⟨rfl, ?_⟩)
        refine ⟨ae, eve, ⟨_, SqL.of hE⟩, fun D nD => ?_⟩
        refine lc_it (walk_list (K := K) (a := ae) (xs := xs)) (fun j H' => ∃ zs, Acc sNN D M [] G H' zs ∧ zs = (es.take j).filter fun e => !decide (e = pr)) ⟨[], Acc.start eq.al nD (by simp), rfl⟩ (fun j H' _ ⟨_, ac, _⟩ => SqL.of (ac.st.same _ _ hE)) ?_ ?_
        · rintro j x Hx G2 hj ⟨zs, ac, ez⟩ ⟨rfl, hx⟩
          obtain ⟨e, he, hm⟩ := pget' pE hx
          have hmD := Sh.go hm ac.st Sb.nil (Sb.new nD Sb.refl)
          have hm2 := Sh.go hm ac.st Sb.nil Sb.refl
          have hp2 := Sh.go hpr ac.st Sb.nil Sb.refl
          obtain ⟨te, _, _, ex, -, hte, ei, ej⟩ := id hm2
          obtain ⟨tp', _, _, ep, -, htp, pi, pj⟩ := id hp2
          cases ex; cases ep; cases ei; cases ej; cases pi; cases pj
          refine ⟨wipe_in (by decide), ?_⟩
          rw [ftake _ he]
          repeat (first | refine ⟨_, rfl, ?_⟩ | refine ⟨_, _, rfl, rfl, ?_⟩ | refine ⟨_, _, rfl, ?_⟩ | refine ⟨rfl, ?_⟩)
          refine ⟨tupD (eL e), tupD (eL pr), ij_dp hte, ij_dp htp, (shd_tup _).shaped (by decide), (shd_tup _).shaped (by decide), ?_⟩
          rw [eqv_eL]
          refine ⟨_, rfl, ite2 (fun c => ?_) (fun c => ?_)⟩
          · repeat (first | refine ⟨_, rfl, ?_⟩ | refine ⟨_, _, rfl, rfl, ?_⟩ | refine ⟨_, _, rfl, ?_⟩ | refine ⟨rfl, ?_⟩)
            refine ac.put (y := e) (R := fun zs => zs = (es.take j).filter (fun e => !decide (e = pr)) ++ if (!decide (e = pr)) = true then [e] else []) Stp.refl hmD ?_ ?_
            · rw [ez]
              have := List.length_filter_le (fun e => !decide (e = pr)) (es.take j)
              rw [List.length_take] at this
              omega
            · rw [ez, if_pos c]
          · exact ⟨zs, ac, by rw [ez, if_neg c, List.append_nil]⟩
        rintro G2 ⟨zs, ac, ez⟩
        rw [lx, List.take_length] at ez
        have s2 := ac.st.same
        obtain ⟨_, ws, eD, nDM, hD, pD⟩ := ac.done
        cases eD
        have e2 := eq.same s2
        have h52 := Sh.go h5 ac.st Sb.nil Sb.refl
        have h62 := Sh.go h6 ac.st Sb.nil Sb.refl
        have hp2 := Sh.go hpr ac.st Sb.nil Sb.refl
        have pE2 := Sh.gos pE ac.st Sb.nil (Sb.refl (M := M))
        have hE2 := s2 _ _ hE
        repeat (first | refine ⟨_, rfl, ?_⟩ | refine ⟨_, _, rfl, rfl, ?_⟩ | refine ⟨_, _, rfl, ?_⟩ | refine ⟨rfl, ?_⟩)
        refine ⟨lenk 1 rfl (by decide), fun L1 nL1 => ?_⟩
        have s3 : Same G2 (upd G2 L1 (.lst [.ref tp])) := Same.new nL1
        have hL1 : upd G2 L1 (.lst [.ref tp]) L1 = some (.lst [.ref tp]) := upd_same
        have st3 : Stp [] G2 (upd G2 L1 (.lst [.ref tp])) := Stp.of_same s3
        have e3 := e2.same s3
        have h53 := Sh.go h52 st3 Sb.nil Sb.refl
        have h63 := Sh.go h62 st3 Sb.nil Sb.refl
        have hp3 := Sh.go hp2 st3 Sb.nil Sb.refl
        have pE3 := Sh.gos pE2 st3 Sb.nil Sb.refl
        have pD3 := Sh.gos pD st3 Sb.nil Sb.refl
        have hE3 := s3 _ _ hE2
        have hD3 := s3 _ _ hD
        generalize upd G2 L1 (.lst [.ref tp]) = G3 at s3 hL1 e3 h53 h63 hp3 pE3 pD3 hE3 hD3
        clear st3 e2 h52 h62 hp2 pE2 pD
        obtain ⟨tp', _, _, ep, -, htp, pi, pj⟩ := id hp3
        cases ep; cases pi; cases pj
        repeat (first | refine ⟨_, rfl, ?_⟩ | refine ⟨_, _, rfl, rfl, ?_⟩ | refine ⟨_, _, rfl, ?_⟩ | refine ⟨rfl, ?_⟩)
        refine ⟨tupD (eL pr), (es.map eL).map tupD, ij_dp htp, (by rw [eve]; exact es_dp hE3 pE3), (shd_tup _).shaped (by decide), (shd_tups _).shaped (by decide), ?_⟩
        rw [any_tups, show decide (eL pr ∈ es.map eL) = decide (pr ∈ es) from decide_eq_decide.mpr (eL_in (i := pr.1) (j := pr.2))]
        repeat (first | refine ⟨_, rfl, ?_⟩ | refine ⟨_, _, rfl, rfl, ?_⟩ | refine ⟨_, _, rfl, ?_⟩ | refine ⟨rfl, ?_⟩)
        refine .inr ⟨_, rfl, ?_⟩
        have ek : (if (!decide (pr ∈ es)) = true then (1 : Int) else 0) = ((if pr ∈ es then 0 else 1 : Nat) : Int) := by
          by_cases h : pr ∈ es
          · rw [decide_eq_true h, if_pos h]; rfl
          · rw [decide_eq_false h, if_neg h]; rfl
        rw [ek]
        have k1 : (if pr ∈ es then 0 else 1 : Nat) ≤ 1 := by split <;> omega
        generalize hk : (if pr ∈ es then 0 else 1 : Nat) = k at k1
        repeat (first | refine ⟨_, rfl, ?_⟩ | refine ⟨_, _, rfl, rfl, ?_⟩ | refine ⟨_, _, rfl, ?_⟩ | refine ⟨rfl, ?_⟩)
        refine ⟨L1, _, _, rfl, rfl, hL1, by omega, by omega, ?_, fun L2 nL2 => ?_⟩
        · rw [sizeLine_eq]; show 1 * Int.toNat (k : Int) ≤ _; rw [Int.toNat_natCast]; omega
        rw [flat_rep, Int.toNat_natCast]
        have s4 : Same G3 (upd G3 L2 (.lst (List.replicate k (.ref tp)))) := Same.new nL2
        have hL2 : upd G3 L2 (.lst (List.replicate k (.ref tp))) L2 = some (.lst (List.replicate k (.ref tp))) := upd_same
        have st4 : Stp [] G3 (upd G3 L2 (.lst (List.replicate k (.ref tp)))) := Stp.of_same s4
        have e4 := e3.same s4
        have h54 := Sh.go h53 st4 Sb.nil Sb.refl
        have h64 := Sh.go h63 st4 Sb.nil Sb.refl
        have hp4 := Sh.go hp3 st4 Sb.nil Sb.refl
        have pD4 := Sh.gos pD3 st4 Sb.nil Sb.refl
        have hD4 := s4 _ _ hD3
        generalize upd G3 L2 (.lst (List.replicate k (.ref tp))) = G4 at s4 hL2 e4 h54 h64 hp4 pD4 hD4
        repeat (first | refine ⟨_, rfl, ?_⟩ | refine ⟨_, _, rfl, rfl, ?_⟩ | refine ⟨_, _, rfl, ?_⟩ | refine ⟨rfl, ?_⟩)
        have lD := plen pD4
        have lzs : zs.length ≤ 28 := by
          rw [ez]
          exact Nat.le_trans (List.length_filter_le _ _) le28
        refine ⟨D, L2, _, _, rfl, rfl, hD4, hL2, by rw [List.length_replicate, sizeLine_eq]; omega, fun r nr => ?_⟩
        have st5 : Stp [] G4 (upd G4 r (.lst (ws ++ List.replicate k (.ref tp)))) := Stp.new nr
        refine ⟨.ref r, rfl, e4.same (Same.new nr), Sh.go h54 st5 Sb.nil Sb.refl, Sh.go h64 st5 Sb.nil Sb.refl, r, _, rfl, e4.al.off nr, upd_same, ?_⟩
        unfold togE
        rw [hk, ← ez]
        exact papp (Sh.gos pD4 st5 Sb.nil Sb.refl) (prep (Sh.go hp4 st5 Sb.nil Sb.refl) k)
      clear eq h5 h6 hpr
      rintro σ G ⟨v10, rfl, eq, h5, h6, h10⟩
      have okt := tog_ok okE le28 pr1 pr2
      refine ⟨fun σ G => ∃ (p8 : Addr) (hs8 : List (Str × Str)), σ = [some (.ref b), some (.ref p), some vn, some ve, some (.ref a4), some v5, some (.ref a6), y7, some (.ref p8), some (.ref tp), some v10, none, none, none, none, none] ∧ Eqr T.C_Graph M b p vn ve ns hs es H G (n + 301) ∧ (sL sPS).at M G v5 hs5 ∧ (sL sNN).at M G (.ref a6) (allP ns.length) ∧ (sG T.C_Graph).at M G (.ref p8) (ns, hs8) ∧ Rep ns (togE es pr) hs8, ?_, ?_⟩
      · repeat (first | refine ⟨_, rfl, ?_⟩ | refine ⟨_, _, rfl, rfl, ?_⟩ | refine ⟨_, _, rfl, ?_⟩ | refine ⟨rfl, ?_⟩)
        refine ⟨M, b, n + 201, _, _, ns, togE es pr, rfl, hb, eq.al, eq.bag, by omega, eq.hn, h10, okN, okt, fun w hs8 G2 s2 b2 hw rep8 lh _ => ?_⟩
        have e2 := eq.step hb s2 b2
        have h52 := Sh.go h5 s2 (Sb.one hb) Sb.refl
        have h62 := Sh.go h6 s2 (Sb.one hb) Sb.refl
        repeat (first | refine ⟨_, rfl, ?_⟩ | refine ⟨_, _, rfl, rfl, ?_⟩ | refine ⟨_, _, rfl, ?_⟩ | refine ⟨rfl, ?_⟩)
        refine mkGs e2.al (Sh.sq e2.hn) (SqE.of (Sh.sq hw)) okN rep8.1 fun p8 G3 s3 np hp8 => ?_
        have st3 : Stp [] G2 G3 := Stp.of_same s3
        repeat (first | refine ⟨_, rfl, ?_⟩ | refine ⟨_, _, rfl, rfl, ?_⟩ | refine ⟨_, _, rfl, ?_⟩ | refine ⟨rfl, ?_⟩)
        exact ⟨p8, hs8, rfl, (e2.same s3).mono (by omega), Sh.go h52 st3 Sb.nil Sb.refl, Sh.go h62 st3 Sb.nil Sb.refl, hp8, rep8⟩
      clear eq h5 h6 h10
      rintro σ G ⟨p8, hs8, rfl, eq, h5, h6, h8, rep8⟩
      have d8 : sameH ns ns hs hs8 = false := same_es okN okE okt rep rep8 pr1 pr2 (by rw [tog_in]; cases decide ((pr.1, pr.2) ∈ es) <;> decide)
      repeat (first | refine ⟨_, rfl, ?_⟩ | refine ⟨_, _, rfl, rfl, ?_⟩ | refine ⟨_, _, rfl, ?_⟩ | refine ⟨rfl, ?_⟩)
      refine geq_ask T.ow_Graph eq.hg h8 okN okN fun G2 s2 => ?_
      rw [d8]
      have e2 := eq.same s2
      have h52 := Sh.go h5 (Stp.of_same (m := []) s2) Sb.nil Sb.refl
      have h62 := Sh.go h6 (Stp.of_same (m := []) s2) Sb.nil Sb.refl
      have h82 := Sh.go h8 (Stp.of_same (m := []) s2) Sb.nil Sb.refl
      repeat (first | refine ⟨_, rfl, ?_⟩ | refine ⟨_, _, rfl, rfl, ?_⟩ | refine ⟨_, _, rfl, ?_⟩ | refine ⟨rfl, ?_⟩)
      refine gne_ask T.ow_Graph e2.hg h82 okN okN fun G3 s3 => ?_
      rw [d8]
      have e3 := e2.same s3
      have h53 := Sh.go h52 (Stp.of_same (m := []) s3) Sb.nil Sb.refl
      have h63 := Sh.go h62 (Stp.of_same (m := []) s3) Sb.nil Sb.refl
      clear eq e2 h5 h52 h6 h62
      repeat (first | refine ⟨_, rfl, ?_⟩ | refine ⟨_, _, rfl, rfl, ?_⟩ | refine ⟨_, _, rfl, ?_⟩ | refine ⟨rfl, ?_⟩)
      obtain ⟨an, evn, nan, hN⟩ := Sh.strs e3.hn
      have l2 : 2 ≤ ns.length := by omega
      refine ⟨an, _, evn, SqL.of hN, fun q1 nq1 => ?_⟩
      rw [show (1 : Int) = ((1 : Nat) : Int) from rfl, cut_from, ← List.map_drop]
      have s4 : Same G3 (upd G3 q1 (.lst ((ns.drop 1).map V.str))) := Same.new nq1
      have hq1 : upd G3 q1 (.lst ((ns.drop 1).map V.str)) q1 = some (.lst ((ns.drop 1).map V.str)) := upd_same
      have st4 : Stp [] G3 (upd G3 q1 (.lst ((ns.drop 1).map V.str))) := Stp.of_same s4
      have e4 := e3.same s4
      have h54 := Sh.go h53 st4 Sb.nil Sb.refl
      have h64 := Sh.go h63 st4 Sb.nil Sb.refl
      have hN4 := s4 _ _ hN
      generalize upd G3 q1 (.lst ((ns.drop 1).map V.str)) = G4 at s4 hq1 e4 h54 h64 hN4
      repeat (first | refine ⟨_, rfl, ?_⟩ | refine ⟨_, _, rfl, rfl, ?_⟩ | refine ⟨_, _, rfl, ?_⟩ | refine ⟨rfl, ?_⟩)
      refine ⟨an, _, evn, SqL.of hN4, fun q2 nq2 => ?_⟩
      rw [cut_to, ← List.map_take]
      have s5 : Same G4 (upd G4 q2 (.lst ((ns.take 1).map V.str))) := Same.new nq2
      have hq2 : upd G4 q2 (.lst ((ns.take 1).map V.str)) q2 = some (.lst ((ns.take 1).map V.str)) := upd_same
      have st5 : Stp [] G4 (upd G4 q2 (.lst ((ns.take 1).map V.str))) := Stp.of_same s5
      have e5 := e4.same s5
      have h55 := Sh.go h54 st5 Sb.nil Sb.refl
      have h65 := Sh.go h64 st5 Sb.nil Sb.refl
      have hq15 := s5 _ _ hq1
      generalize upd G4 q2 (.lst ((ns.take 1).map V.str)) = G5 at s5 hq2 e5 h55 h65 hq15
      repeat (first | refine ⟨_, rfl, ?_⟩ | refine ⟨_, _, rfl, rfl, ?_⟩ | refine ⟨_, _, rfl, ?_⟩ | refine ⟨rfl, ?_⟩)
      refine ⟨q1, q2, _, _, rfl, rfl, hq15, hq2, by rw [List.length_map, List.length_map, List.length_drop, List.length_take, sizeLine_eq]; omega, fun r nr => ?_⟩
      have s6 : Same G5 (upd G5 r (.lst ((ns.drop 1).map V.str ++ (ns.take 1).map V.str))) := Same.new nr
      have hr6 : upd G5 r (.lst ((ns.drop 1).map V.str ++ (ns.take 1).map V.str)) r = some (.lst ((ns.drop 1 ++ ns.take 1).map V.str)) := by rw [upd_same, List.map_append]
      have st6 : Stp [] G5 (upd G5 r (.lst ((ns.drop 1).map V.str ++ (ns.take 1).map V.str))) := Stp.of_same s6
      have nrM := e5.al.off nr
      have e6 := e5.same s6
      have h56 := Sh.go h55 st6 Sb.nil Sb.refl
      have h66 := Sh.go h65 st6 Sb.nil Sb.refl
      generalize upd G5 r (.lst ((ns.drop 1).map V.str ++ (ns.take 1).map V.str)) = G6 at s6 hr6 e6 h56 h66
      have pm := rot_perm ns
      repeat (first | refine ⟨_, rfl, ?_⟩ | refine ⟨_, _, rfl, rfl, ?_⟩ | refine ⟨_, _, rfl, ?_⟩ | refine ⟨rfl, ?_⟩)
      refine mkGs e6.al ⟨r, _, rfl, nrM, .inl hr6, pd_strs⟩ (SqE.of (Sh.sq h56)) (okN.perm pm) (rep5.1.perm pm) fun p7 G7 s7 np hp7 => ?_
      have e7 := e6.same s7
      refine geq_ask T.ow_Graph e7.hg hp7 okN (okN.perm pm) fun G8 s8 => ?_
      rw [same_ns (rot_ne okN.nd l2)]
      repeat (first | refine ⟨_, rfl, ?_⟩ | refine ⟨_, _, rfl, rfl, ?_⟩ | refine ⟨_, _, rfl, ?_⟩ | refine ⟨rfl, ?_⟩)
      exact ⟨_, _, _, rfl, (e7.same s8).mono (by omega), Sh.go h66 (Stp.of_same (m := []) (s7.trans s8)) Sb.nil Sb.refl⟩
    --]]
    clear eq h5 h6
    rintro σ G ⟨y8, y9, y10, rfl, eq, h6⟩
    refine ⟨fun σ G => ∃ at' : Nat, σ = [some (.ref b), some (.ref p), some vn, some ve, some (.ref a4), some v5, some v6, some (.int (at' : Nat)), y8, y9, y10, none, none, none, none, none] ∧ Eqr T.C_Graph M b p vn ve ns hs es H G (n + 401) ∧ (sL sNN).at M G v6 (allP ns.length) ∧ at' < ns.length, ?_, ?_⟩
    --[[
    · repeat (first | refine ⟨_, rfl, ?_⟩ | refine ⟨_, _, rfl, rfl, ?_⟩ | refine ⟨_, _, rfl, ?_⟩ | refine ⟨rfl, ?_⟩)
      obtain ⟨an, evn, nan, hN⟩ := Sh.strs eq.hn
      refine ⟨an, _, by rw [evn], .inl (SqL.of hN), ?_⟩
      repeat (first | refine ⟨_, rfl, ?_⟩ | refine ⟨_, _, rfl, rfl, ?_⟩ | refine ⟨_, _, rfl, ?_⟩ | refine ⟨rfl, ?_⟩)
      refine ⟨b, _, _, rfl, eq.bag, by omega, by rw [List.length_map]; omega, by rw [List.length_map]; omega, fun k G2 f2 b2 k0 k1 => ?_⟩
      rw [List.length_map] at k1
      obtain ⟨k, rfl⟩ : ∃ m : Nat, k = (m : Int) := ⟨k.toNat, by omega⟩
      exact ⟨k, rfl, eq.step hb (f2.stp b2.some) b2, Sh.go h6 (f2.stp b2.some) (Sb.one hb) Sb.refl, by omega⟩
    --]]
    clear eq h6
    rintro σ G ⟨at', rfl, eq, h6, lat⟩
    refine ⟨fun σ G => ∃ (a11 : Addr) (y : Str), σ = [some (.ref b), some (.ref p), some vn, some ve, some (.ref a4), some v5, some v6, some (.int (at' : Nat)), y8, y9, y10, some (.ref a11), none, none, none, none] ∧ Eqr T.C_Graph M b p vn ve ns hs es H G (n + 401) ∧ (sL sNN).at M G v6 (allP ns.length) ∧ (sL sStr).at M G (.ref a11) (ns.set at' y) ∧ y ∉ ns ∧ NameOk y, ?_, ?_⟩
    --[[
    · repeat (first | refine ⟨_, rfl, ?_⟩ | refine ⟨_, _, rfl, rfl, ?_⟩ | refine ⟨_, _, rfl, ?_⟩ | refine ⟨rfl, ?_⟩)
      obtain ⟨an0, evn0, nan0, hN0⟩ := Sh.strs eq.hn
      refine ⟨an0, _, evn0, SqL.of hN0, fun q1 nq1 => ?_⟩
      rw [cut_to, ← List.map_take]
      have s0 : Same G (upd G q1 (.lst ((ns.take at').map V.str))) := Same.new nq1
      have hq1 : upd G q1 (.lst ((ns.take at').map V.str)) q1 = some (.lst ((ns.take at').map V.str)) := upd_same
      have eqA := eq.same s0
      have h60 := Sh.go h6 (Stp.of_same (m := []) s0) Sb.nil Sb.refl
      generalize upd G q1 (.lst ((ns.take at').map V.str)) = GA at s0 hq1 eqA h60
      repeat (first | refine ⟨_, rfl, ?_⟩ | refine ⟨_, _, rfl, rfl, ?_⟩ | refine ⟨_, _, rfl, ?_⟩ | refine ⟨rfl, ?_⟩)
      obtain ⟨an, evn, nan, hN⟩ := Sh.strs eqA.hn
      refine fun D nD => lc_it walk_str (fun j H' => H' D = some (.lst (((LN.take j).filter fun x => !decide (x ∈ ns)).map V.str)) ∧ Same GA H') ⟨upd_same, Same.new nD⟩ (fun _ _ _ _ => trivial) ?_ ?_
      · rintro j x Hx H5 hj ⟨h1, s1⟩ ⟨rfl, d, hd, rfl⟩
        have hL : LN[j]? = some ⟨#[d]⟩ := by
          unfold LN
          rw [List.getElem?_map, Array.getElem?_toList, hd]; rfl
        have lj := (List.getElem?_eq_some_iff.mp hL).1
        rw [ln_len] at lj
        refine ⟨wipe_in (by decide), ?_⟩
        rw [ftake _ hL]
        repeat (first | refine ⟨_, rfl, ?_⟩ | refine ⟨_, _, rfl, rfl, ?_⟩ | refine ⟨_, _, rfl, ?_⟩ | refine ⟨rfl, ?_⟩)
        refine ⟨an, _, evn, .inl (SqL.of (s1 _ _ hN)), rfl, flat_str _, ?_⟩
        rw [inV_str]
        refine ⟨_, rfl, ite2 (fun c => ?_) (fun c => ?_)⟩
        · replace c : (!decide ((⟨#[d]⟩ : Str) ∈ ns)) = true := c
          repeat (first | refine ⟨_, rfl, ?_⟩ | refine ⟨_, _, rfl, rfl, ?_⟩ | refine ⟨_, _, rfl, ?_⟩ | refine ⟨rfl, ?_⟩)
          have lf := List.length_filter_le (fun x => !decide (x ∈ ns)) (LN.take j)
          rw [List.length_take] at lf
          refine ⟨_, h1, by rw [List.length_map, sizeLine_eq]; omega, ?_, Same.upd_p s1 nD⟩
          rw [upd_same, if_pos c, List.map_append]; rfl
        · replace c : ¬ (!decide ((⟨#[d]⟩ : Str) ∈ ns)) = true := c
          rw [if_neg c, List.append_nil]
          exact ⟨h1, s1⟩
      rintro H1 ⟨hD, s1⟩
      rw [show (Str.ofString "abcdefghi").cps.size = LN.length from rfl, List.take_length] at hD
      obtain ⟨y, t, ey, ny, ynm⟩ := ln_new (ns := ns) l8
      rw [ey] at hD
      repeat (first | refine ⟨_, rfl, ?_⟩ | refine ⟨_, _, rfl, rfl, ?_⟩ | refine ⟨_, _, rfl, ?_⟩ | refine ⟨rfl, ?_⟩)
      refine ⟨D, _, rfl, SqL.of hD, fun lD nlD => ?_⟩
      rw [show (1 : Int) = ((1 : Nat) : Int) from rfl, cut_to]
      have s2 : Same H1 (upd H1 lD (.lst (((y :: t).map V.str).take 1))) := Same.new nlD
      have e1 := eqA.same s1
      have h2 : (sL sStr).at M (upd H1 lD (.lst (((y :: t).map V.str).take 1))) (.ref lD) [y] := ⟨lD, _, rfl, e1.al.off nlD, upd_same, pd_strs (ns := [y])⟩
      have e2 := e1.same s2
      generalize upd H1 lD (.lst (((y :: t).map V.str).take 1)) = H2 at s2 h2 e2
      have s12 : Same GA H2 := s1.trans s2
      have h62 := Sh.go h60 (Stp.of_same (m := []) s12) Sb.nil Sb.refl
      obtain ⟨_, el, -, hlD⟩ := Sh.strs h2
      cases el
      have hN2 := s12 _ _ hN
      have hq12 := s12 _ _ hq1
      repeat (first | refine ⟨_, rfl, ?_⟩ | refine ⟨_, _, rfl, rfl, ?_⟩ | refine ⟨_, _, rfl, ?_⟩ | refine ⟨rfl, ?_⟩)
      refine ⟨q1, lD, _, _, rfl, rfl, hq12, hlD, by rw [List.length_map, List.length_map, List.length_take, sizeLine_eq]; simp; omega, fun r nr => ?_⟩
      have s3 : Same H2 (upd H2 r (.lst ((ns.take at').map V.str ++ [y].map V.str))) := Same.new nr
      have hr3 : upd H2 r (.lst ((ns.take at').map V.str ++ [y].map V.str)) r = some (.lst ((ns.take at').map V.str ++ [y].map V.str)) := upd_same
      have e3 := e2.same s3
      have h63 := Sh.go h62 (Stp.of_same (m := []) s3) Sb.nil Sb.refl
      have hN3 := s3 _ _ hN2
      generalize upd H2 r (.lst ((ns.take at').map V.str ++ [y].map V.str)) = H3 at s3 hr3 e3 h63 hN3
      repeat (first | refine ⟨_, rfl, ?_⟩ | refine ⟨_, _, rfl, rfl, ?_⟩ | refine ⟨_, _, rfl, ?_⟩ | refine ⟨rfl, ?_⟩)
      refine ⟨an, _, evn, SqL.of hN3, fun q3 nq3 => ?_⟩
      rw [show ((at' : Nat) : Int) + ((1 : Nat) : Int) = ((at' + 1 : Nat) : Int) from rfl, cut_from, ← List.map_drop]
      have s4 : Same H3 (upd H3 q3 (.lst ((ns.drop (at' + 1)).map V.str))) := Same.new nq3
      have hq3 : upd H3 q3 (.lst ((ns.drop (at' + 1)).map V.str)) q3 = some (.lst ((ns.drop (at' + 1)).map V.str)) := upd_same
      have e4 := e3.same s4
      have h64 := Sh.go h63 (Stp.of_same (m := []) s4) Sb.nil Sb.refl
      have hr4 := s4 _ _ hr3
      generalize upd H3 q3 (.lst ((ns.drop (at' + 1)).map V.str)) = H4 at s4 hq3 e4 h64 hr4
      repeat (first | refine ⟨_, rfl, ?_⟩ | refine ⟨_, _, rfl, rfl, ?_⟩ | refine ⟨_, _, rfl, ?_⟩ | refine ⟨rfl, ?_⟩)
      refine ⟨r, q3, _, _, rfl, rfl, hr4, hq3, by rw [List.length_append, List.length_map, List.length_map, List.length_map, List.length_take, List.length_drop, sizeLine_eq]; simp; omega, fun r2 nr2 => ?_⟩
      have s5 : Same H4 (upd H4 r2 (.lst ((ns.take at').map V.str ++ [y].map V.str ++ (ns.drop (at' + 1)).map V.str))) := Same.new nr2
      refine ⟨r2, y, rfl, e4.same s5, Sh.go h64 (Stp.of_same (m := []) s5) Sb.nil Sb.refl, ⟨r2, _, rfl, e4.al.off nr2, upd_same, ?_⟩, ny, ynm⟩
      rw [show (ns.take at').map V.str ++ [y].map V.str ++ (ns.drop (at' + 1)).map V.str = (ns.set at' y).map V.str by
        rw [List.set_eq_take_append_cons_drop, if_pos lat, List.map_append, List.map_cons, List.append_assoc]; rfl]
      exact pd_strs
    --]]
    clear eq h6
    rintro σ G ⟨a11, y, rfl, eq, h6, h11, ny11, nm11⟩
    refine ⟨fun σ G => ∃ (a12 : Addr), σ = [some (.ref b), some (.ref p), some vn, some ve, some (.ref a4), some v5, some v6, some (.int (at' : Nat)), y8, y9, y10, some (.ref a11), some (.ref a12), none, none, none] ∧ Eqr T.C_Graph M b p vn ve ns hs es H G (n + 401) ∧ (sL sNN).at M G v6 (allP ns.length) ∧ (sL sStr).at M G (.ref a11) (ns.set at' y) ∧ (sL sStr).at M G (.ref a12) (turn ns), ?_, ?_⟩
    --[[
    · repeat (first | refine ⟨_, rfl, ?_⟩ | refine ⟨_, _, rfl, rfl, ?_⟩ | refine ⟨_, _, rfl, ?_⟩ | refine ⟨rfl, ?_⟩)
      obtain ⟨an, evn, nan, hN⟩ := Sh.strs eq.hn
      refine ⟨an, _, evn, SqL.of hN, fun q1 nq1 => ?_⟩
      rw [cut_m2, List.length_map, ← List.map_take]
      have s1 : Same G (upd G q1 (.lst ((ns.take (ns.length - 2)).map V.str))) := Same.new nq1
      have hq1 : upd G q1 (.lst ((ns.take (ns.length - 2)).map V.str)) q1 = some (.lst ((ns.take (ns.length - 2)).map V.str)) := upd_same
      have e1 := eq.same s1
      have h61 := Sh.go h6 (Stp.of_same (m := []) s1) Sb.nil Sb.refl
      have h111 := Sh.go h11 (Stp.of_same (m := []) s1) Sb.nil Sb.refl
      have hN1 := s1 _ _ hN
      generalize upd G q1 (.lst ((ns.take (ns.length - 2)).map V.str)) = G1 at s1 hq1 e1 h61 h111 hN1
      repeat (first | refine ⟨_, rfl, ?_⟩ | refine ⟨_, _, rfl, rfl, ?_⟩ | refine ⟨_, _, rfl, ?_⟩ | refine ⟨rfl, ?_⟩)
      refine ⟨an, _, evn, SqL.of hN1, fun q2 nq2 => ?_⟩
      rw [cut_m1, List.length_map, ← List.map_drop]
      have s2 : Same G1 (upd G1 q2 (.lst ((ns.drop (ns.length - 1)).map V.str))) := Same.new nq2
      have hq2 : upd G1 q2 (.lst ((ns.drop (ns.length - 1)).map V.str)) q2 = some (.lst ((ns.drop (ns.length - 1)).map V.str)) := upd_same
      have e2 := e1.same s2
      have h62 := Sh.go h61 (Stp.of_same (m := []) s2) Sb.nil Sb.refl
      have h112 := Sh.go h111 (Stp.of_same (m := []) s2) Sb.nil Sb.refl
      have hN2 := s2 _ _ hN1
      have hq12 := s2 _ _ hq1
      generalize upd G1 q2 (.lst ((ns.drop (ns.length - 1)).map V.str)) = G2 at s2 hq2 e2 h62 h112 hN2 hq12
      repeat (first | refine ⟨_, rfl, ?_⟩ | refine ⟨_, _, rfl, rfl, ?_⟩ | refine ⟨_, _, rfl, ?_⟩ | refine ⟨rfl, ?_⟩)
      refine ⟨q1, q2, _, _, rfl, rfl, hq12, hq2, by rw [List.length_map, List.length_map, List.length_drop, List.length_take, sizeLine_eq]; omega, fun r nr => ?_⟩
      have s3 : Same G2 (upd G2 r (.lst ((ns.take (ns.length - 2)).map V.str ++ (ns.drop (ns.length - 1)).map V.str))) := Same.new nr
      have hr3 : upd G2 r (.lst ((ns.take (ns.length - 2)).map V.str ++ (ns.drop (ns.length - 1)).map V.str)) r = some (.lst ((ns.take (ns.length - 2)).map V.str ++ (ns.drop (ns.length - 1)).map V.str)) := upd_same
      have e3 := e2.same s3
      have h63 := Sh.go h62 (Stp.of_same (m := []) s3) Sb.nil Sb.refl
      have h113 := Sh.go h112 (Stp.of_same (m := []) s3) Sb.nil Sb.refl
      have hN3 := s3 _ _ hN2
      generalize upd G2 r (.lst ((ns.take (ns.length - 2)).map V.str ++ (ns.drop (ns.length - 1)).map V.str)) = G3 at s3 hr3 e3 h63 h113 hN3
      repeat (first | refine ⟨_, rfl, ?_⟩ | refine ⟨_, _, rfl, rfl, ?_⟩ | refine ⟨_, _, rfl, ?_⟩ | refine ⟨rfl, ?_⟩)
      refine ⟨an, _, evn, SqL.of hN3, fun q3 nq3 => ?_⟩
      rw [cut_m21, List.length_map, ← List.map_drop, ← List.map_take]
      generalize hmid : (ns.drop (ns.length - 2)).take (ns.length - 1 - (ns.length - 2)) = mid
      have lmid : mid.length ≤ 8 := by rw [← hmid, List.length_take, List.length_drop]; omega
      have s4 : Same G3 (upd G3 q3 (.lst (mid.map V.str))) := Same.new nq3
      have hq3 : upd G3 q3 (.lst (mid.map V.str)) q3 = some (.lst (mid.map V.str)) := upd_same
      have e4 := e3.same s4
      have h64 := Sh.go h63 (Stp.of_same (m := []) s4) Sb.nil Sb.refl
      have h114 := Sh.go h113 (Stp.of_same (m := []) s4) Sb.nil Sb.refl
      have hr4 := s4 _ _ hr3
      generalize upd G3 q3 (.lst (mid.map V.str)) = G4 at s4 hq3 e4 h64 h114 hr4
      repeat (first | refine ⟨_, rfl, ?_⟩ | refine ⟨_, _, rfl, rfl, ?_⟩ | refine ⟨_, _, rfl, ?_⟩ | refine ⟨rfl, ?_⟩)
      refine ⟨r, q3, _, _, rfl, rfl, hr4, hq3, by rw [List.length_append, List.length_map, List.length_map, List.length_map, List.length_take, List.length_drop, sizeLine_eq]; omega, fun r2 nr2 => ?_⟩
      have s5 : Same G4 (upd G4 r2 (.lst ((ns.take (ns.length - 2)).map V.str ++ (ns.drop (ns.length - 1)).map V.str ++ mid.map V.str))) := Same.new nr2
      refine ⟨r2, rfl, e4.same s5, Sh.go h64 (Stp.of_same (m := []) s5) Sb.nil Sb.refl, Sh.go h114 (Stp.of_same (m := []) s5) Sb.nil Sb.refl, r2, _, rfl, e4.al.off nr2, upd_same, ?_⟩
      unfold turn
      rw [hmid, ← List.map_append, ← List.map_append]
      exact pd_strs
    --]]
    clear eq h6 h11
    rintro σ G ⟨a12, rfl, eq, h6, h11, h12⟩
    refine ⟨fun σ G => ∃ (y8 y10 : Option V), σ = [some (.ref b), some (.ref p), some vn, some ve, some (.ref a4), some v5, some v6, some (.int (at' : Nat)), y8, y9, y10, some (.ref a11), some (.ref a12), none, none, none] ∧ Eqr T.C_Graph M b p vn ve ns hs es H G (n + 601) ∧ (sL sNN).at M G v6 (allP ns.length), ?_, ?_⟩
    --[[
    · repeat (first | refine ⟨_, rfl, ?_⟩ | refine ⟨_, _, rfl, rfl, ?_⟩ | refine ⟨_, _, rfl, ?_⟩ | refine ⟨rfl, ?_⟩)
      refine ⟨lenk 2 rfl (by decide), fun L nL => ?_⟩
      have s1 : Same G (upd G L (.lst [.ref a11, .ref a12])) := Same.new nL
      have hL : upd G L (.lst [.ref a11, .ref a12]) L = some (.lst [.ref a11, .ref a12]) := upd_same
      have e1 := eq.same s1
      have h61 := Sh.go h6 (Stp.of_same (m := []) s1) Sb.nil Sb.refl
      have h111 := Sh.go h11 (Stp.of_same (m := []) s1) Sb.nil Sb.refl
      have h121 := Sh.go h12 (Stp.of_same (m := []) s1) Sb.nil Sb.refl
      generalize upd G L (.lst [.ref a11, .ref a12]) = G1 at s1 hL e1 h61 h111 h121
      repeat (first | refine ⟨_, rfl, ?_⟩ | refine ⟨_, _, rfl, rfl, ?_⟩ | refine ⟨_, _, rfl, ?_⟩ | refine ⟨rfl, ?_⟩)
      obtain ⟨an, evn, nan, hN⟩ := Sh.strs e1.hn
      refine ⟨an, _, by rw [evn], .inl (SqL.of hN), ?_⟩
      repeat (first | refine ⟨_, rfl, ?_⟩ | refine ⟨_, _, rfl, rfl, ?_⟩ | refine ⟨_, _, rfl, ?_⟩ | refine ⟨rfl, ?_⟩)
      refine .inr ⟨_, rfl, ?_⟩
      have ek : (1 : Int) + (if decide ((2 : Int) < ((ns.map V.str).length : Int)) = true then 1 else 0) = ((if 2 < ns.length then 2 else 1 : Nat) : Int) := by
        rw [List.length_map]
        by_cases h : 2 < ns.length
        · rw [decide_eq_true (by omega), if_pos h]; rfl
        · rw [decide_eq_false (by omega), if_neg h]; rfl
      repeat (first | refine ⟨_, rfl, ?_⟩ | refine ⟨_, _, rfl, rfl, ?_⟩ | refine ⟨_, _, rfl, ?_⟩ | refine ⟨rfl, ?_⟩)
      refine ⟨L, _, rfl, SqL.of hL, fun S nS => ?_⟩
      rw [ek, cut_to]
      generalize hk : (if 2 < ns.length then 2 else 1 : Nat) = k
      have k2 : k ≤ 2 ∧ (k = 2 → 2 < ns.length) := by rw [← hk]; split <;> omega
      have s2 : Same G1 (upd G1 S (.lst ([V.ref a11, .ref a12].take k))) := Same.new nS
      have hS : upd G1 S (.lst ([V.ref a11, .ref a12].take k)) S = some (.lst ([V.ref a11, .ref a12].take k)) := upd_same
      have e2 := e1.same s2
      have nSM : S ∉ M := e1.al.off nS
      have nSb : S ∉ [b] := fun m => nSM (by rw [List.mem_singleton.mp m]; exact hb)
      have h62 := Sh.go h61 (Stp.of_same (m := []) s2) Sb.nil Sb.refl
      have h112 := Sh.go h111 (Stp.of_same (m := []) s2) Sb.nil Sb.refl
      have h122 := Sh.go h121 (Stp.of_same (m := []) s2) Sb.nil Sb.refl
      generalize upd G1 S (.lst ([V.ref a11, .ref a12].take k)) = G2 at s2 hS e2 h62 h112 h122
      refine ⟨S, rfl, ⟨_, SqL.of hS⟩, for_it (walk_list (K := K) (a := S) (xs := [V.ref a11, .ref a12].take k)) (fun i σ G => ∃ (y8 y10 : Option V), σ = [some (.ref b), some (.ref p), some vn, some ve, some (.ref a4), some v5, some v6, some (.int (at' : Nat)), y8, y9, y10, some (.ref a11), some (.ref a12), none, none, none] ∧ Stp [b] G2 G ∧ Bag G b (n + 401 + 100 * i)) ⟨_, _, rfl, Stp.refl, e2.bag⟩ (fun i σ G _ ⟨_, _, _, st, _⟩ => SqL.of (st.at hS nSb)) ?_ ?_⟩
      rotate_left
      · rintro σ G3 ⟨y8, y10, rfl, st, bg⟩
        have lk : ([V.ref a11, .ref a12].take k).length ≤ 2 := by rw [List.length_take]; exact Nat.min_le_right _ _
        exact ⟨_, _, rfl, (e2.step hb st bg).mono (by omega), Sh.go h62 st (Sb.one hb) Sb.refl⟩
      rintro i x σ Hx G3 hi ⟨y8, y10, rfl, st, bg⟩ ⟨rfl, hx⟩
      have eq := e2.step hb st bg
      have i2 : i < 2 := by rw [List.length_take] at hi; have : [V.ref a11, V.ref a12].length = 2 := rfl; omega
      obtain ⟨ns', hx', ok', len', ne'⟩ : ∃ ns', (sL sStr).at M G3 x ns' ∧ GNOk ns' ∧ ns'.length = ns.length ∧ ns ≠ ns' := by
        rcases (by omega : i = 0 ∨ i = 1) with rfl | rfl
        · have : x = .ref a11 := by
            rw [List.getElem?_take_of_lt (by rw [List.length_take] at hi; omega)] at hx
            exact (Option.some.inj hx).symm
          subst this
          exact ⟨_, Sh.go h112 st (Sb.one hb) Sb.refl, set_ok okN ny11 nm11, List.length_set, set_ne lat ny11⟩
        · have k2' : k = 2 := by rw [List.length_take] at hi; omega
          have : x = .ref a12 := by
            rw [k2'] at hx
            exact (Option.some.inj hx).symm
          subst this
          have l3 := k2.2 k2'
          exact ⟨_, Sh.go h122 st (Sb.one hb) Sb.refl, okN.perm (turn_perm (by omega)), (turn_perm (by omega)).length_eq, turn_ne okN.nd (by omega)⟩
      have okE' : EOk ns'.length es := by rw [len']; exact okE
      repeat (first | refine ⟨_, rfl, ?_⟩ | refine ⟨_, _, rfl, rfl, ?_⟩ | refine ⟨_, _, rfl, ?_⟩ | refine ⟨rfl, ?_⟩)
      refine ⟨fun σ G => ∃ (p8 : Addr) (hs8 : List (Str × Str)), σ = [some (.ref b), some (.ref p), some vn, some ve, some (.ref a4), some v5, some v6, some (.int (at' : Nat)), some (.ref p8), y9, some x, some (.ref a11), some (.ref a12), none, none, none] ∧ Stp [b] G2 G ∧ Bag G b (n + 401 + 100 * (i + 1)) ∧ (sG T.C_Graph).at M G (.ref p) (ns, hs) ∧ (sG T.C_Graph).at M G (.ref p8) (ns', hs8), ?_, ?_⟩
      · repeat (first | refine ⟨_, rfl, ?_⟩ | refine ⟨_, _, rfl, rfl, ?_⟩ | refine ⟨_, _, rfl, ?_⟩ | refine ⟨rfl, ?_⟩)
        refine ⟨M, b, _, _, _, ns', es, rfl, hb, eq.al, eq.bag, by omega, hx', eq.he, ok', okE', fun w hs8 G4 s4 b4 hw rep8 lh _ => ?_⟩
        have e4 := eq.step hb s4 b4
        repeat (first | refine ⟨_, rfl, ?_⟩ | refine ⟨_, _, rfl, rfl, ?_⟩ | refine ⟨_, _, rfl, ?_⟩ | refine ⟨rfl, ?_⟩)
        refine mkGs e4.al (Sh.sq (Sh.go hx' s4 (Sb.one hb) Sb.refl)) (SqE.of (Sh.sq hw)) ok' rep8.1 fun p8 G5 s5 np hp8 => ?_
        have e5 := e4.same s5
        repeat (first | refine ⟨_, rfl, ?_⟩ | refine ⟨_, _, rfl, rfl, ?_⟩ | refine ⟨_, _, rfl, ?_⟩ | refine ⟨rfl, ?_⟩)
        exact ⟨p8, hs8, rfl, (st.trans s4).trans (Stp.of_same s5), e5.bag.mono (by omega), e5.hg, hp8⟩
      rintro σ G4 ⟨p8, hs8, rfl, st4, b4, hg4, hp8⟩
      repeat (first | refine ⟨_, rfl, ?_⟩ | refine ⟨_, _, rfl, rfl, ?_⟩ | refine ⟨_, _, rfl, ?_⟩ | refine ⟨rfl, ?_⟩)
      refine geq_ask T.ow_Graph hg4 hp8 okN ok' fun G5 s5 => ?_
      rw [same_ns ne']
      repeat (first | refine ⟨_, rfl, ?_⟩ | refine ⟨_, _, rfl, rfl, ?_⟩ | refine ⟨_, _, rfl, ?_⟩ | refine ⟨rfl, ?_⟩)
      refine gne_ask T.ow_Graph (Sh.go hg4 (Stp.of_same (m := []) s5) Sb.nil Sb.refl) (Sh.go hp8 (Stp.of_same (m := []) s5) Sb.nil Sb.refl) okN ok' fun G6 s6 => ?_
      rw [same_ns ne']
      repeat (first | refine ⟨_, rfl, ?_⟩ | refine ⟨_, _, rfl, rfl, ?_⟩ | refine ⟨_, _, rfl, ?_⟩ | refine ⟨rfl, ?_⟩)
      exact ⟨(st4.trans (Stp.of_same s5)).trans (Stp.of_same s6), (b4.same s5).same s6⟩
    --]]
    clear eq h6 h11 h12
    rintro σ G ⟨y8', y10', rfl, eq, h6⟩
    obtain ⟨fr, efr⟩ : ∃ fr, fr = (allP ns.length).filter fun e => !decide (e ∈ es) := ⟨_, rfl⟩
    have lfr : fr.length ≤ 28 := by
      rw [efr]
      exact Nat.le_trans (List.length_filter_le _ _) (allP_len l8)
    refine ⟨fun σ G => ∃ (a13 : Addr), σ = [some (.ref b), some (.ref p), some vn, some ve, some (.ref a4), some v5, some v6, some (.int (at' : Nat)), y8', y9, y10', some (.ref a11), some (.ref a12), some (.ref a13), none, none] ∧ Eqr T.C_Graph M b p vn ve ns hs es H G (n + 601) ∧ (sL sNN).at M G (.ref a13) fr, ?_, ?_⟩
    --[[
    · repeat (first | refine ⟨_, rfl, ?_⟩ | refine ⟨_, _, rfl, rfl, ?_⟩ | refine ⟨_, _, rfl, ?_⟩ | refine ⟨rfl, ?_⟩)
      obtain ⟨a6, w6, ev6, n6, h6', p6⟩ := id h6
      have l6 := plen p6
      obtain ⟨ae, xs, eve, nae, hE, pE⟩ := id eq.he
      refine ⟨a6, ev6, ⟨_, SqL.of h6'⟩, fun D nD => ?_⟩
      refine lc_it (walk_list (K := K) (a := a6) (xs := w6)) (fun j H' => ∃ zs, Acc sNN D M [] G H' zs ∧ zs = ((allP ns.length).take j).filter fun e => !decide (e ∈ es)) ⟨[], Acc.start eq.al nD (by simp), rfl⟩ (fun j H' _ ⟨_, ac, _⟩ => SqL.of (ac.st.same _ _ h6')) ?_ ?_
      · rintro j x Hx G2 hj ⟨zs, ac, ez⟩ ⟨rfl, hx⟩
        obtain ⟨e, he, hm⟩ := pget' p6 hx
        have hmD := Sh.go hm ac.st Sb.nil (Sb.new nD Sb.refl)
        have hm2 := Sh.go hm ac.st Sb.nil Sb.refl
        have pE2 := Sh.gos pE ac.st Sb.nil (Sb.refl (M := M))
        have hE2 := ac.st.same _ _ hE
        obtain ⟨te, _, _, ex, -, hte, ei, ej⟩ := id hm2
        cases ex; cases ei; cases ej
        refine ⟨wipe_in (by decide), ?_⟩
        rw [ftake _ he]
        repeat (first | refine ⟨_, rfl, ?_⟩ | refine ⟨_, _, rfl, rfl, ?_⟩ | refine ⟨_, _, rfl, ?_⟩ | refine ⟨rfl, ?_⟩)
        refine ⟨tupD (eL e), (es.map eL).map tupD, ij_dp hte, (by rw [eve]; exact es_dp hE2 pE2), (shd_tup _).shaped (by decide), (shd_tups _).shaped (by decide), ?_⟩
        rw [any_tups, show decide (eL e ∈ es.map eL) = decide (e ∈ es) from decide_eq_decide.mpr (eL_in (i := e.1) (j := e.2))]
        refine ⟨_, rfl, ite2 (fun c => ?_) (fun c => ?_)⟩
        · repeat (first | refine ⟨_, rfl, ?_⟩ | refine ⟨_, _, rfl, rfl, ?_⟩ | refine ⟨_, _, rfl, ?_⟩ | refine ⟨rfl, ?_⟩)
          refine ac.put (y := e) (R := fun zs => zs = ((allP ns.length).take j).filter (fun e => !decide (e ∈ es)) ++ if (!decide (e ∈ es)) = true then [e] else []) Stp.refl hmD ?_ ?_
          · rw [ez]
            have := List.length_filter_le (fun e => !decide (e ∈ es)) ((allP ns.length).take j)
            rw [List.length_take] at this
            have := allP_len l8
            omega
          · rw [ez, if_pos c]
        · exact ⟨zs, ac, by rw [ez, if_neg c, List.append_nil]⟩
      rintro G2 ⟨zs, ac, ez⟩
      rw [l6, List.take_length, ← efr] at ez
      subst ez
      repeat (first | refine ⟨_, rfl, ?_⟩ | refine ⟨_, _, rfl, rfl, ?_⟩ | refine ⟨_, _, rfl, ?_⟩ | refine ⟨rfl, ?_⟩)
      exact ⟨eq.same ac.st.same, ac.done⟩
    --]]
    clear eq h6
    rintro σ G ⟨a13, rfl, eq, h13⟩
    refine ⟨fun σ G => ∃ σ', σ = σ' ∧ Eqr T.C_Graph M b p vn ve ns hs es H G (n + 800), ?_, ?_⟩
    rotate_left
    · rintro σ G1 ⟨σ', rfl, eq⟩
      repeat (first | refine ⟨_, rfl, ?_⟩ | refine ⟨_, _, rfl, rfl, ?_⟩ | refine ⟨_, _, rfl, ?_⟩ | refine ⟨rfl, ?_⟩)
      exact q _ eq.st (eq.bag.mono (by omega))
    repeat (first | refine ⟨_, rfl, ?_⟩ | refine ⟨_, _, rfl, rfl, ?_⟩ | refine ⟨_, _, rfl, ?_⟩ | refine ⟨rfl, ?_⟩)
    obtain ⟨_, w13, e13, n13, h13', p13⟩ := id h13
    cases e13
    have l13 := plen p13
    refine ⟨lenk 0 rfl (by decide), fun e0 ne0 => ?_⟩
    have s1 : Same G (upd G e0 (.lst [])) := Same.new ne0
    have he0 : upd G e0 (.lst []) e0 = some (.lst []) := upd_same
    have e1 := eq.same s1
    have h131 := Sh.go h13 (Stp.of_same (m := []) s1) Sb.nil Sb.refl
    have p131 := Sh.gos p13 (Stp.of_same (m := []) s1) Sb.nil Sb.refl
    have h131' := s1 _ _ h13'
    generalize upd G e0 (.lst []) = G1 at s1 he0 e1 h131 p131 h131'
    refine ⟨_, _, es_dp h131' p131, .lst (SqL.of he0) .nil, (shd_tups _).shaped (by decide), nil_shaped, ?_⟩
    rw [eqv_nilG]
    repeat (first | refine ⟨_, rfl, ?_⟩ | refine ⟨_, _, rfl, rfl, ?_⟩ | refine ⟨_, _, rfl, ?_⟩ | refine ⟨rfl, ?_⟩)
    refine ite2 (fun c => ?_) (fun c => ?_)
    rotate_left
    · exact ⟨_, rfl, e1.mono (by omega)⟩
    have lf1 : 1 ≤ fr.length := by
      cases e : fr with
      | nil => rw [e] at c; simp at c
      | cons _ _ => simp
    obtain ⟨ae, xs, eve, nae, hE, pE⟩ := id e1.he
    repeat (first | refine ⟨_, rfl, ?_⟩ | refine ⟨_, _, rfl, rfl, ?_⟩ | refine ⟨_, _, rfl, ?_⟩ | refine ⟨rfl, ?_⟩)
    refine ⟨lenk 0 rfl (by decide), fun e9 ne9 => ?_⟩
    have s2 : Same G1 (upd G1 e9 (.lst [])) := Same.new ne9
    have he9 : upd G1 e9 (.lst []) e9 = some (.lst []) := upd_same
    have e2 := e1.same s2
    have h132 := Sh.go h131 (Stp.of_same (m := []) s2) Sb.nil Sb.refl
    have pE2 := Sh.gos pE (Stp.of_same (m := []) s2) Sb.nil Sb.refl
    have hE2 := s2 _ _ hE
    generalize upd G1 e9 (.lst []) = G2 at s2 he9 e2 h132 pE2 hE2
    refine ⟨_, _, (by rw [eve]; exact es_dp hE2 pE2), .lst (SqL.of he9) .nil, (shd_tups _).shaped (by decide), nil_shaped, ?_⟩
    rw [eqv_nilG]
    refine ⟨_, rfl, ite2 (fun c2 => ?_) (fun c2 => ?_)⟩
    rotate_left
    · exact ⟨_, rfl, e2.mono (by omega)⟩
    have le1 : 1 ≤ es.length := by
      cases e : es with
      | nil => rw [e] at c2; simp at c2
      | cons _ _ => simp
    have lx := plen pE2
    refine ⟨fun σ G => ∃ (a7 : Nat), σ = [some (.ref b), some (.ref p), some vn, some ve, some (.ref a4), some v5, some v6, some (.int (a7 : Nat)), y8', y9, y10', some (.ref a11), some (.ref a12), some (.ref a13), none, none] ∧ Eqr T.C_Graph M b p vn ve ns hs es H G (n + 602) ∧ (sL sNN).at M G (.ref a13) fr ∧ a7 < es.length, ?_, ?_⟩
    · repeat (first | refine ⟨_, rfl, ?_⟩ | refine ⟨_, _, rfl, rfl, ?_⟩ | refine ⟨_, _, rfl, ?_⟩ | refine ⟨rfl, ?_⟩)
      refine ⟨ae, _, by rw [eve], .inl (SqL.of hE2), ?_⟩
      repeat (first | refine ⟨_, rfl, ?_⟩ | refine ⟨_, _, rfl, rfl, ?_⟩ | refine ⟨_, _, rfl, ?_⟩ | refine ⟨rfl, ?_⟩)
      refine ⟨b, _, _, rfl, e2.bag, by omega, by omega, by omega, fun k G3 f3 b3 k0 k1 => ?_⟩
      obtain ⟨k, rfl⟩ : ∃ m : Nat, k = (m : Int) := ⟨k.toNat, by omega⟩
      exact ⟨k, rfl, e2.step hb (f3.stp b3.some) b3, Sh.go h132 (f3.stp b3.some) (Sb.one hb) Sb.refl, by omega⟩
    clear e1 e2 h131 h132 p131 h131' hE hE2 pE pE2 s1 s2 he0 he9 eq h13 h13' p13
    rintro σ G ⟨a7, rfl, eq, h13, la7⟩
    refine ⟨fun σ G => ∃ (v10 : V) (fp : Nat × Nat), σ = [some (.ref b), some (.ref p), some vn, some ve, some (.ref a4), some v5, some v6, some (.int (a7 : Nat)), y8', y9, some v10, some (.ref a11), some (.ref a12), some (.ref a13), none, none] ∧ Eqr T.C_Graph M b p vn ve ns hs es H G (n + 603) ∧ (sL sNN).at M G v10 (es.take a7 ++ es.drop (a7 + 1) ++ [fp]) ∧ fp ∈ fr, ?_, ?_⟩
    · repeat (first | refine ⟨_, rfl, ?_⟩ | refine ⟨_, _, rfl, rfl, ?_⟩ | refine ⟨_, _, rfl, ?_⟩ | refine ⟨rfl, ?_⟩)
      obtain ⟨ae, xs, eve, nae, hE, pE⟩ := id eq.he
      have lx := plen pE
      refine ⟨ae, _, eve, SqL.of hE, fun q1 nq1 => ?_⟩
      rw [cut_to]
      have s1 : Same G (upd G q1 (.lst (xs.take a7))) := Same.new nq1
      have hq1 : upd G q1 (.lst (xs.take a7)) q1 = some (.lst (xs.take a7)) := upd_same
      have e1 := eq.same s1
      have h131 := Sh.go h13 (Stp.of_same (m := []) s1) Sb.nil Sb.refl
      have pE1 := Sh.gos pE (Stp.of_same (m := []) s1) Sb.nil Sb.refl
      have hE1 := s1 _ _ hE
      generalize upd G q1 (.lst (xs.take a7)) = G1 at s1 hq1 e1 h131 pE1 hE1
      repeat (first | refine ⟨_, rfl, ?_⟩ | refine ⟨_, _, rfl, rfl, ?_⟩ | refine ⟨_, _, rfl, ?_⟩ | refine ⟨rfl, ?_⟩)
      refine ⟨ae, _, eve, SqL.of hE1, fun q2 nq2 => ?_⟩
      rw [show ((a7 : Nat) : Int) + 1 = ((a7 + 1 : Nat) : Int) from rfl, cut_from]
      have s2 : Same G1 (upd G1 q2 (.lst (xs.drop (a7 + 1)))) := Same.new nq2
      have hq2 : upd G1 q2 (.lst (xs.drop (a7 + 1))) q2 = some (.lst (xs.drop (a7 + 1))) := upd_same
      have e2 := e1.same s2
      have h132 := Sh.go h131 (Stp.of_same (m := []) s2) Sb.nil Sb.refl
      have pE2 := Sh.gos pE1 (Stp.of_same (m := []) s2) Sb.nil Sb.refl
      have hq12 := s2 _ _ hq1
      generalize upd G1 q2 (.lst (xs.drop (a7 + 1))) = G2 at s2 hq2 e2 h132 pE2 hq12
      repeat (first | refine ⟨_, rfl, ?_⟩ | refine ⟨_, _, rfl, rfl, ?_⟩ | refine ⟨_, _, rfl, ?_⟩ | refine ⟨rfl, ?_⟩)
      refine ⟨q1, q2, _, _, rfl, rfl, hq12, hq2, by rw [List.length_take, List.length_drop, sizeLine_eq]; omega, fun r nr => ?_⟩
      have s3 : Same G2 (upd G2 r (.lst (xs.take a7 ++ xs.drop (a7 + 1)))) := Same.new nr
      have hr3 : upd G2 r (.lst (xs.take a7 ++ xs.drop (a7 + 1))) r = some (.lst (xs.take a7 ++ xs.drop (a7 + 1))) := upd_same
      have nrM := e2.al.off nr
      have e3 := e2.same s3
      have h133 := Sh.go h132 (Stp.of_same (m := []) s3) Sb.nil Sb.refl
      have pE3 := Sh.gos pE2 (Stp.of_same (m := []) s3) Sb.nil Sb.refl
      generalize upd G2 r (.lst (xs.take a7 ++ xs.drop (a7 + 1))) = G3 at s3 hr3 e3 h133 pE3
      repeat (first | refine ⟨_, rfl, ?_⟩ | refine ⟨_, _, rfl, rfl, ?_⟩ | refine ⟨_, _, rfl, ?_⟩ | refine ⟨rfl, ?_⟩)
      obtain ⟨_, w13, e13, n13, h13', p13⟩ := id h133
      cases e13
      have l13 := plen p13
      refine ⟨a13, _, rfl, .inl (SqL.of h13'), ?_⟩
      repeat (first | refine ⟨_, rfl, ?_⟩ | refine ⟨_, _, rfl, rfl, ?_⟩ | refine ⟨_, _, rfl, ?_⟩ | refine ⟨rfl, ?_⟩)
      refine ⟨b, _, _, rfl, e3.bag, by omega, by omega, by omega, fun k G4 f4 b4 k0 k1 => ?_⟩
      have s4 := f4.stp b4.some
      have nb : ∀ {a : Addr}, a ∉ M → a ∉ [b] := fun h m => h (by rw [List.mem_singleton.mp m]; exact hb)
      have e4 := e3.step hb s4 b4
      have h134 := s4.at h13' (nb n13)
      have p134 := Sh.gos p13 s4 (Sb.one hb) Sb.refl
      have pE4 := Sh.gos pE3 s4 (Sb.one hb) Sb.refl
      have hr4 := s4.at hr3 (nb nrM)
      obtain ⟨x, hx, hat⟩ := atI_in (xs := w13) k0 (by omega)
      obtain ⟨fp, hfp, hm⟩ := pget' p134 hx
      refine ⟨a13, w13, k, x, rfl, rfl, SqL.of h134, hat, ?_⟩
      repeat (first | refine ⟨_, rfl, ?_⟩ | refine ⟨_, _, rfl, rfl, ?_⟩ | refine ⟨_, _, rfl, ?_⟩ | refine ⟨rfl, ?_⟩)
      refine ⟨lenk 1 rfl (by decide), fun L1 nL1 => ?_⟩
      have s5 : Same G4 (upd G4 L1 (.lst [x])) := Same.new nL1
      have hL1 : upd G4 L1 (.lst [x]) L1 = some (.lst [x]) := upd_same
      have e5 := e4.same s5
      have hm5 := Sh.go hm (Stp.of_same (m := []) s5) Sb.nil Sb.refl
      have pE5 := Sh.gos pE4 (Stp.of_same (m := []) s5) Sb.nil Sb.refl
      have hr5 := s5 _ _ hr4
      generalize upd G4 L1 (.lst [x]) = G5 at s5 hL1 e5 hm5 pE5 hr5
      repeat (first | refine ⟨_, rfl, ?_⟩ | refine ⟨_, _, rfl, rfl, ?_⟩ | refine ⟨_, _, rfl, ?_⟩ | refine ⟨rfl, ?_⟩)
      refine ⟨r, L1, _, _, rfl, rfl, hr5, hL1, by rw [List.length_append, List.length_take, List.length_drop, sizeLine_eq]; simp; omega, fun r2 nr2 => ?_⟩
      have s6 : Same G5 (upd G5 r2 (.lst (xs.take a7 ++ xs.drop (a7 + 1) ++ [x]))) := Same.new nr2
      have st6 : Stp [] G5 (upd G5 r2 (.lst (xs.take a7 ++ xs.drop (a7 + 1) ++ [x]))) := Stp.of_same s6
      refine ⟨.ref r2, fp, rfl, (e5.same s6).mono (by omega), ⟨r2, _, rfl, e5.al.off nr2, upd_same, ?_⟩, List.mem_of_getElem? hfp⟩
      have pE6 := Sh.gos pE5 st6 Sb.nil Sb.refl
      exact papp (papp (ptake pE6) (pdrop pE6)) (.cons (Sh.go hm5 st6 Sb.nil Sb.refl) .nil)
    clear eq h13
    rintro σ G ⟨v10, fp, rfl, eq, h10, mfp⟩
    rw [efr] at mfp
    obtain ⟨mf1, mf2⟩ := List.mem_filter.mp mfp
    have mf2 : fp ∉ es := by simpa using mf2
    obtain ⟨-, fp1, fp2⟩ := allU_fst mf1
    have okt := xch_ok okE le28 la7 mf2 fp1 fp2
    refine ⟨fun σ G => ∃ (p8 : Addr) (hs8 : List (Str × Str)), σ = [some (.ref b), some (.ref p), some vn, some ve, some (.ref a4), some v5, some v6, some (.int (a7 : Nat)), some (.ref p8), y9, some v10, some (.ref a11), some (.ref a12), some (.ref a13), none, none] ∧ Eqr T.C_Graph M b p vn ve ns hs es H G (n + 703) ∧ (sG T.C_Graph).at M G (.ref p8) (ns, hs8) ∧ Rep ns (es.take a7 ++ es.drop (a7 + 1) ++ [fp]) hs8, ?_, ?_⟩
    · repeat (first | refine ⟨_, rfl, ?_⟩ | refine ⟨_, _, rfl, rfl, ?_⟩ | refine ⟨_, _, rfl, ?_⟩ | refine ⟨rfl, ?_⟩)
      refine ⟨M, b, n + 603, _, _, ns, _, rfl, hb, eq.al, eq.bag, by omega, eq.hn, h10, okN, okt, fun w hs8 G2 s2 b2 hw rep8 lh _ => ?_⟩
      have e2 := eq.step hb s2 b2
      repeat (first | refine ⟨_, rfl, ?_⟩ | refine ⟨_, _, rfl, rfl, ?_⟩ | refine ⟨_, _, rfl, ?_⟩ | refine ⟨rfl, ?_⟩)
      refine mkGs e2.al (Sh.sq e2.hn) (SqE.of (Sh.sq hw)) okN rep8.1 fun p8 G3 s3 np hp8 => ?_
      repeat (first | refine ⟨_, rfl, ?_⟩ | refine ⟨_, _, rfl, rfl, ?_⟩ | refine ⟨_, _, rfl, ?_⟩ | refine ⟨rfl, ?_⟩)
      exact ⟨p8, hs8, rfl, (e2.same s3).mono (by omega), hp8, rep8⟩
    clear eq h10
    rintro σ G ⟨p8, hs8, rfl, eq, h8, rep8⟩
    have d8 : sameH ns ns hs hs8 = false := same_es okN okE okt rep rep8 fp1 fp2 (by
      rw [decide_eq_false (show ¬ (fp.1, fp.2) ∈ es from mf2), decide_eq_true (show (fp.1, fp.2) ∈ es.take a7 ++ es.drop (a7 + 1) ++ [fp] from List.mem_append.mpr (.inr List.mem_cons_self))]
      decide)
    repeat (first | refine ⟨_, rfl, ?_⟩ | refine ⟨_, _, rfl, rfl, ?_⟩ | refine ⟨_, _, rfl, ?_⟩ | refine ⟨rfl, ?_⟩)
    refine geq_ask T.ow_Graph eq.hg h8 okN okN fun G2 s2 => ?_
    rw [d8]
    have e2 := eq.same s2
    repeat (first | refine ⟨_, rfl, ?_⟩ | refine ⟨_, _, rfl, rfl, ?_⟩ | refine ⟨_, _, rfl, ?_⟩ | refine ⟨rfl, ?_⟩)
    refine gne_ask T.ow_Graph e2.hg (Sh.go h8 (Stp.of_same (m := []) s2) Sb.nil Sb.refl) okN okN fun G3 s3 => ?_
    rw [d8]
    repeat (first | refine ⟨_, rfl, ?_⟩ | refine ⟨_, _, rfl, rfl, ?_⟩ | refine ⟨_, _, rfl, ?_⟩ | refine ⟨rfl, ?_⟩)
    exact (e2.same s3).mono (by omega)

end K46
namespace K46
open PySem PySem.Spec PyProof.Rows L2 TL
/-! ### a graph shown -/
def sp_grepr (C : Addr) : Sp := fun vs H Q _ => ∃ (p : Addr) (W : Addr → Prop) (ns : List Str) (es : List (Nat × Nat)) (hs : List (Str × Str)), vs = [.ref p] ∧ IsG C H W p ns (nbE ns hs) ∧ GNOk ns ∧ es.Sublist (allP ns.length) ∧ Rep ns es hs ∧ ∀ (z : Str) H', Same H H' → Q (.str z) H'
theorem ok_Graph_repr {P : Program} {w : World} {K : PySem.W.Frag} {mg : Str → Option Value} {base : Heap} (T : Txt P K mg) : FnG P w K mg base CX0 3 T.f_Graph_repr T.fd_Graph_repr ["self"] (sp_grepr T.C_Graph) := by
  refine T.F_Graph_repr.okG sc_Graph_repr (fun vs H Q E h => ?_) (fun cdv A outer s H vs Q E hr hG h => ?_)
  · obtain ⟨_, _, _, _, _, rfl, _⟩ := h; rfl
  · obtain ⟨p, W, ns, es, hs, rfl, hGr, okN, sub, rep, q⟩ := h
    have okE := G_eok okN sub
    have nmp := pairs_nm okN okE
    have le28 := (sub_ok sub okN.few).2
    obtain ⟨dx, dn, kvs, hp, _⟩ := id hGr
    refine ⟨_, PSs.nox (pss_one (ps_ret (pe_joined (PJ.cons pe_str (PJ.cons (pe_fmtD hG hr.units T.sm (pe_meth0 (pl := _) (pv 0) T.cl_Graph T.m_Graph_names (ok_Graph_names T) (hr.mono (by decide)) (b_Graph_names T) .nil pass0)) (PJ.cons pe_str (PJ.cons (pe_fmtD hG hr.units T.sm (pe_meth0 (pl := _) (pv 0) T.cl_Graph T.m_Graph_edges (ok_Graph_edges T) (hr.mono (by decide)) (b_Graph_edges T) .nil pass0)) (PJ.cons pe_str PJ.nil)))))))), ?_⟩
    have o1 := okd_nms (m := 8) okN.nm okN.few
    have o2 := okd_pss nmp (by rw [List.length_map]; omega)
    have l1 := o1.ln
    have l2 := o2.ln
    have c0 : Str.empty.length = 0 := rfl
    have c1 : (Str.ofString "Graph(").length = 6 := by decide +kernel
    have c2 : (Str.ofString ", ").length = 2 := by decide +kernel
    have c3 : (Str.ofString ")").length = 1 := by decide +kernel
    refine ⟨_, rfl, by rw [app_len, c0, c1, sizeLine_eq]; decide, ?_⟩
    refine ⟨_, rfl, p, dx, _, rfl, hp, gfl_no (by decide +kernel), ?_⟩
    refine ⟨p, W, ns, _, rfl, hGr, fun l nl => ?_⟩
    have s1 : Same H (upd H l (.lst (ns.map V.str))) := Same.new nl
    have hl : upd H l (.lst (ns.map V.str)) l = some (.lst (ns.map V.str)) := upd_same
    generalize upd H l (.lst (ns.map V.str)) = G1 at s1 hl
    refine ⟨_, _, rfl, strs_dx hl, o1.fine (by decide) (by decide), _, rfl, by rw [app_len, app_len, c0, c1, sizeLine_eq]; omega, ?_⟩
    refine ⟨_, rfl, by rw [app_len, app_len, app_len, c0, c1, c2, sizeLine_eq]; omega, ?_⟩
    refine ⟨_, rfl, p, dx, _, rfl, s1 _ _ hp, gfl_no (by decide +kernel), ?_⟩
    refine ⟨[], p, W, ns, _, rfl, Alv.nil, hGr.same s1, okN.nd, okN.few, fun D G4 s4 nD hD => ?_⟩
    rw [edges_eq okN sub rep] at hD
    refine ⟨_, _, rfl, (isD_L isD_ps).dx hD, o2.fine (by decide) (by decide), _, rfl, by rw [app_len, app_len, app_len, app_len, c0, c1, c2, sizeLine_eq]; omega, ?_⟩
    exact ⟨_, rfl, by rw [app_len, app_len, app_len, app_len, app_len, c0, c1, c2, c3, sizeLine_eq]; omega, q _ _ (s1.trans s4)⟩

end K46
namespace K46
open PySem PySem.Spec PyProof.Rows L2 TL
/-! ### a fraction -/
def sp_rinit (K : PySem.W.Frag) (C : Addr) : Sp := fun vs H Q _ => ∃ (x dx : Addr), vs = [.ref x, .int 1, .int 1] ∧ H x = some (.ins C dx []) ∧ ∀ fs, Q .non (upd H x (.ins C dx fs))
theorem ok_Ratio_init {P : Program} {w : World} {K : PySem.W.Frag} {mg : Str → Option Value} {base : Heap} (T : Txt P K mg) : FnOk P w K mg base CX0 2 T.f_Ratio_init T.fd_Ratio_init ["self", "numerator", "denominator"] (sp_rinit K T.C_Ratio) := by
  refine T.F_Ratio_init.ok sc_Ratio_init (fun vs H Q E h => ?_) (fun cdv A outer s H vs Q E hr h => ?_)
  · obtain ⟨_, _, rfl, _⟩ := h; rfl
  · obtain ⟨x, dx, rfl, hx, q⟩ := h
    refine ⟨_, PSs.nox (pss_cons (ps_if (pt_not (pt_val (pe_call (ok_is_any_integer T) (hr.mono (by decide)) (by rfl) T.g_is_any_integer T.F_is_any_integer.kp (b_is_any_integer T) .nil pass0 (pa_cons (pv 1) pa_nil)))) (pss_one ps_never) pss_nil)
      (pss_cons (ps_if (pt_not (pt_val (pe_call (ok_is_any_integer T) (hr.mono (by decide)) (by rfl) T.g_is_any_integer T.F_is_any_integer.kp (b_is_any_integer T) .nil pass0 (pa_cons (pv 2) pa_nil)))) (pss_one ps_never) pss_nil)
      (pss_cons (ps_if (pt_cmpR op_eq (pv 2) pe_int (nomark _)) (pss_one ps_never) pss_nil)
      (pss_cons (ps_set (i := 3) sc_Ratio_init.nd rfl (Or.inl rfl) (pe_callBfun cr_gcd (by rfl) T.g_gcd (pa_cons (pv 1) (pa_cons (pv 2) pa_nil))))
      (pss_cons (ps_if (pt_cmpR op_lt (pv 2) pe_int (nomark _)) (pss_one (ps_set (i := 3) sc_Ratio_init.nd rfl (Or.inl rfl) (pe_un un_neg (pv 3)))) pss_nil)
      (pss_cons (ps_fld (pv 0) (pe_op op_fdivW (pv 1) (pv 3)) rfl)
      (pss_one (ps_fld (pv 0) (pe_op op_fdivW (pv 2) (pv 3)) rfl)))))))), ?_⟩
    repeat (first | refine ⟨_, rfl, ?_⟩ | refine ⟨_, _, rfl, rfl, ?_⟩ | refine ⟨_, _, rfl, ?_⟩ | refine ⟨rfl, ?_⟩)
    refine .inl ⟨1, rfl, ?_⟩
    repeat (first | refine ⟨_, rfl, ?_⟩ | refine ⟨_, _, rfl, rfl, ?_⟩ | refine ⟨_, _, rfl, ?_⟩ | refine ⟨rfl, ?_⟩)
    refine .inl ⟨1, rfl, ?_⟩
    repeat (first | refine ⟨_, rfl, ?_⟩ | refine ⟨_, _, rfl, rfl, ?_⟩ | refine ⟨_, _, rfl, ?_⟩ | refine ⟨rfl, ?_⟩)
    rw [show (((Int.natAbs 1).gcd (Int.natAbs 1) : Nat) : Int) = 1 from rfl]
    have w : CDivW 1 1 := ⟨by decide, by decide⟩
    refine ⟨w, ?_⟩
    repeat (first | refine ⟨_, rfl, ?_⟩ | refine ⟨_, _, rfl, rfl, ?_⟩ | refine ⟨_, _, rfl, ?_⟩ | refine ⟨rfl, ?_⟩)
    refine ⟨x, _, dx, _, rfl, hx, T.cl_Ratio, T.na_Ratio__num, (by decide), ?_⟩
    repeat (first | refine ⟨_, rfl, ?_⟩ | refine ⟨_, _, rfl, rfl, ?_⟩ | refine ⟨_, _, rfl, ?_⟩ | refine ⟨rfl, ?_⟩)
    refine ⟨w, ?_⟩
    repeat (first | refine ⟨_, rfl, ?_⟩ | refine ⟨_, _, rfl, rfl, ?_⟩ | refine ⟨_, _, rfl, ?_⟩ | refine ⟨rfl, ?_⟩)
    refine ⟨x, _, dx, _, rfl, upd_same, T.cl_Ratio, T.na_Ratio__den, (by show 1 < 1000; decide), ?_⟩
    have twice : ∀ fs fs' : List (Str × V), upd (upd H x (.ins T.C_Ratio dx fs)) x (.ins T.C_Ratio dx fs') = upd H x (.ins T.C_Ratio dx fs') := fun n d => by
      funext b
      by_cases hb : b = x
      · rw [hb, upd_same, upd_same]
      · rw [upd_ne hb, upd_ne hb, upd_ne hb]
    rw [twice]
    exact q _

end K46
namespace K46
open PySem PySem.Spec PyProof.Rows L2 TL
/-! ### the law -/
theorem rep_nil {ns : List Str} : Rep ns [] [] := ⟨⟨Nat.zero_le _, fun e he => (by cases he), fun i e h => (by simp at h)⟩, fun i j _ _ => rfl⟩
theorem mkPe {K : PySem.W.Frag} {C : Addr} {H : Hp} {M : List Addr} {Post : Addr → Hp → Prop} {E : XK} {va : V} {e : Addr} {L : List (Str × Int)} {vs dvs : List V} (hA : (sQ sVar).at M H va L) (okL : VarsOk L) (he : EXV.IsE K e)
    (q : ∀ p H', Same H H' → H p = none → (∃ dx fs, H' p = some (.ins C dx fs)) → Post p H') (hv : vs ++ dvs = [va, .ref e] := by rfl) :
    ∀ x dx, H x = none → H dx = none → dx ≠ x → sp_pinit K C (.ref x :: (vs ++ dvs)) (upd (upd H dx (.own x)) x (.ins C dx [])) (fun v H2 => v = .non ∧ Post x H2) E := by
  intro x dx nx ndx ne
  rw [hv]
  obtain ⟨a, xs, ea, na, ha, pa⟩ := hA
  subst ea
  have SqA : Sq K H a xs := ha.imp id .inl
  refine ⟨H, x, dx, a, e, xs, [], L, [], rfl, upd_same, nx, Same.upd_p (Same.new ndx) nx, SqA, Paired.mono (fun _ _ z => (pd_isVar z).old) pa, okL, .inr (.inr ⟨he, rfl⟩), .nil, ⟨Nat.zero_le _, fun _ h => (by cases h), .nil⟩, fun H' s hP => ⟨rfl, q x H' s nx ?_⟩⟩
  obtain ⟨dx, av, ds, dp, ae, dsc, dbt, dn, E, xs, es, hp, _⟩ := hP
  exact ⟨_, _, hp⟩
theorem mkGr {K : PySem.W.Frag} {C : Addr} {H : Hp} {M : List Addr} {Post : Addr → Hp → Prop} {E : XK} {v u : V} {ns : List Str} {hs : List (Str × Str)} {vs dvs : List V} (al : Alv M H) (hv : (sQ sStr).at [] H v ns) (hu : SqE K H u hs) (okN : GNOk ns) (okE : GEOk ns hs)
    (q : ∀ p H', Same H H' → H p = none → (sG C).at M H' (.ref p) (ns, hs) → Post p H') (e : vs ++ dvs = [v, u] := by rfl) :
    ∀ x dx, H x = none → H dx = none → dx ≠ x → sp_ginit K C (.ref x :: (vs ++ dvs)) (upd (upd H dx (.own x)) x (.ins C dx [])) (fun v H2 => v = .non ∧ Post x H2) E := by
  intro x dx nx ndx ne
  rw [e]
  refine ⟨H, x, dx, v, u, ns, hs, rfl, upd_same, nx, Same.upd_p (Same.new ndx) nx, hv, hu, okN, okE, fun H' s hG => ⟨rfl, q x H' s nx ⟨x, rfl, ?_⟩⟩⟩
  obtain ⟨dx, dn, kvs, h1, w1, h2, w2, pd⟩ := hG
  exact ⟨dx, dn, kvs, h1, al.off w1, h2, al.off w2, Paired.mono (fun _ _ ⟨e, a, e2, w, h⟩ => ⟨e, a, e2, al.off w, h⟩) pd⟩
def NoG (K : PySem.W.Frag) (C : Addr) (H : Hp) (v : V) : Prop := ∃ t, TyX K H v t ∧ PySem.W.notFirst K C t = true ∧ PySem.W.kitOne K t (.ref C) = some false
theorem NoG.ty {K : PySem.W.Frag} {C : Addr} (O : OwnC K C) {H : Hp} {v : V} {n : String} (h : TyOf K H v (.type n)) (m : n ∈ tyNames) : NoG K C H v := ⟨_, .base h, O.nf n m, O.fr n m⟩
theorem allW {P : V → Prop} {a : V} (ha : P a) : ∀ d ∈ [a], P d := fun d hd => by
  rw [List.mem_singleton.mp hd]; exact ha
theorem allV {P : V → Prop} {a : V} {l : List V} (ha : P a) (hl : ∀ d ∈ l, P d) : ∀ d ∈ a :: l, P d := fun d hd => (List.mem_cons.mp hd).elim (fun e => e ▸ ha) (hl d)
theorem VarsOk.a : VarsOk [(Str.ofString "a", 2)] := ⟨by decide, by decide, fun x hx => by rw [List.mem_singleton.mp hx]; exact ⟨by decide +kernel, by decide +kernel, by decide +kernel⟩, fun x hx => by rw [List.mem_singleton.mp hx]; exact ⟨by decide, by decide⟩, by simp⟩
theorem GNOk.x : GNOk [Str.ofString "x"] := ⟨by decide, by decide, fun x hx => by rw [List.mem_singleton.mp hx]; exact ⟨by decide +kernel, by decide +kernel, by decide +kernel⟩, by simp⟩
theorem ok_law {P : Program} {w : World} {K : PySem.W.Frag} {mg : Str → Option Value} {base : Heap} (T : Txt P K mg) : FnG P w K mg base CX0 8 T.f_law T.fd_law ["_law_script"] (sp_law K) := by
  refine T.F_law.okG sc_law (fun vs H Q E h => ?_) (fun cdv A outer s H vs Q E hr hG h => ?_)
  · obtain ⟨_, _, rfl, _⟩ := h; rfl
  · obtain ⟨l, ns, rfl, hS, hlen, q⟩ := h
    refine ⟨_, PSs.nox (pss_cons (ps_for PassesOwn.never rfl (pi_range1 (by rfl) T.n_range (pa_cons (pe_callB (call_max2 rfl) (by rfl) T.n_max (by decide +kernel) (pa_cons pe_int (pa_cons (pe_callB (call_min2 rfl) (by rfl) T.n_min (by decide +kernel) (pa_cons (pe_callB (show CallR _ _ (rLenSeq K) from call_len_seq) (by rfl) T.n_len (by decide +kernel) (pa_cons (pv 0) pa_nil)) (pa_cons pe_int pa_nil))) pa_nil))) pa_nil)) (pg_name (i := 1) sc_law.nd rfl (Or.inl rfl)) (Evl.pss_cut (ps_set (i := 2) sc_law.nd rfl (Or.inl rfl) (pe_call (ok_l_box T) (hr.mono (by decide)) (by rfl) T.g_l_box T.F_l_box.kp (b_l_box T) .nil pass0 (pa_cons (pe_call (ok_l_cell T) (hr.mono (by decide)) (by rfl) T.g_l_cell T.F_l_cell.kp (b_l_cell T) .nil pass0 (pa_cons (pv 0) (pa_cons (pv 1) pa_nil))) pa_nil)))
      (Evl.pss_cut (ps_asg (pe_call (ok_l_graph T) (hr.mono (by decide)) (by rfl) T.g_l_graph T.F_l_graph.kp (b_l_graph T) .nil pass0 (pa_cons (pv 2) (pa_cons (pe_op op_add pe_int (pe_call (ok_l_take T) (hr.mono (by decide)) (by rfl) T.g_l_take T.F_l_take.kp (b_l_take T) .nil pass0 (pa_cons (pv 2) (pa_cons pe_int pa_nil)))) pa_nil))) (pg_tup rfl (pgs_cons (pg_name (i := 3) sc_law.nd rfl (Or.inl rfl)) (pgs_cons (pg_name (i := 4) sc_law.nd rfl (Or.inl rfl)) pgs_nil))))
      (pss_cons (ps_set (i := 5) sc_law.nd rfl (Or.inl rfl) (pe_call (ok_l_handed T) (hr.mono (by decide)) (by rfl) T.g_l_handed T.F_l_handed.kp (b_l_handed T) .nil pass0 (pa_cons (pv 2) (pa_cons (pv 3) (pa_cons (pv 4) pa_nil)))))
      (pss_cons (ps_set (i := 6) sc_law.nd rfl (Or.inl rfl) (pe_callTy (show CallR _ _ (rListOf K) from call_list_of) (by rfl) T.n_list (by decide +kernel) (pa_cons (pv 3) pa_nil)))
      (pss_cons (ps_set (i := 7) sc_law.nd rfl (Or.inl rfl) (pe_callB (show CallR _ _ (rReprD K) from call_reprD hG hr.units T.sm) (by rfl) T.n_repr (by decide +kernel) (pa_cons (pv 5) pa_nil)))
      (pss_cons (ps_set (i := 8) sc_law.nd rfl (Or.inl rfl) (pe_makeS T.mk_Graph (ok_Graph_init T) (hr.mono (by decide)) (by rfl) T.g_Graph (b_Graph_init T) .nil passS0 (pa_cons (pv 6) (pa_cons (pv 5) pa_nil))))
      (Evl.pss_cut (ps_set (i := 9) sc_law.nd rfl (Or.inl rfl) (pe_makeS T.mk_Graph (ok_Graph_init T) (hr.mono (by decide)) (by rfl) T.g_Graph (b_Graph_init T) .nil passS0 (pa_cons (pe_callTy (show CallR _ _ (rTupOf K) from call_tuple_of) (by rfl) T.n_tuple (by decide +kernel) (pa_cons (pv 3) pa_nil)) (pa_cons (pe_callTy (show CallR _ _ (rTupOf K) from call_tuple_of) (by rfl) T.n_tuple (by decide +kernel) (pa_cons (pv 5) pa_nil)) pa_nil))))
      (Evl.pss_cut (ps_if (PW.pt (pw_or (pt_cmpR op_ne (pe_callB (show CallR _ _ (rReprD K) from call_reprD hG hr.units T.sm) (by rfl) T.n_repr (by decide +kernel) (pa_cons (pv 5) pa_nil)) (pv 7) (nomark _)) (pw_or1 (pt_cmpR (show OpR _ (compareOp .NotEq) (rNeD K) from op_neD hr.units) (pv 6) (pv 3) (nomark _))))) (pss_one (ps_ret pe_bl)) pss_nil)
      (pss_cons (ps_expr (pe_bm0 PySem.F.plainAttrs_list PySem.F.slot_list_clear PySem.F.type_list_clear mt_clear (pv 5)))
      (Evl.pss_cut (ps_expr (pe_bm0 PySem.F.plainAttrs_list PySem.F.slot_list_clear PySem.F.type_list_clear mt_clear (pv 6)))
      (Evl.pss_cut (ps_if (PW.pt (pw_or (pt_not (pt_val (pe_callG hG (ok_l_told_right T) (hr.mono (by decide)) (by rfl) T.g_l_told_right T.F_l_told_right.kp (b_l_told_right T) .nil pass0 (pa_cons (pv 8) (pa_cons (pv 3) (pa_cons (pv 4) pa_nil)))))) (pw_or1 (pt_not (pt_val (pe_callG hG (ok_l_told_right T) (hr.mono (by decide)) (by rfl) T.g_l_told_right T.F_l_told_right.kp (b_l_told_right T) .nil pass0 (pa_cons (pv 9) (pa_cons (pv 3) (pa_cons (pv 4) pa_nil))))))))) (pss_one (ps_ret pe_bl)) pss_nil)
      (Evl.pss_cut (ps_if (PW.pt (pw_or (pt_not (pt_val (pe_call (ok_l_equal_right T) (hr.mono (by decide)) (by rfl) T.g_l_equal_right T.F_l_equal_right.kp (b_l_equal_right T) .nil pass0 (pa_cons (pv 2) (pa_cons (pv 8) (pa_cons (pv 3) (pa_cons (pv 4) pa_nil))))))) (pw_or1 (PW.pt (pw_and (pt_cmpR (show OpR _ (compareOp .Eq) (rEqD K) from op_eqD hr.units) (pv 4) (pe_lst pa_nil) (nomark _)) (pw_and1 (pt_not (pt_cmpR (show OpR _ (compareOp .Eq) (rEqX K T.C_Graph _ E0) from op_eqX (ok_Graph_eq T) (hr.mono (by decide)) (b_Graph_eq T) pass0 T.m_Graph_eq.found T.m_Graph_eq.fn) (pv 8) (pe_makeS T.mk_Graph (ok_Graph_init T) (hr.mono (by decide)) (by rfl) T.g_Graph (b_Graph_init_1 T).choose_spec.2 (b_Graph_init_1 T).choose_spec.1 passS0 (pa_cons (pv 3) pa_nil)) (nomark _))))))))) (pss_one (ps_ret pe_bl)) pss_nil)
      (Evl.pss_cut (ps_if (pt_not (pt_val (pe_callB (show CallR _ _ (rIsi K) from call_isi) (by rfl) T.n_isinstance (by decide +kernel) (pa_cons (pe_callB (show CallR _ _ (rStrX T.C_Graph _ E0) from call_reprX hG (ok_Graph_repr T) (hr.mono (by decide)) (b_Graph_repr T) pass0 T.m_Graph_repr.found T.m_Graph_repr.fn) (by rfl) T.n_repr (by decide +kernel) (pa_cons (pv 8) pa_nil)) (pa_cons (pe_bltn (v := .ty "str") (by rfl) T.n_str (by decide +kernel) rfl) pa_nil))))) (pss_one (ps_ret pe_bl)) pss_nil)
      (pss_one (ps_for PassesOwn.never rfl (pi_list (pe_lst (pa_cons pe_non (pa_cons pe_int (pa_cons pe_bl (pa_cons pe_str (pa_cons pe_dnewK (pa_cons (pe_tup pa_nil) (pa_cons (pe_tup (pa_cons (pv 3) (pa_cons (pv 4) pa_nil))) (pa_cons (pv 3) (pa_cons (pe_makeS T.mk_Ratio (ok_Ratio_init T) (hr.mono (by decide)) (by rfl) T.g_Ratio (b_Ratio_init_1 T).choose_spec.2 (b_Ratio_init_1 T).choose_spec.1 passS0 (pa_cons pe_int pa_nil)) (pa_cons (pe_makeS T.mk_Problem (ok_Problem_init T) (hr.mono (by decide)) (by rfl) T.g_Problem (b_Problem_init_1 T).choose_spec.2 (b_Problem_init_1 T).choose_spec.1 passS0 (pa_cons (pe_lst (pa_cons (pe_tup (pa_cons pe_str (pa_cons pe_int pa_nil))) pa_nil)) pa_nil)) pa_nil)))))))))))) (pg_name (i := 10) sc_law.nd rfl (Or.inl rfl)) (pss_one (ps_if (PW.pt (pw_or (pt_cmpR (show OpR _ (compareOp .Eq) (rEqX K T.C_Graph _ E0) from op_eqX (ok_Graph_eq T) (hr.mono (by decide)) (b_Graph_eq T) pass0 T.m_Graph_eq.found T.m_Graph_eq.fn) (pv 8) (pv 10) (nomark _)) (pw_or1 (pt_not (pt_cmpR (show OpR _ (compareOp .NotEq) (rNeX K T.C_Graph _ E0) from op_neX (ok_Graph_eq T) (hr.mono (by decide)) (b_Graph_eq T) pass0 T.ow_Graph.ne T.ow_Graph.ob T.m_Graph_eq.found T.m_Graph_eq.fn) (pv 8) (pv 10) (nomark _)))))) (pss_one (ps_ret pe_bl)) pss_nil))))))))))))))))))
      (pss_one (ps_ret (pe_callB (show CallR _ _ (rIsi K) from call_isi) (by rfl) T.n_isinstance (by decide +kernel) (pa_cons (pe_callB (show CallR _ _ (rStrX T.C_Graph _ E0) from call_reprX hG (ok_Graph_repr T) (hr.mono (by decide)) (b_Graph_repr T) pass0 T.m_Graph_repr.found T.m_Graph_repr.fn) (by rfl) T.n_repr (by decide +kernel) (pa_cons (pe_makeS T.mk_Graph (ok_Graph_init T) (hr.mono (by decide)) (by rfl) T.g_Graph (b_Graph_init_1 T).choose_spec.2 (b_Graph_init_1 T).choose_spec.1 passS0 (pa_cons (pe_lst (pa_cons pe_str pa_nil)) pa_nil)) pa_nil)) (pa_cons (pe_bltn (v := .ty "str") (by rfl) T.n_str (by decide +kernel) rfl) pa_nil)))))), ?_⟩
    refine ⟨_, rfl, l, _, rfl, .inl hS, _, _, rfl, _, _, rfl, _, rfl, ?_, ?_, for_it walk_range (fun i σ H' => Same H H' ∧ ∃ x1 x2 x3 x4 x5 x6 x7 x8 x9 x10 : Option V, σ = [some (.ref l), x1, x2, x3, x4, x5, x6, x7, x8, x9, x10]) ⟨Same.refl H, _, _, _, _, _, _, _, _, _, _, rfl⟩ (fun _ _ _ _ _ => trivial) (fun i x σ H' H'' hi' pp yy => ?_) fun σ H' pp => ?_⟩
    · split <;> omega
    · rw [List.length_map]; split <;> split <;> omega
    rotate_left
    · obtain ⟨S0, x1, x2, x3, x4, x5, x6, x7, x8, x9, x10, rfl⟩ := pp
      --[[
      repeat (first | refine ⟨_, rfl, ?_⟩ | refine ⟨_, _, rfl, rfl, ?_⟩ | refine ⟨_, _, rfl, ?_⟩ | refine ⟨rfl, ?_⟩)
      refine ⟨lenk 1 rfl (by decide), fun L1 nL => ?_⟩
      have s1 : Same H' (upd H' L1 (.lst [.str (Str.ofString "x")])) := Same.new nL
      have hL : (sQ sStr).at [] (upd H' L1 (.lst [.str (Str.ofString "x")])) (.ref L1) [Str.ofString "x"] := ⟨L1, _, rfl, by simp, .inl upd_same, pd_strs (ns := [Str.ofString "x"])⟩
      generalize upd H' L1 (.lst [.str (Str.ofString "x")]) = G1 at s1 hL
      refine mkGs (ns := [Str.ofString "x"]) (hs := []) Alv.nil hL ⟨T.e1, [], rfl, .inr (.inr ⟨T.t_e1, rfl⟩), .nil⟩ GNOk.x rep_nil.1 fun p G2 s2 np hp => ?_
      obtain ⟨p0, e0, hG0⟩ := sG_parts hp
      cases e0
      obtain ⟨dx, dn, kvs, hpp, _⟩ := id hG0
      refine ⟨p, dx, _, rfl, hpp, ⟨p, _, _, [], [], rfl, hG0, GNOk.x, List.nil_sublist _, rep_nil, fun z H3 s3 => ?_⟩⟩
      refine ⟨_, rfl, ?_⟩
      repeat (first | refine ⟨_, rfl, ?_⟩ | refine ⟨_, _, rfl, rfl, ?_⟩ | refine ⟨_, _, rfl, ?_⟩ | refine ⟨rfl, ?_⟩)
      refine ⟨.str z, .ty "str", _, _, _, rfl, .ty _, .base (.str _), kit_ss, ?_⟩
      exact q _
      --]]
    obtain ⟨S0, x1, x2, x3, x4, x5, x6, x7, x8, x9, x10, rfl⟩ := pp
    obtain ⟨rfl, rfl⟩ := yy
    refine ⟨fun σ G => ∃ b : Addr, σ = [some (.ref l), some (.int (0 + (i : Int))), some (.ref b), x3, x4, x5, x6, x7, x8, x9, x10] ∧ Same H G ∧ H b = none ∧ Bag G b 0, ?_, ?_⟩
    --[[
    · refine ⟨_, rfl, _, rfl, l, ns, _, rfl, (Kp.at fun o e => S0 l o e).1 _ hS, by omega, fun cv => ?_⟩
      refine ⟨_, rfl, fun b H1 s1 nb hB => ?_⟩
      exact ⟨b, rfl, S0.trans s1, Same.none S0 nb, hB⟩
    --]]
    rintro σ G ⟨b, rfl, S1, nbH, hB⟩
    have bst : ∀ {G G' : Hp}, Same H G → Stp [b] G G' → Same H G' := fun {G G'} z st a o e => st.at (z a o e) fun m => ne_of_none e nbH (List.mem_singleton.mp m)
    have mb : b ∈ [b] := List.mem_singleton.mpr rfl
    have albag : ∀ {G : Hp} {n : Nat}, Bag G b n → Alv [b] G := fun {G n} z => Alv.cons z.some.choose_spec Alv.nil
    refine ⟨fun σ G => ∃ (an : Addr) (v4 : V) (ns : List Str) (es : List (Nat × Nat)), σ = [some (.ref l), some (.int (0 + (i : Int))), some (.ref b), some (.ref an), some v4, x5, x6, x7, x8, x9, x10] ∧ Same H G ∧ Bag G b 300 ∧ (sL sStr).at [b] G (.ref an) ns ∧ (sL sNN).at [b] G v4 es ∧ GNOk ns ∧ es.Sublist (allP ns.length), ?_, ?_⟩
    --[[
    · repeat (first | refine ⟨_, rfl, ?_⟩ | refine ⟨_, _, rfl, rfl, ?_⟩ | refine ⟨_, _, rfl, ?_⟩ | refine ⟨rfl, ?_⟩)
      refine ⟨b, 0, 8, rfl, hB, by omega, by decide, by decide, fun c0 G1 f1 b1 c00 c08 => ?_⟩
      have st1 : Stp [b] G G1 := f1.stp b1.some
      repeat (first | refine ⟨_, rfl, ?_⟩ | refine ⟨_, _, rfl, rfl, ?_⟩ | refine ⟨_, _, rfl, ?_⟩ | refine ⟨rfl, ?_⟩)
      obtain ⟨c, rfl⟩ : ∃ c : Nat, c0 = (c : Nat) := ⟨c0.toNat, by omega⟩
      dsimp only [tNil]
      refine ⟨[b], b, _, 1 + c, by show [V.ref b, V.int (1 + (c : Int))] = _; rw [show (1 : Int) + (c : Int) = ((1 + c : Nat) : Int) by omega], mb, albag b1, b1, by omega, by omega, by omega, fun w ns es G2 s2 b2 hw okN lN sub => ?_⟩
      obtain ⟨t, v3, v4, rfl, nt, ht, h3, h4⟩ := hw
      obtain ⟨an, rfl, nan, han⟩ := Sh.strs h3
      refine ⟨t, _, rfl, .inl (.inl ht), rfl, _, _, rfl, ?_⟩
      repeat (first | refine ⟨_, rfl, ?_⟩ | refine ⟨_, _, rfl, rfl, ?_⟩ | refine ⟨_, _, rfl, ?_⟩ | refine ⟨rfl, ?_⟩)
      exact ⟨an, v4, ns, es, rfl, bst (bst S1 st1) s2, b2.mono (by omega), h3, h4, okN, by rw [lN]; exact sub⟩
    --]]
    clear hB S1
    rintro σ G ⟨an, v4, ms, es, rfl, S2, b3, hN, hE, okN, sub⟩
    have okE := G_eok okN sub
    have le28 := (sub_ok sub okN.few).2
    repeat (first | refine ⟨_, rfl, ?_⟩ | refine ⟨_, _, rfl, rfl, ?_⟩ | refine ⟨_, _, rfl, ?_⟩ | refine ⟨rfl, ?_⟩)
    refine ⟨[b], b, 300, .ref an, v4, ms, es, rfl, mb, albag b3, b3, by omega, hN, hE, okN, okE, fun w hs G1 s1 b4 hw rep lh nw => ?_⟩
    obtain ⟨a5, ws, rfl, n5b, h5, p5⟩ := id hw
    have n5 : G a5 = none := nw _ rfl
    have n5H : H a5 = none := Same.none S2 n5
    have S3 := bst S2 s1
    have al4 : Alv [a5, b] G1 := Alv.cons h5 ((albag b3).go s1)
    replace hN := Sh.go (M' := [a5, b]) hN s1 (Sb.one mb) (Sb.new n5 Sb.refl)
    replace hE := Sh.go (M' := [a5, b]) hE s1 (Sb.one mb) (Sb.new n5 Sb.refl)
    clear b3 S2 s1 nw
    repeat (first | refine ⟨_, rfl, ?_⟩ | refine ⟨_, _, rfl, rfl, ?_⟩ | refine ⟨_, _, rfl, ?_⟩ | refine ⟨rfl, ?_⟩)
    obtain ⟨_, ean, nan, hNl⟩ := Sh.strs hN
    cases ean
    refine ⟨an, _, rfl, .inl (SqL.of hNl), fun a6 n6 => ?_⟩
    have s2 : Same G1 (upd G1 a6 (.lst (ms.map V.str))) := Same.new n6
    have h6 : upd G1 a6 (.lst (ms.map V.str)) a6 = some (.lst (ms.map V.str)) := upd_same
    have n6H : H a6 = none := Same.none S3 n6
    have n6M := al4.off n6
    generalize upd G1 a6 (.lst (ms.map V.str)) = G2 at s2 h6
    have st2 : Stp [] G1 G2 := Stp.of_same s2
    have al : Alv [a6, a5, b] G2 := Alv.cons h6 (al4.go st2)
    replace hN := Sh.go (M' := [a6, a5, b]) hN st2 Sb.nil (Sb.new n6 Sb.refl)
    replace hE := Sh.go (M' := [a6, a5, b]) hE st2 Sb.nil (Sb.new n6 Sb.refl)
    replace hw := Sh.go hw st2 Sb.nil Sb.refl
    replace b4 := b4.same s2
    replace S3 := S3.trans s2
    replace h5 := s2 _ _ h5
    replace hNl := s2 _ _ hNl
    clear s2 st2 n6 al4
    have hDx : Dx K G2 (.ref a5) (.list (hs.map psD)) := (isD_L isD_ps).dx hw
    have nmh : ∀ e ∈ hs, NameOk e.1 ∧ NameOk e.2 := fun e he => ⟨okN.nm _ (rep.1.sub e he).1, okN.nm _ (rep.1.sub e he).2.1⟩
    have fD : Fine (.list (hs.map psD)) := (okd_pss nmh (by omega)).fine (by decide) (by decide)
    repeat (first | refine ⟨_, rfl, ?_⟩ | refine ⟨_, _, rfl, rfl, ?_⟩ | refine ⟨_, _, rfl, ?_⟩ | refine ⟨rfl, ?_⟩)
    refine ⟨.ref a5, .list (hs.map psD), rfl, hDx, fD, ?_⟩
    obtain ⟨TX, eTX⟩ : ∃ TX, PyData.shown (.list (hs.map psD)) = TX := ⟨_, rfl⟩
    rw [eTX]
    repeat (first | refine ⟨_, rfl, ?_⟩ | refine ⟨_, _, rfl, rfl, ?_⟩ | refine ⟨_, _, rfl, ?_⟩ | refine ⟨rfl, ?_⟩)
    have hwE : SqE K G2 (.ref a5) hs := SqE.of (Sh.sq hw)
    refine mkGr al (ns := ms) (hs := hs) ⟨a6, _, rfl, by simp, .inl h6, pd_strs⟩ hwE okN rep.1 fun p8 G3 s3 np8 hg8 => ?_
    have st3 : Stp [] G2 G3 := Stp.of_same s3
    refine ⟨fun σ G => ∃ (p9 : Addr), σ = [some (.ref l), some (.int (0 + (i : Int))), some (.ref b), some (.ref an), some v4, some (.ref a5), some (.ref a6), some (.str TX), some (.ref p8), some (.ref p9), x10] ∧ Same H G ∧ Bag G b 400 ∧ Alv [a6, a5, b] G ∧ (sL sStr).at [a6, a5, b] G (.ref an) ms ∧ (sL sNN).at [a6, a5, b] G v4 es ∧ (sG T.C_Graph).at [a6, a5, b] G (.ref p8) (ms, hs) ∧ (sG T.C_Graph).at [a6, a5, b] G (.ref p9) (ms, hs) ∧ G a6 = some (.lst (ms.map V.str)) ∧ (sL sPS).at [b] G (.ref a5) hs, ?_, ?_⟩
    · repeat (first | refine ⟨_, rfl, ?_⟩ | refine ⟨_, _, rfl, rfl, ?_⟩ | refine ⟨_, _, rfl, ?_⟩ | refine ⟨rfl, ?_⟩)
      replace hN := Sh.go hN st3 Sb.nil Sb.refl
      replace hE := Sh.go hE st3 Sb.nil Sb.refl
      replace hw := Sh.go hw st3 Sb.nil Sb.refl
      replace al := al.go st3
      replace b4 := b4.same s3
      replace S3 := S3.trans s3
      replace h6 := s3 _ _ h6
      replace h5 := s3 _ _ h5
      replace hNl := s3 _ _ hNl
      clear s3 st3 hwE hDx
      refine ⟨an, _, rfl, .inl ⟨SqL.of hNl, fun t nt => ?_⟩⟩
      have s4 : Same G3 (upd G3 t (.tup (ms.map V.str))) := Same.new nt
      have ht : upd G3 t (.tup (ms.map V.str)) t = some (.tup (ms.map V.str)) := upd_same
      generalize upd G3 t (.tup (ms.map V.str)) = G4 at s4 ht
      repeat (first | refine ⟨_, rfl, ?_⟩ | refine ⟨_, _, rfl, rfl, ?_⟩ | refine ⟨_, _, rfl, ?_⟩ | refine ⟨rfl, ?_⟩)
      refine ⟨a5, _, rfl, .inl ⟨SqL.of (s4 _ _ h5), fun t2 nt2 => ?_⟩⟩
      have s5 : Same G4 (upd G4 t2 (.tup ws)) := Same.new nt2
      have st35 : Stp [] G3 (upd G4 t2 (.tup ws)) := Stp.of_same (s4.trans s5)
      have hwT : SqE K (upd G4 t2 (.tup ws)) (.ref t2) hs := by
        obtain ⟨_, ws', e, n, h, pd⟩ := hw
        cases e
        rw [h5] at h
        cases h
        exact SqE.of (M := []) ⟨t2, ws, rfl, by simp, .inr upd_same, Sh.gos (Paired.mapP pd fun _ _ z => Sh.all z) st35 Sb.nil Sb.refl⟩
      have ht2 := s5 _ _ ht
      generalize upd G4 t2 (.tup ws) = G5 at s5 hwT st35 ht2
      repeat (first | refine ⟨_, rfl, ?_⟩ | refine ⟨_, _, rfl, rfl, ?_⟩ | refine ⟨_, _, rfl, ?_⟩ | refine ⟨rfl, ?_⟩)
      refine mkGr (al.go st35) (ns := ms) (hs := hs) ⟨t, _, rfl, by simp, .inr ht2, pd_strs⟩ hwT okN rep.1 fun p9 G6 s6 np9 hg9 => ?_
      have st36 : Stp [] G3 G6 := st35.trans (Stp.of_same s6)
      repeat (first | refine ⟨_, rfl, ?_⟩ | refine ⟨_, _, rfl, rfl, ?_⟩ | refine ⟨_, _, rfl, ?_⟩ | refine ⟨rfl, ?_⟩)
      exact ⟨S3.trans st36.same, b4.same st36.same, al.go st36, Sh.go hN st36 Sb.nil Sb.refl, Sh.go hE st36 Sb.nil Sb.refl, Sh.go hg8 st36 Sb.nil Sb.refl, hg9, st36.same _ _ h6, Sh.go hw st36 Sb.nil Sb.refl⟩
    clear hN hE hw al b4 S3 h6 h5 hNl st3 s3 hDx hwE p5
    rintro σ G ⟨p9, rfl, S2, b3, al, hN, hE, hg8, hg9, h6, hw⟩
    refine ⟨fun σ G' => σ = [some (.ref l), some (.int (0 + (i : Int))), some (.ref b), some (.ref an), some v4, some (.ref a5), some (.ref a6), some (.str TX), some (.ref p8), some (.ref p9), x10] ∧ G' = G, ?_, ?_⟩
    · repeat (first | refine ⟨_, rfl, ?_⟩ | refine ⟨_, _, rfl, rfl, ?_⟩ | refine ⟨_, _, rfl, ?_⟩ | refine ⟨rfl, ?_⟩)
      have hDx : Dx K G (.ref a5) (.list (hs.map psD)) := (isD_L isD_ps).dx hw
      refine ⟨.ref a5, .list (hs.map psD), rfl, hDx, fD, ?_⟩
      rw [eTX]
      repeat (first | refine ⟨_, rfl, ?_⟩ | refine ⟨_, _, rfl, rfl, ?_⟩ | refine ⟨_, _, rfl, ?_⟩ | refine ⟨rfl, ?_⟩)
      refine ite2 (fun z => (by simp at z)) (fun _ => ?_)
      repeat (first | refine ⟨_, rfl, ?_⟩ | refine ⟨_, _, rfl, rfl, ?_⟩ | refine ⟨_, _, rfl, ?_⟩ | refine ⟨rfl, ?_⟩)
      obtain ⟨_, ean, nan, hNl⟩ := Sh.strs hN
      cases ean
      have shs := shd_strs' okN.nm
      refine ⟨.list (ms.map PyData.str), .list (ms.map PyData.str), .lst (SqL.of h6) (dp_strs _), .lst (SqL.of hNl) (dp_strs _), shs, shs, ?_⟩
      rw [eqv_strs, decide_eq_true rfl]
      repeat (first | refine ⟨_, rfl, ?_⟩ | refine ⟨_, _, rfl, rfl, ?_⟩ | refine ⟨_, _, rfl, ?_⟩ | refine ⟨rfl, ?_⟩)
      exact rfl
    rintro σ G' ⟨rfl, rfl⟩
    repeat (first | refine ⟨_, rfl, ?_⟩ | refine ⟨_, _, rfl, rfl, ?_⟩ | refine ⟨_, _, rfl, ?_⟩ | refine ⟨rfl, ?_⟩)
    obtain ⟨_, ws', e, _, h5, pw⟩ := id hw
    cases e
    refine ⟨.inl ⟨rfl, _, SqL.of h5⟩, a5, _, rfl, rfl, h5, ?_⟩
    have m5 : a5 ∈ [a6, a5, b] := by simp
    have m6 : a6 ∈ [a6, a5, b] := by simp
    have n65 : a6 ≠ a5 := fun e => n6M (by rw [e]; simp)
    have n5b' : b ≠ a5 := fun e => n5b (by rw [e]; simp)
    have n6b' : b ≠ a6 := fun e => n6M (by rw [← e]; simp)
    have st5 : Stp [a5] G' (upd G' a5 (.lst [])) := Stp.put (by simp)
    have S3 : Same H (upd G' a5 (.lst [])) := Same.upd_p S2 n5H
    have b4 := b3.upd (o := .lst []) n5b'
    replace h6 : upd G' a5 (.lst []) a6 = some (.lst (ms.map V.str)) := by rw [upd_ne n65]; exact h6
    replace hN := Sh.go hN st5 (Sb.one m5) Sb.refl
    replace hE := Sh.go hE st5 (Sb.one m5) Sb.refl
    replace hg8 := Sh.go hg8 st5 (Sb.one m5) Sb.refl
    replace hg9 := Sh.go hg9 st5 (Sb.one m5) Sb.refl
    replace al := al.go st5
    clear h5 pw hw st5 S2 b3
    generalize upd G' a5 (.lst []) = G at S3 b4 h6 hN hE hg8 hg9 al
    refine ⟨fun σ G => σ = [some (.ref l), some (.int (0 + (i : Int))), some (.ref b), some (.ref an), some v4, some (.ref a5), some (.ref a6), some (.str TX), some (.ref p8), some (.ref p9), x10] ∧ Same H G ∧ Bag G b 400 ∧ Alv [a6, a5, b] G ∧ (sL sStr).at [a6, a5, b] G (.ref an) ms ∧ (sL sNN).at [a6, a5, b] G v4 es ∧ (sG T.C_Graph).at [a6, a5, b] G (.ref p8) (ms, hs) ∧ (sG T.C_Graph).at [a6, a5, b] G (.ref p9) (ms, hs), ?_, ?_⟩
    · repeat (first | refine ⟨_, rfl, ?_⟩ | refine ⟨_, _, rfl, rfl, ?_⟩ | refine ⟨_, _, rfl, ?_⟩ | refine ⟨rfl, ?_⟩)
      have st6 : Stp [a6] G (upd G a6 (.lst [])) := Stp.put (by simp)
      refine ⟨.inl ⟨rfl, _, SqL.of h6⟩, a6, _, rfl, rfl, h6, ?_⟩
      repeat (first | refine ⟨_, rfl, ?_⟩ | refine ⟨_, _, rfl, rfl, ?_⟩ | refine ⟨_, _, rfl, ?_⟩ | refine ⟨rfl, ?_⟩)
      exact ⟨Same.upd_p S3 n6H, b4.upd n6b', al.go st6, Sh.go hN st6 (Sb.one m6) Sb.refl, Sh.go hE st6 (Sb.one m6) Sb.refl, Sh.go hg8 st6 (Sb.one m6) Sb.refl, Sh.go hg9 st6 (Sb.one m6) Sb.refl⟩
    clear hN hE hg8 hg9 al b4 S3 h6
    rintro σ G ⟨rfl, S2, b3, al, hN, hE, hg8, hg9⟩
    refine ⟨fun σ G => σ = [some (.ref l), some (.int (0 + (i : Int))), some (.ref b), some (.ref an), some v4, some (.ref a5), some (.ref a6), some (.str TX), some (.ref p8), some (.ref p9), x10] ∧ Same H G ∧ Bag G b 400 ∧ Alv [a6, a5, b] G ∧ (sL sStr).at [a6, a5, b] G (.ref an) ms ∧ (sL sNN).at [a6, a5, b] G v4 es ∧ (sG T.C_Graph).at [a6, a5, b] G (.ref p8) (ms, hs), ?_, ?_⟩
    · repeat (first | refine ⟨_, rfl, ?_⟩ | refine ⟨_, _, rfl, rfl, ?_⟩ | refine ⟨_, _, rfl, ?_⟩ | refine ⟨rfl, ?_⟩)
      refine ⟨.ref p8, .ref an, v4, ms, es, hs, rfl, Sh.all hg8, Sh.all hN, Sh.all hE, okN, sub, rep, fun G1 s1 => ?_⟩
      have st1 : Stp [] G G1 := Stp.of_same s1
      repeat (first | refine ⟨_, rfl, ?_⟩ | refine ⟨_, _, rfl, rfl, ?_⟩ | refine ⟨_, _, rfl, ?_⟩ | refine ⟨rfl, ?_⟩)
      refine ⟨.ref p9, .ref an, v4, ms, es, hs, rfl, Sh.all (Sh.go hg9 st1 Sb.nil Sb.refl), Sh.all (Sh.go hN st1 Sb.nil Sb.refl), Sh.all (Sh.go hE st1 Sb.nil Sb.refl), okN, sub, rep, fun G2 s2 => ?_⟩
      have s12 := s1.trans s2
      have st2 : Stp [] G G2 := Stp.of_same s12
      repeat (first | refine ⟨_, rfl, ?_⟩ | refine ⟨_, _, rfl, rfl, ?_⟩ | refine ⟨_, _, rfl, ?_⟩ | refine ⟨rfl, ?_⟩)
      exact ⟨S2.trans s12, b3.same s12, al.go st2, Sh.go hN st2 Sb.nil Sb.refl, Sh.go hE st2 Sb.nil Sb.refl, Sh.go hg8 st2 Sb.nil Sb.refl⟩
    clear hN hE hg8 hg9 al b3 S2
    rintro σ G ⟨rfl, S2, b3, al, hN, hE, hg8⟩
    refine ⟨fun σ G => σ = [some (.ref l), some (.int (0 + (i : Int))), some (.ref b), some (.ref an), some v4, some (.ref a5), some (.ref a6), some (.str TX), some (.ref p8), some (.ref p9), x10] ∧ Same H G ∧ Alv [a6, a5, b] G ∧ (sL sStr).at [a6, a5, b] G (.ref an) ms ∧ (sL sNN).at [a6, a5, b] G v4 es ∧ (sG T.C_Graph).at [a6, a5, b] G (.ref p8) (ms, hs), ?_, ?_⟩
    · repeat (first | refine ⟨_, rfl, ?_⟩ | refine ⟨_, _, rfl, rfl, ?_⟩ | refine ⟨_, _, rfl, ?_⟩ | refine ⟨rfl, ?_⟩)
      refine ⟨[a6, a5, b], b, p8, 400, .ref an, v4, ms, hs, es, rfl, by simp, by omega, ⟨Stp.refl, b3, al, hg8, hN, hE⟩, okN, sub, rep, fun G1 st1 b4 => ?_⟩
      have mb' : b ∈ [a6, a5, b] := by simp
      replace S2 := bst S2 st1
      replace hN := Sh.go hN st1 (Sb.one mb') Sb.refl
      replace hE := Sh.go hE st1 (Sb.one mb') Sb.refl
      replace hg8 := Sh.go hg8 st1 (Sb.one mb') Sb.refl
      replace al := al.go st1
      repeat (first | refine ⟨_, rfl, ?_⟩ | refine ⟨_, _, rfl, rfl, ?_⟩ | refine ⟨_, _, rfl, ?_⟩ | refine ⟨rfl, ?_⟩)
      refine ⟨lenk 0 rfl (by decide), fun e1 n1 => ?_⟩
      have s2 : Same G1 (upd G1 e1 (.lst [])) := Same.new n1
      have he1 : upd G1 e1 (.lst []) e1 = some (.lst []) := upd_same
      generalize upd G1 e1 (.lst []) = G2 at s2 he1
      have st2 : Stp [] G1 G2 := Stp.of_same s2
      replace S2 := S2.trans s2
      replace hN := Sh.go hN st2 Sb.nil Sb.refl
      replace hE := Sh.go hE st2 Sb.nil Sb.refl
      replace hg8 := Sh.go hg8 st2 Sb.nil Sb.refl
      replace al := al.go st2
      obtain ⟨ae, xs, rfl, nae, hEl, pE⟩ := id hE
      refine ⟨_, _, es_dp hEl pE, .lst (SqL.of he1) .nil, (shd_tups (es.map eL)).shaped (by decide), nil_shaped, ?_⟩
      rw [eqv_nilG]
      cases es with
      | cons e0 et =>
        repeat (first | refine ⟨_, rfl, ?_⟩ | refine ⟨_, _, rfl, rfl, ?_⟩ | refine ⟨_, _, rfl, ?_⟩ | refine ⟨rfl, ?_⟩)
        exact ⟨S2, al, hN, hE, hg8⟩
      | nil =>
        rw [List.map_nil, List.map_nil]
        repeat (first | refine ⟨_, rfl, ?_⟩ | refine ⟨_, _, rfl, rfl, ?_⟩ | refine ⟨_, _, rfl, ?_⟩ | refine ⟨rfl, ?_⟩)
        refine mkGr al (ns := ms) (hs := []) (Sh.all (Sh.sq hN)) ⟨T.e1, [], rfl, .inr (.inr ⟨T.t_e1, rfl⟩), .nil⟩ okN rep_nil.1 fun p G3 s3 np hp => ?_
        have st3 : Stp [] G2 G3 := Stp.of_same s3
        replace hg8 := Sh.go hg8 st3 Sb.nil Sb.refl
        repeat (first | refine ⟨_, rfl, ?_⟩ | refine ⟨_, _, rfl, rfl, ?_⟩ | refine ⟨_, _, rfl, ?_⟩ | refine ⟨rfl, ?_⟩)
        refine geq_ask T.ow_Graph hg8 hp okN okN fun G4 s4 => ?_
        rw [same_yes rep rep_nil]
        have st4 : Stp [] G2 G4 := Stp.of_same (s3.trans s4)
        repeat (first | refine ⟨_, rfl, ?_⟩ | refine ⟨_, _, rfl, rfl, ?_⟩ | refine ⟨_, _, rfl, ?_⟩ | refine ⟨rfl, ?_⟩)
        exact ⟨S2.trans st4.same, al.go st4, Sh.go hN st4 Sb.nil Sb.refl, Sh.go hE st4 Sb.nil Sb.refl, Sh.go hg8 (Stp.of_same (m := []) s4) Sb.nil Sb.refl⟩
    clear hN hE hg8 al b3 S2
    rintro σ G ⟨rfl, S2, al, hN, hE, hg8⟩
    refine ⟨fun σ G => σ = [some (.ref l), some (.int (0 + (i : Int))), some (.ref b), some (.ref an), some v4, some (.ref a5), some (.ref a6), some (.str TX), some (.ref p8), some (.ref p9), x10] ∧ Same H G ∧ Alv [a6, a5, b] G ∧ (sL sStr).at [a6, a5, b] G (.ref an) ms ∧ (sL sNN).at [a6, a5, b] G v4 es ∧ (sG T.C_Graph).at [a6, a5, b] G (.ref p8) (ms, hs), ?_, ?_⟩
    · repeat (first | refine ⟨_, rfl, ?_⟩ | refine ⟨_, _, rfl, rfl, ?_⟩ | refine ⟨_, _, rfl, ?_⟩ | refine ⟨rfl, ?_⟩)
      obtain ⟨p0, e0, hG0⟩ := sG_parts hg8
      cases e0
      obtain ⟨dx, dn, kvs, hpp, _⟩ := id hG0
      refine ⟨p8, dx, _, rfl, hpp, ⟨p8, _, ms, es, hs, rfl, hG0, okN, sub, rep, fun z H3 s3 => ?_⟩⟩
      have st3 : Stp [] G H3 := Stp.of_same s3
      refine ⟨_, rfl, ?_⟩
      repeat (first | refine ⟨_, rfl, ?_⟩ | refine ⟨_, _, rfl, rfl, ?_⟩ | refine ⟨_, _, rfl, ?_⟩ | refine ⟨rfl, ?_⟩)
      refine ⟨.str z, .ty "str", _, _, _, rfl, .ty _, .base (.str _), kit_ss, ?_⟩
      repeat (first | refine ⟨_, rfl, ?_⟩ | refine ⟨_, _, rfl, rfl, ?_⟩ | refine ⟨_, _, rfl, ?_⟩ | refine ⟨rfl, ?_⟩)
      exact ⟨S2.trans s3, al.go st3, Sh.go hN st3 Sb.nil Sb.refl, Sh.go hE st3 Sb.nil Sb.refl, Sh.go hg8 st3 Sb.nil Sb.refl⟩
    clear hN hE hg8 al S2
    rintro σ G ⟨rfl, S2, al, hN, hE, hg8⟩
    repeat (first | refine ⟨_, rfl, ?_⟩ | refine ⟨_, _, rfl, rfl, ?_⟩ | refine ⟨_, _, rfl, ?_⟩ | refine ⟨rfl, ?_⟩)
    intro e2 n2
    have s1 : Same G (upd G e2 (.dK [])) := Same.new n2
    have h2 : upd G e2 (.dK []) e2 = some (.dK []) := upd_same
    generalize upd G e2 (.dK []) = G1 at s1 h2
    repeat (first | refine ⟨_, rfl, ?_⟩ | refine ⟨_, _, rfl, rfl, ?_⟩ | refine ⟨_, _, rfl, ?_⟩ | refine ⟨rfl, ?_⟩)
    refine ⟨lenk 0 rfl (by decide), fun e3 n3 => ?_⟩
    have s2 : Same G1 (upd G1 e3 (.tup [])) := Same.new n3
    have h3 : upd G1 e3 (.tup []) e3 = some (.tup []) := upd_same
    generalize upd G1 e3 (.tup []) = G2 at s2 h3
    repeat (first | refine ⟨_, rfl, ?_⟩ | refine ⟨_, _, rfl, rfl, ?_⟩ | refine ⟨_, _, rfl, ?_⟩ | refine ⟨rfl, ?_⟩)
    refine ⟨lenk 2 rfl (by decide), fun e4 n4 => ?_⟩
    have s3 : Same G2 (upd G2 e4 (.tup [.ref an, v4])) := Same.new n4
    have h4 : upd G2 e4 (.tup [.ref an, v4]) e4 = some (.tup [.ref an, v4]) := upd_same
    generalize upd G2 e4 (.tup [.ref an, v4]) = G3 at s3 h4
    repeat (first | refine ⟨_, rfl, ?_⟩ | refine ⟨_, _, rfl, rfl, ?_⟩ | refine ⟨_, _, rfl, ?_⟩ | refine ⟨rfl, ?_⟩)
    intro x dx nx ndx ne
    refine ⟨x, dx, rfl, upd_same, fun fs => ⟨rfl, ?_⟩⟩
    have twice : upd (upd (upd G3 dx (.own x)) x (.ins T.C_Ratio dx [])) x (.ins T.C_Ratio dx fs) = upd (upd G3 dx (.own x)) x (.ins T.C_Ratio dx fs) := by
      funext b
      by_cases hb : b = x
      · rw [hb, upd_same, upd_same]
      · rw [upd_ne hb, upd_ne hb, upd_ne hb]
    rw [twice]
    have s4 : Same G3 (upd (upd G3 dx (.own x)) x (.ins T.C_Ratio dx fs)) := Same.upd_p (Same.new ndx) nx
    have hx : upd (upd G3 dx (.own x)) x (.ins T.C_Ratio dx fs) x = some (.ins T.C_Ratio dx fs) := upd_same
    generalize upd (upd G3 dx (.own x)) x (.ins T.C_Ratio dx fs) = G4 at s4 hx
    repeat (first | refine ⟨_, rfl, ?_⟩ | refine ⟨_, _, rfl, rfl, ?_⟩ | refine ⟨_, _, rfl, ?_⟩ | refine ⟨rfl, ?_⟩)
    refine ⟨lenk 2 rfl (by decide), fun t5 n5t => ?_⟩
    have s5 : Same G4 (upd G4 t5 (.tup [.str (Str.ofString "a"), .int 2])) := Same.new n5t
    have h5 : upd G4 t5 (.tup [.str (Str.ofString "a"), .int 2]) t5 = some (.tup [.str (Str.ofString "a"), .int 2]) := upd_same
    generalize upd G4 t5 (.tup [.str (Str.ofString "a"), .int 2]) = G5 at s5 h5
    repeat (first | refine ⟨_, rfl, ?_⟩ | refine ⟨_, _, rfl, rfl, ?_⟩ | refine ⟨_, _, rfl, ?_⟩ | refine ⟨rfl, ?_⟩)
    refine ⟨lenk 1 rfl (by decide), fun e6 n6e => ?_⟩
    have s6 : Same G5 (upd G5 e6 (.lst [.ref t5])) := Same.new n6e
    have h6 : upd G5 e6 (.lst [.ref t5]) e6 = some (.lst [.ref t5]) := upd_same
    have h56 := s6 _ _ h5
    generalize upd G5 e6 (.lst [.ref t5]) = G6 at s6 h6 h56
    repeat (first | refine ⟨_, rfl, ?_⟩ | refine ⟨_, _, rfl, rfl, ?_⟩ | refine ⟨_, _, rfl, ?_⟩ | refine ⟨rfl, ?_⟩)
    have hV : (sQ sVar).at [] G6 (.ref e6) [(Str.ofString "a", 2)] := ⟨e6, _, rfl, by simp, .inl h6, .cons ⟨t5, _, _, rfl, by simp, h56, rfl, rfl⟩ .nil⟩
    refine mkPe hV VarsOk.a T.t_e0 fun pp G7 s7 npp ⟨dpp, fpp, hpp⟩ => ?_
    repeat (first | refine ⟨_, rfl, ?_⟩ | refine ⟨_, _, rfl, rfl, ?_⟩ | refine ⟨_, _, rfl, ?_⟩ | refine ⟨rfl, ?_⟩)
    refine ⟨lenk 10 rfl (by decide), fun W nW => ?_⟩
    have s8 : Same G7 (upd G7 W (.lst [V.non, .int 0, .bl true, .str (Str.ofString "x"), .ref e2, .ref e3, .ref e4, .ref an, .ref x, .ref pp])) := Same.new nW
    have hW : upd G7 W (.lst [V.non, .int 0, .bl true, .str (Str.ofString "x"), .ref e2, .ref e3, .ref e4, .ref an, .ref x, .ref pp]) W = some (.lst [V.non, .int 0, .bl true, .str (Str.ofString "x"), .ref e2, .ref e3, .ref e4, .ref an, .ref x, .ref pp]) := upd_same
    generalize upd G7 W (.lst [V.non, .int 0, .bl true, .str (Str.ofString "x"), .ref e2, .ref e3, .ref e4, .ref an, .ref x, .ref pp]) = G8 at s8 hW
    have s28 : Same G2 G8 := ((((s3.trans s4).trans s5).trans s6).trans s7).trans s8
    have s08 : Same G G8 := (s1.trans s2).trans s28
    obtain ⟨_, ean, nan, hNl⟩ := Sh.strs hN
    cases ean
    have noG : ∀ G', Same G8 G' → ∀ v ∈ ([V.non, .int 0, .bl true, .str (Str.ofString "x"), .ref e2, .ref e3, .ref e4, .ref an, .ref x, .ref pp] : List V), NoG K T.C_Graph G' v := fun G' s' => by
      refine allV (P := NoG K T.C_Graph G') (NoG.ty T.ow_Graph .non (by simp [tyNames])) ?_
      refine allV (P := NoG K T.C_Graph G') (NoG.ty T.ow_Graph (.int _) (by simp [tyNames])) ?_
      refine allV (P := NoG K T.C_Graph G') (NoG.ty T.ow_Graph (.bl _) (by simp [tyNames])) ?_
      refine allV (P := NoG K T.C_Graph G') (NoG.ty T.ow_Graph (.str _) (by simp [tyNames])) ?_
      refine allV (P := NoG K T.C_Graph G') (NoG.ty T.ow_Graph (.dK (s' _ _ (s28 _ _ (s2 _ _ h2)))) (by simp [tyNames])) ?_
      refine allV (P := NoG K T.C_Graph G') (NoG.ty T.ow_Graph (.tup (s' _ _ (s28 _ _ h3))) (by simp [tyNames])) ?_
      refine allV (P := NoG K T.C_Graph G') (NoG.ty T.ow_Graph (.tup (s' _ _ (s8 _ _ (s7 _ _ (s6 _ _ (s5 _ _ (s4 _ _ h4)))))) ) (by simp [tyNames])) ?_
      refine allV (P := NoG K T.C_Graph G') (NoG.ty T.ow_Graph (.lst (s' _ _ (s08 _ _ hNl))) (by simp [tyNames])) ?_
      refine allV (P := NoG K T.C_Graph G') ⟨_, T.ow_Ratio.ty (s' _ _ (s8 _ _ (s7 _ _ (s6 _ _ (s5 _ _ hx))))), T.nf_Ratio_Graph, T.kit_Ratio_Graph⟩ ?_
      exact allW (P := NoG K T.C_Graph G') ⟨_, T.ow_Problem.ty (s' _ _ (s8 _ _ hpp)), T.nf_Problem_Graph, T.kit_Problem_Graph⟩
    refine ⟨W, rfl, ⟨_, SqL.of hW⟩, for_it (walk_list (K := K) (a := W) (xs := ([V.non, .int 0, .bl true, .str (Str.ofString "x"), .ref e2, .ref e3, .ref e4, .ref an, .ref x, .ref pp] : List V))) (fun k σ G => ∃ y10, σ = [some (.ref l), some (.int (0 + (i : Int))), some (.ref b), some (.ref an), some v4, some (.ref a5), some (.ref a6), some (.str TX), some (.ref p8), some (.ref p9), y10] ∧ Same G8 G) ⟨_, rfl, Same.refl _⟩ (fun k σ G _ ⟨_, _, k⟩ => SqL.of (k _ _ hW)) ?_ ?_⟩
    rotate_left
    · rintro σ G' ⟨y10, rfl, s'⟩
      exact ⟨S2.trans (s08.trans s'), _, _, _, _, _, _, _, _, _, _, rfl⟩
    rintro k y σ Hx G9 hk ⟨y10, rfl, s9⟩ ⟨rfl, hy⟩
    obtain ⟨t, ty, nf, kk⟩ := noG G9 s9 y (List.mem_of_getElem? hy)
    have hg9 := Sh.go hg8 (Stp.of_same (m := []) (s08.trans s9)) Sb.nil Sb.refl
    clear noG hy hW
    repeat (first | refine ⟨_, rfl, ?_⟩ | refine ⟨_, _, rfl, rfl, ?_⟩ | refine ⟨_, _, rfl, ?_⟩ | refine ⟨rfl, ?_⟩)
    refine geq_no hg9 okN ty nf kk ?_
    repeat (first | refine ⟨_, rfl, ?_⟩ | refine ⟨_, _, rfl, rfl, ?_⟩ | refine ⟨_, _, rfl, ?_⟩ | refine ⟨rfl, ?_⟩)
    refine gne_no hg9 okN ty nf kk ?_
    repeat (first | refine ⟨_, rfl, ?_⟩ | refine ⟨_, _, rfl, rfl, ?_⟩ | refine ⟨_, _, rfl, ?_⟩ | refine ⟨rfl, ?_⟩)
    exact s9

end K46
namespace K46
open PySem PySem.Spec PyProof.Rows L2 TL
theorem facts {w : World} {K : PySem.W.Frag} {h : Heap} {mg : Str → Option Value} {f : Addr} (X : K.In h) (G : h.Ns mainGlobals mg) (hfa : mg ("law" : Str) = some (.ref f)) (c : PySem.EXV.SaysX file tests fa fn exs K) :
    ∃ fd : FuncData, (∀ (s : Shared) (v : Value), BindsTo s fd ⟨[v], []⟩ [("_law_script", v)]) ∧ ∀ base : Heap, K.In base → base.Ns mainGlobals mg → FnG R.prog w K mg base CX0 8 f fd ["_law_script"] (sp_law K) := by
  obtain ⟨fd0, F0⟩ := c.def_ 0 (d := d_is_list) rfl
  obtain ⟨fd1, F1⟩ := c.def_ 1 (d := d_check_distinct) rfl
  obtain ⟨fd2, F2⟩ := c.def_ 2 (d := d_check_known) rfl
  obtain ⟨fd3, F3⟩ := c.def_ 3 (d := d_is_name) rfl
  obtain ⟨fd4, F4⟩ := c.def_ 4 (d := d_is_any_integer) rfl
  obtain ⟨fd5, F5⟩ := c.def_ 5 (d := d_is_integer) rfl
  obtain ⟨fd6, F6⟩ := c.def_ 6 (d := d_Ratio_init) rfl
  obtain ⟨fd7, F7⟩ := c.def_ 7 (d := d_Problem_init) rfl
  obtain ⟨fd8, F8⟩ := c.def_ 8 (d := d__neighbors_of) rfl
  obtain ⟨fd9, F9⟩ := c.def_ 9 (d := d__are_values) rfl
  obtain ⟨fd10, F10⟩ := c.def_ 10 (d := d__check_variables) rfl
  obtain ⟨fd11, F11⟩ := c.def_ 11 (d := d__is_variable_row) rfl
  obtain ⟨fd12, F12⟩ := c.def_ 12 (d := d__check_events) rfl
  obtain ⟨fd13, F13⟩ := c.def_ 13 (d := d__is_event_row) rfl
  obtain ⟨fd14, F14⟩ := c.def_ 14 (d := d__check_scope) rfl
  obtain ⟨fd15, F15⟩ := c.def_ 15 (d := d__check_variable) rfl
  obtain ⟨fd16, F16⟩ := c.def_ 16 (d := d__are_bad_tuples) rfl
  obtain ⟨fd17, F17⟩ := c.def_ 17 (d := d_Graph_init) rfl
  obtain ⟨fd18, F18⟩ := c.def_ 18 (d := d_Graph_eq) rfl
  obtain ⟨fd19, F19⟩ := c.def_ 19 (d := d_Graph_len) rfl
  obtain ⟨fd20, F20⟩ := c.def_ 20 (d := d_Graph_repr) rfl
  obtain ⟨fd21, F21⟩ := c.def_ 21 (d := d_Graph_names) rfl
  obtain ⟨fd22, F22⟩ := c.def_ 22 (d := d_Graph_edges) rfl
  obtain ⟨fd23, F23⟩ := c.def_ 23 (d := d_Graph_are_adjacent) rfl
  obtain ⟨fd24, F24⟩ := c.def_ 24 (d := d_Graph_neighbors) rfl
  obtain ⟨fd25, F25⟩ := c.def_ 25 (d := d__check_graph_names) rfl
  obtain ⟨fd26, F26⟩ := c.def_ 26 (d := d__check_edges) rfl
  obtain ⟨fd27, F27⟩ := c.def_ 27 (d := d_l_cell) rfl
  obtain ⟨fd28, F28⟩ := c.def_ 28 (d := d_l_box) rfl
  obtain ⟨fd29, F29⟩ := c.def_ 29 (d := d_l_take) rfl
  obtain ⟨fd30, F30⟩ := c.def_ 30 (d := d_l_names) rfl
  obtain ⟨fd31, F31⟩ := c.def_ 31 (d := d_l_graph) rfl
  obtain ⟨fd32, F32⟩ := c.def_ 32 (d := d_l_handed) rfl
  obtain ⟨fd33, F33⟩ := c.def_ 33 (d := d_l_told_right) rfl
  obtain ⟨fd34, F34⟩ := c.def_ 34 (d := d_l_equal_right) rfl
  obtain ⟨fd35, F35⟩ := c.def_ 35 (d := d_law) rfl
  have e := hfa.symm.trans (He.glo_ok X G (c.fact 25 (f := .glo "law") rfl))
  cases e
  have b := FunD.bindsA (ps := ["_law_script"]) F35 fun _ _ _ _ _ _ us hl => match us, hl with | [_], _ => rfl
  let T : Txt R.prog K mg := {
    C_Ratio := _, g_Ratio := He.glo_ok X G (c.fact 26 (f := .glo "Ratio") rfl),
    C_Problem := _, g_Problem := He.glo_ok X G (c.fact 27 (f := .glo "Problem") rfl),
    C_Graph := _, g_Graph := He.glo_ok X G (c.fact 28 (f := .glo "Graph") rfl),
    f_is_list := _, fd_is_list := fd0, F_is_list := F0, g_is_list := He.glo_ok X G (c.fact 0 (f := .glo "is_list") rfl),
    f_check_distinct := _, fd_check_distinct := fd1, F_check_distinct := F1, g_check_distinct := He.glo_ok X G (c.fact 1 (f := .glo "check_distinct") rfl),
    f_check_known := _, fd_check_known := fd2, F_check_known := F2, g_check_known := He.glo_ok X G (c.fact 2 (f := .glo "check_known") rfl),
    f_is_name := _, fd_is_name := fd3, F_is_name := F3, g_is_name := He.glo_ok X G (c.fact 3 (f := .glo "is_name") rfl),
    f_is_any_integer := _, fd_is_any_integer := fd4, F_is_any_integer := F4, g_is_any_integer := He.glo_ok X G (c.fact 4 (f := .glo "is_any_integer") rfl),
    f_is_integer := _, fd_is_integer := fd5, F_is_integer := F5, g_is_integer := He.glo_ok X G (c.fact 5 (f := .glo "is_integer") rfl),
    f_Ratio_init := _, fd_Ratio_init := fd6, F_Ratio_init := F6,
    f_Problem_init := _, fd_Problem_init := fd7, F_Problem_init := F7,
    f__neighbors_of := _, fd__neighbors_of := fd8, F__neighbors_of := F8, g__neighbors_of := He.glo_ok X G (c.fact 6 (f := .glo "_neighbors_of") rfl),
    f__are_values := _, fd__are_values := fd9, F__are_values := F9, g__are_values := He.glo_ok X G (c.fact 7 (f := .glo "_are_values") rfl),
    f__check_variables := _, fd__check_variables := fd10, F__check_variables := F10, g__check_variables := He.glo_ok X G (c.fact 8 (f := .glo "_check_variables") rfl),
    f__is_variable_row := _, fd__is_variable_row := fd11, F__is_variable_row := F11, g__is_variable_row := He.glo_ok X G (c.fact 9 (f := .glo "_is_variable_row") rfl),
    f__check_events := _, fd__check_events := fd12, F__check_events := F12, g__check_events := He.glo_ok X G (c.fact 10 (f := .glo "_check_events") rfl),
    f__is_event_row := _, fd__is_event_row := fd13, F__is_event_row := F13, g__is_event_row := He.glo_ok X G (c.fact 11 (f := .glo "_is_event_row") rfl),
    f__check_scope := _, fd__check_scope := fd14, F__check_scope := F14, g__check_scope := He.glo_ok X G (c.fact 12 (f := .glo "_check_scope") rfl),
    f__check_variable := _, fd__check_variable := fd15, F__check_variable := F15, g__check_variable := He.glo_ok X G (c.fact 13 (f := .glo "_check_variable") rfl),
    f__are_bad_tuples := _, fd__are_bad_tuples := fd16, F__are_bad_tuples := F16, g__are_bad_tuples := He.glo_ok X G (c.fact 14 (f := .glo "_are_bad_tuples") rfl),
    f_Graph_init := _, fd_Graph_init := fd17, F_Graph_init := F17,
    f_Graph_eq := _, fd_Graph_eq := fd18, F_Graph_eq := F18, m_Graph_eq := He.meth_ok (c.fact 29 (f := .meth "Graph" "__eq__") rfl),
    f_Graph_len := _, fd_Graph_len := fd19, F_Graph_len := F19, m_Graph_len := He.meth_ok (c.fact 30 (f := .meth "Graph" "__len__") rfl),
    f_Graph_repr := _, fd_Graph_repr := fd20, F_Graph_repr := F20, m_Graph_repr := He.meth_ok (c.fact 31 (f := .meth "Graph" "__repr__") rfl),
    f_Graph_names := _, fd_Graph_names := fd21, F_Graph_names := F21, m_Graph_names := He.meth_ok (c.fact 32 (f := .meth "Graph" "names") rfl),
    f_Graph_edges := _, fd_Graph_edges := fd22, F_Graph_edges := F22, m_Graph_edges := He.meth_ok (c.fact 33 (f := .meth "Graph" "edges") rfl),
    f_Graph_are_adjacent := _, fd_Graph_are_adjacent := fd23, F_Graph_are_adjacent := F23, m_Graph_are_adjacent := He.meth_ok (c.fact 34 (f := .meth "Graph" "are_adjacent") rfl),
    f_Graph_neighbors := _, fd_Graph_neighbors := fd24, F_Graph_neighbors := F24, m_Graph_neighbors := He.meth_ok (c.fact 35 (f := .meth "Graph" "neighbors") rfl),
    f__check_graph_names := _, fd__check_graph_names := fd25, F__check_graph_names := F25, g__check_graph_names := He.glo_ok X G (c.fact 15 (f := .glo "_check_graph_names") rfl),
    f__check_edges := _, fd__check_edges := fd26, F__check_edges := F26, g__check_edges := He.glo_ok X G (c.fact 16 (f := .glo "_check_edges") rfl),
    f_l_cell := _, fd_l_cell := fd27, F_l_cell := F27, g_l_cell := He.glo_ok X G (c.fact 17 (f := .glo "_law_cell") rfl),
    f_l_box := _, fd_l_box := fd28, F_l_box := F28, g_l_box := He.glo_ok X G (c.fact 18 (f := .glo "_law_box") rfl),
    f_l_take := _, fd_l_take := fd29, F_l_take := F29, g_l_take := He.glo_ok X G (c.fact 19 (f := .glo "_law_take") rfl),
    f_l_names := _, fd_l_names := fd30, F_l_names := F30, g_l_names := He.glo_ok X G (c.fact 20 (f := .glo "_law_names") rfl),
    f_l_graph := _, fd_l_graph := fd31, F_l_graph := F31, g_l_graph := He.glo_ok X G (c.fact 21 (f := .glo "_law_graph") rfl),
    f_l_handed := _, fd_l_handed := fd32, F_l_handed := F32, g_l_handed := He.glo_ok X G (c.fact 22 (f := .glo "_law_handed") rfl),
    f_l_told_right := _, fd_l_told_right := fd33, F_l_told_right := F33, g_l_told_right := He.glo_ok X G (c.fact 23 (f := .glo "_law_told_right") rfl),
    f_l_equal_right := _, fd_l_equal_right := fd34, F_l_equal_right := F34, g_l_equal_right := He.glo_ok X G (c.fact 24 (f := .glo "_law_equal_right") rfl),
    f_law := _, fd_law := fd35, F_law := F35, g_law := He.glo_ok X G (c.fact 25 (f := .glo "law") rfl),
    cl_Ratio := He.cls_ok (c.fact 52 (f := .cls "Ratio") rfl),
    mk_Ratio := He.mkr_ok (c.fact 53 (f := .mkr "Ratio") rfl),
    na_Ratio__num := He.noat_ok (c.fact 54 (f := .noat "Ratio" "_num") rfl),
    na_Ratio__den := He.noat_ok (c.fact 55 (f := .noat "Ratio" "_den") rfl),
    cl_Problem := He.cls_ok (c.fact 56 (f := .cls "Problem") rfl),
    mk_Problem := He.mkr_ok (c.fact 57 (f := .mkr "Problem") rfl),
    na_Problem__variables := He.noat_ok (c.fact 58 (f := .noat "Problem" "_variables") rfl),
    na_Problem__sizes := He.noat_ok (c.fact 59 (f := .noat "Problem" "_sizes") rfl),
    na_Problem__places := He.noat_ok (c.fact 60 (f := .noat "Problem" "_places") rfl),
    na_Problem__events := He.noat_ok (c.fact 61 (f := .noat "Problem" "_events") rfl),
    na_Problem__scopes := He.noat_ok (c.fact 62 (f := .noat "Problem" "_scopes") rfl),
    na_Problem__bad_tuples := He.noat_ok (c.fact 63 (f := .noat "Problem" "_bad_tuples") rfl),
    na_Problem__neighbors := He.noat_ok (c.fact 64 (f := .noat "Problem" "_neighbors") rfl),
    cl_Graph := He.cls_ok (c.fact 65 (f := .cls "Graph") rfl),
    mk_Graph := He.mkr_ok (c.fact 66 (f := .mkr "Graph") rfl),
    na_Graph__neighbors := He.noat_ok (c.fact 67 (f := .noat "Graph" "_neighbors") rfl),
    ow_Problem := ownB_ok (c.test 0 (b := (fun K => ownB K "Problem")) rfl),
    ow_Graph := ownB_ok (c.test 1 (b := (fun K => ownB K "Graph")) rfl),
    ow_Ratio := ownB_ok (c.test 2 (b := (fun K => ownB K "Ratio")) rfl),
    g_gcd := PySem.W.mg_of X G (He.eqO_ok (c.test 3 (b := (fun K => He.eqO (PySem.W.nsIn K mainGlobals "gcd") (some (some (.builtin "math.gcd"))))) rfl)),
    sm := PySem.EXV.smB_ok (c.test 4 (b := PySem.EXV.smB) rfl),
    kit_Ratio_Graph := of_decide_eq_true (c.test 5 (b := (fun K => decide (PySem.W.kitOne K (.ref (He.ga K "Ratio")) (.ref (He.ga K "Graph")) = some false))) rfl),
    nf_Ratio_Graph := (c.test 6 (b := (fun K => PySem.W.notFirst K (He.ga K "Graph") (.ref (He.ga K "Ratio")))) rfl),
    kit_Problem_Graph := of_decide_eq_true (c.test 7 (b := (fun K => decide (PySem.W.kitOne K (.ref (He.ga K "Problem")) (.ref (He.ga K "Graph")) = some false))) rfl),
    nf_Problem_Graph := (c.test 8 (b := (fun K => PySem.W.notFirst K (He.ga K "Graph") (.ref (He.ga K "Problem")))) rfl),
    n_all := He.free_ok X G (c.fact 36 (f := .free "all") rfl),
    n_any := He.free_ok X G (c.fact 37 (f := .free "any") rfl),
    n_bool := He.free_ok X G (c.fact 38 (f := .free "bool") rfl),
    n_enumerate := He.free_ok X G (c.fact 39 (f := .free "enumerate") rfl),
    n_int := He.free_ok X G (c.fact 40 (f := .free "int") rfl),
    n_isinstance := He.free_ok X G (c.fact 41 (f := .free "isinstance") rfl),
    n_len := He.free_ok X G (c.fact 42 (f := .free "len") rfl),
    n_list := He.free_ok X G (c.fact 43 (f := .free "list") rfl),
    n_max := He.free_ok X G (c.fact 44 (f := .free "max") rfl),
    n_min := He.free_ok X G (c.fact 45 (f := .free "min") rfl),
    n_range := He.free_ok X G (c.fact 46 (f := .free "range") rfl),
    n_repr := He.free_ok X G (c.fact 47 (f := .free "repr") rfl),
    n_sorted := He.free_ok X G (c.fact 48 (f := .free "sorted") rfl),
    n_str := He.free_ok X G (c.fact 49 (f := .free "str") rfl),
    n_tuple := He.free_ok X G (c.fact 50 (f := .free "tuple") rfl),
    n_zip := He.free_ok X G (c.fact 51 (f := .free "zip") rfl),
    e0 := _, t_e0 := PySem.EXV.isEB_ok (c.test 12 (b := (fun K => PySem.EXV.isEB K (He.dflAt ("Problem", some "__init__") 0 K))) rfl),
    e1 := _, t_e1 := PySem.EXV.isEB_ok (c.test 13 (b := (fun K => PySem.EXV.isEB K (He.dflAt ("Graph", some "__init__") 0 K))) rfl),
    c_MOST_EVENTS := PySem.EXV.conB_ok X G (c.test 9 (b := (PySem.EXV.conB "MOST_EVENTS" 8)) rfl),
    c_MOST_VARIABLES := PySem.EXV.conB_ok X G (c.test 10 (b := (PySem.EXV.conB "MOST_VARIABLES" 8)) rfl),
    c_MOST_NAMES := PySem.EXV.conB_ok X G (c.test 11 (b := (PySem.EXV.conB "MOST_NAMES" 8)) rfl) }
  exact ⟨fd35, fun s v => b s [v] rfl, fun base _ _ => ok_law T⟩

end K46
open PySem PySem.W PySem.Calls PyProof.Rows
set_option maxRecDepth 100000 in
set_option maxHeartbeats 0 in
theorem PySem.Challenge.cw_resampler_k46_graphs_told_holds : PySem.Challenge.rw_resampler_k46_graphs_told.Holds := by
  w_on; o_law
  refine HandSHeadRun.head_imp (r := OpenLaw.row PySem.Challenge.rw_resampler_k46_graphs_told) (q := view (OpenLaw.row PySem.Challenge.rw_resampler_k46_graphs_told).prog [0, 52]) (H := K46.hk) (ob := K46.ob) (M := 8000) (loose := K46.loose) (d := HandSHeadRun.topDef (OpenLaw.row PySem.Challenge.rw_resampler_k46_graphs_told).prog 52) (kwd := []) K46.ob_eq
    K46.run (by kernel_rfl) (by kernel_rfl) (by kernel_rfl) (by rfl) (by first | assumption | decide +kernel) (by decide +kernel) ⟨rfl, rfl, rfl, rfl, rfl, by decide +kernel⟩ ?hw ?hc
  case hw => w_witness2
  case hc =>
    refine L2.walk_ofG (l := PySem.Challenge.rw_resampler_k46_graphs_told) (n := 63) (k := 8) (x := "_law_script") (CX := L2.CX0) rfl (by decide) (by kernel_rfl) ⟨rfl, by decide, by decide⟩ ?F (fun _ _ _ _ z => z)
    intro w mg fa h Y G hmg0
    obtain ⟨K, KX, c⟩ := Y
    have hmg : mg ("law" : PySem.Str) = some (.ref fa) := by
      have e : (HandSHeadRun.topDef (OpenLaw.row PySem.Challenge.rw_resampler_k46_graphs_told).prog 52).name = ("law" : PySem.Str) := by kernel_rfl
      rw [← e]
      exact hmg0
    obtain ⟨fd, hb, hF⟩ := K46.facts (w := w) KX G hmg c
    exact ⟨K, fd, K46.sp_law K, KX, hb, fun H a ns hl _ hS => ⟨a, ns, rfl, hS, hl, fun _ => rfl⟩, hF⟩

