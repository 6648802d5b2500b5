import PyProof.Rows.All
import Wide.All
import OpenK.AllK
import Wide.FinOn
import KE.KStateDown
import HandS.ForMost
import HandS.WordsExc
import HandS.Defaults
import HandS.MakeKwOnly
import HandS.IsInst
import HandS.StrMore
import HandS.Wide
import HandS.Walk
import HandS.Evl
import HandS.Head0
import HandS.Head1
import HandS.Head2
import HandS.HeadEnd
import HandS.HeadHook1
import HandS.HeadHook2
import PySem.Challenge.RW_resampler_k01_names_integers_words
set_option Elab.async false
set_option linter.all false
set_option maxRecDepth 100000
set_option maxHeartbeats 0
namespace K01
open PySem PySem.Spec PyProof.Rows L2 TL
/-! ### heaps: all but the bag's list stays -/
def Fr (b : Addr) (H H' : Hp) : Prop := ∀ a o, a ≠ b → H a = some o → H' a = some o
theorem Fr.refl (b : Addr) (H : Hp) : Fr b H H := fun _ _ _ h => h
theorem Fr.trans {b : Addr} {H H1 H2 : Hp} (x : Fr b H H1) (y : Fr b H1 H2) : Fr b H H2 := fun a o n h => y a o n (x a o n h)
theorem Fr.of_same {b : Addr} {H H1 : Hp} (x : Same H H1) : Fr b H H1 := fun a o _ h => x a o h
theorem Fr.new {b p : Addr} {H : Hp} {o : HO} (h : H p = none) : Fr b H (upd H p o) := fun a u _ e => by
  rw [upd_ne (ne_of_none e h)]; exact e
theorem Fr.upd_b {b : Addr} {H H1 : Hp} {o : HO} (x : Fr b H H1) : Fr b H (upd H1 b o) := fun a u n e => by
  rw [upd_ne n]; exact x a u n e
theorem Fr.free {b p : Addr} {H H' : Hp} (x : Fr b H H') (hb : p ≠ b) (h : H' p = none) : H p = none := by
  cases q : H p with
  | none => rfl
  | some o => rw [x p o hb q] at h; cases h
theorem Fr.upd_p {b p : Addr} {H H1 : Hp} {o : HO} (x : Fr b H H1) (h : H p = none) : Fr b H (upd H1 p o) := fun a u n e => by
  rw [upd_ne (ne_of_none e h)]; exact x a u n e
theorem Same.new {p : Addr} {H : Hp} {o : HO} (h : H p = none) : Same H (upd H p o) := fun a u e => by
  rw [upd_ne (ne_of_none e h)]; exact e
theorem Same.upd_p {p : Addr} {H H1 : Hp} {o : HO} (x : Same H H1) (h : H p = none) : Same H (upd H1 p o) := fun a u e => by
  rw [upd_ne (ne_of_none e h)]; exact x a u e
theorem Fr.seq {K : PySem.W.Frag} {b : Addr} {H H' : Hp} {a : Addr} {xs : List V} (e : Fr b H H') (n : a ≠ b) (h : SqL K H a xs) : SqL K H' a xs := by
  rcases h with (h | ⟨o, h⟩) | h
  · exact .inl (.inl (e _ _ n h))
  · exact .inl (.inr ⟨o, e _ _ n h⟩)
  · exact .inr h
/-- a bag of digits: what is left of the cell, the seed, the count of draws -/
def Bag (H : Hp) (b : Addr) (n : Nat) : Prop := ∃ x y z : Int, H b = some (.lst [.int x, .int y, .int z]) ∧ 0 ≤ x ∧ 0 ≤ y ∧ y < 2147483629 ∧ 0 ≤ z ∧ z ≤ n
theorem Bag.mono {H : Hp} {b : Addr} {n m : Nat} (h : Bag H b n) (l : n ≤ m) : Bag H b m := by
  obtain ⟨x, y, z, e, h1, h2, h3, h4, h5⟩ := h
  exact ⟨x, y, z, e, h1, h2, h3, h4, by omega⟩
theorem Bag.same {H H' : Hp} {b : Addr} {n : Nat} (h : Bag H b n) (s : Same H H') : Bag H' b n := by
  obtain ⟨x, y, z, e, r⟩ := h
  exact ⟨x, y, z, s _ _ e, r⟩
theorem Bag.ne {H : Hp} {b p : Addr} {n : Nat} (h : Bag H b n) (q : H p = none) : b ≠ p := by
  obtain ⟨x, y, z, e, r⟩ := h
  exact ne_of_none e q
theorem Bag.upd {H : Hp} {b p : Addr} {n : Nat} {o : HO} (h : Bag H b n) (q : b ≠ p) : Bag (upd H p o) b n := by
  obtain ⟨x, y, z, e, r⟩ := h
  exact ⟨x, y, z, by rw [upd_ne q]; exact e, r⟩
theorem Bag.some {H : Hp} {b : Addr} {n : Nat} (h : Bag H b n) : ∃ o, H b = some o := by
  obtain ⟨x, y, z, e, r⟩ := h
  exact ⟨_, e⟩
/-! ### the promises that all such laws share -/
def sp_cell (K : PySem.W.Frag) : Sp := fun vs H Q _ => ∃ (l : Addr) (ns : List Int) (j : Int), vs = [.ref l, .int j] ∧ SqL K H l (ns.map V.int) ∧ 0 ≤ j ∧ ∀ v : Int, Q (.int v) H
def sp_bag (K : PySem.W.Frag) : Sp := fun vs H Q _ => ∃ c : Int, vs = [.int c] ∧ ∀ p H', Same H H' → H p = none → Bag H' p 0 → Q (.ref p) H'
def sp_take (K : PySem.W.Frag) : Sp := fun vs H Q _ => ∃ (b : Addr) (n : Nat) (c : Int), vs = [.ref b, .int c] ∧ Bag H b n ∧ n ≤ 1000000 ∧ 0 < c ∧ c < 2 ^ 200 ∧
  ∀ (d : Int) H', Fr b H H' → Bag H' b (n + 1) → 0 ≤ d → d < c → Q (.int d) H'
def sp_law (K : PySem.W.Frag) : Sp := fun vs H Q _ => ∃ (a : Addr) (ns : List Int), vs = [.ref a] ∧ SqL K H a (ns.map V.int) ∧ ns.length ≤ 63 ∧ ∀ H', Q (.bl true) H'
/-! ### small facts -/
theorem atI_in {α : Type} {xs : List α} {i : Int} (h0 : 0 ≤ i) (h1 : i < (xs.length : Int)) : ∃ v, xs[i.toNat]? = some v ∧ atI xs i = some v := by
  have hj : i.toNat < xs.length := by omega
  refine ⟨xs[i.toNat], List.getElem?_eq_getElem hj, ?_⟩
  have e : ((i.toNat : Nat) : Int) = i := Int.toNat_of_nonneg h0
  have := atI_nat (xs := xs) (j := i.toNat) (List.getElem?_eq_getElem hj)
  rw [e] at this
  exact this
theorem atI_ints {ns : List Int} {i : Int} (h0 : 0 ≤ i) (h1 : i < (ns.length : Int)) : ∃ v : Int, atI (ns.map V.int) i = some (.int v) := by
  obtain ⟨v, e, h⟩ := atI_in (xs := ns.map V.int) h0 (by rw [List.length_map]; exact h1)
  rw [List.getElem?_map] at e
  cases q : ns[i.toNat]? with
  | none => rw [q] at e; cases e
  | some u => rw [q] at e; cases e; exact ⟨u, h⟩
theorem lt_of_dec {a b : Int} (h : decide (a < b) = true) : a < b := of_decide_eq_true h
theorem nlt_of_dec {a b : Int} (h : ¬ decide (a < b) = true) : ¬ a < b := fun x => h (decide_eq_true x)
theorem emod_in (a : Int) {m : Int} (h : 0 < m) : 0 ≤ a % m ∧ a % m < m := ⟨Int.emod_nonneg a (by omega), Int.emod_lt_of_pos a h⟩
/-! ### texts -/
theorem joinL_len (S : List Nat) : ∀ ps : List (List Nat), (joinL S ps).length ≤ (ps.map List.length).sum + ps.length * S.length
  | [] => by simp [joinL]
  | [p] => by simp [joinL]
  | p :: q :: r => by
    have h := joinL_len S (q :: r)
    show (p ++ (S ++ joinL S (q :: r))).length ≤ _
    simp only [List.length_append, List.map_cons, List.sum_cons, List.length_cons, Nat.add_mul, Nat.one_mul] at h ⊢
    omega
theorem join_len (a : Str) (ys : List Str) : (Txt.join a ys).length ≤ (ys.map (·.length)).sum + ys.length * a.length := by
  rw [join_eq, len_tl, tl_join, len_tl a]
  have h := joinL_len (tl a) (ys.map tl)
  rw [List.map_map, List.length_map] at h
  have e : ys.map (List.length ∘ tl) = ys.map (·.length) := List.map_congr_left fun x _ => (len_tl x).symm
  rw [e] at h
  exact h
theorem sum_len {ys : List Str} {L : Nat} (h : ∀ s ∈ ys, s.length ≤ L) : (ys.map (·.length)).sum ≤ ys.length * L := by
  induction ys with
  | nil => simp
  | cons a r ih =>
    have h1 := h a List.mem_cons_self
    have h2 := ih fun s hs => h s (List.mem_cons_of_mem _ hs)
    simp only [List.map_cons, List.sum_cons, List.length_cons, Nat.add_mul, Nat.one_mul]
    omega
theorem join_size {a : Str} {ys : List Str} {L n A : Nat} (h : ∀ s ∈ ys, s.length ≤ L) (hn : ys.length ≤ n) (ha : a.length ≤ A) : (ys.map (·.length)).sum + ys.length * a.length ≤ n * L + n * A :=
  Nat.add_le_add (Nat.le_trans (sum_len h) (Nat.mul_le_mul_right _ hn)) (Nat.mul_le_mul hn ha)
theorem app_len (a b : Str) : (a ++ b).length = a.length + b.length := by
  rw [len_tl, tl_append, List.length_append, ← len_tl, ← len_tl]
def rRepS : R2 := fun x y H Q => ∃ z i, x = .str z ∧ y = .int i ∧ z.length ≤ 100 ∧ 0 ≤ i ∧ i ≤ 1000 ∧ ∀ s : Str, s.length ≤ z.length * i.toNat → Q (.str s) H
theorem op_repS {X : Cx} : OpR X (binaryOp .Mult) rRepS := by
  intro pins s σ H x y v u Q I rx ry h
  obtain ⟨z, i, rfl, rfl, hz, h0, h1, q⟩ := h
  obtain ⟨t, rfl⟩ := rx
  obtain ⟨t', rfl⟩ := ry
  have hm : z.length * i.toNat ≤ 100 * 1000 := Nat.mul_le_mul hz (by omega)
  refine SB.mul ⟨?_, fun _ _ => ?_, fun _ _ => ?_⟩ (fun t'' k => ⟨.str (Txt.mul z i), H, I.tok _, ⟨_, rfl⟩, q _ ?_⟩)
  · rw [Bool.or_eq_false_iff]
    exact ⟨decide_eq_false (by omega), decide_eq_false (by omega)⟩
  · have h2 : (1000 : Int) ≤ (2 ^ 63 - 1) / i ∨ i = 0 := by
      by_cases e : i = 0
      · exact .inr e
      · left
        rw [Int.le_ediv_iff_mul_le (by omega)]
        omega
    rcases h2 with h2 | h2
    · omega
    · subst h2
      omega
  · have hz2 : sizeLine = 16777216 := sizeLine_eq
    unfold Builtin.Str.tooLong
    exact decide_eq_false (by omega)
  · have hl := PyProof.Rows.len_mul z i
    have e : (if decide (i < 0) = true then 0 else i) = i := by rw [if_neg (by simp; omega)]
    rw [e] at hl
    have e2 : (i.toNat : Int) = i := Int.toNat_of_nonneg h0
    rw [show (z.length : Int) * i = ((z.length * i.toNat : Nat) : Int) by rw [Int.natCast_mul, e2]] at hl
    omega
/-- a list of draws that are texts, made at D -/
def PvS (b D : Addr) (H1 : Hp) (n0 c L : Nat) (i : Nat) (H' : Hp) : Prop := H1 D = none ∧ D ≠ b ∧ ∃ ys : List Str, ys.length = i ∧ (∀ s ∈ ys, s.length ≤ L) ∧ H' D = some (.lst (ys.map V.str)) ∧ Fr b H1 H' ∧ Bag H' b (n0 + c * i)
theorem pvS_0 {b D : Addr} {H1 : Hp} {n0 c L : Nat} (hB : Bag H1 b n0) (hD : H1 D = none) : PvS b D H1 n0 c L 0 (upd H1 D (.lst [])) :=
  ⟨hD, (hB.ne hD).symm, [], rfl, fun _ h => (nomatch h), upd_same, Fr.new hD, (hB.upd (hB.ne hD)).mono (by omega)⟩
theorem pvS_put {b D : Addr} {H1 H' H4 : Hp} {n0 c L i : Nat} {s : Str} (p : PvS b D H1 n0 c L i H') (f4 : Fr b H' H4) (b4 : Bag H4 b (n0 + c * (i + 1))) (hs4 : s.length ≤ L) (hi : i < 100000) :
    ∃ acc, H4 D = some (.lst acc) ∧ acc.length < sizeLine ∧ PvS b D H1 n0 c L (i + 1) (upd H4 D (.lst (acc ++ [V.str s]))) := by
  obtain ⟨hD, n1, ys, hl, hs, hD', hF, hB'⟩ := p
  refine ⟨ys.map V.str, f4 D _ n1 hD', ?_, hD, n1, ys ++ [s], by rw [List.length_append, hl]; rfl, ?_, ?_, (hF.trans f4).upd_p hD, b4.upd n1.symm⟩
  · rw [List.length_map, hl]
    have : sizeLine = 16777216 := sizeLine_eq
    omega
  · intro x hx
    rcases List.mem_append.mp hx with h | h
    · exact hs x h
    · rw [List.mem_singleton.mp h]; exact hs4
  · rw [upd_same, List.map_append]; rfl
/-- a def that draws a text -/
def sp_str (c L : Nat) : Sp := fun vs H Q _ => ∃ (b : Addr) (n : Nat), vs = [.ref b] ∧ Bag H b n ∧ n + c ≤ 1000000 ∧ ∀ (s : Str) H', Fr b H H' → Bag H' b (n + c) → s.length ≤ L → Q (.str s) H'
theorem slen {n : Nat} (h : n ≤ 100000) : n ≤ sizeLine := Nat.le_trans h (by decide)
theorem str_at {xs : List V} {i : Int} {L : Nat} (h0 : 0 ≤ i) (h1 : i < (xs.length : Int)) (h : ∀ v ∈ xs, ∃ s : Str, v = .str s ∧ s.length ≤ L) : ∃ s : Str, atI xs i = some (.str s) ∧ s.length ≤ L := by
  obtain ⟨v, e, a⟩ := atI_in h0 h1
  obtain ⟨s, rfl, hs⟩ := h v (List.mem_of_getElem? e)
  exact ⟨s, a, hs⟩
theorem lenk {α : Type} {xs : List α} (n : Nat) (h : xs.length = n) (hn : n ≤ 100000) : xs.length ≤ sizeLine := slen (by omega)

end K01
namespace K01
open PySem PySem.Spec PyProof.Rows L2 TL
def top (i : Nat) : Stmt := PySem.Challenge.pw_resampler_k01_names_integers_words.main.body.getD i (.Pass ⟨0, 0, 0, 0⟩)
abbrev s_is_name : Stmt := top 1
abbrev N_is_name : List Str := ["value", "letter"]
theorem sc_is_name : FnScope N_is_name ["value"] (defScope s_is_name) := ⟨rfl, rfl, rfl, by decide +kernel, rfl, by decide +kernel, by decide +kernel⟩
abbrev s_is_any_integer : Stmt := top 2
abbrev N_is_any_integer : List Str := ["value"]
theorem sc_is_any_integer : FnScope N_is_any_integer ["value"] (defScope s_is_any_integer) := ⟨rfl, rfl, rfl, by decide +kernel, rfl, by decide +kernel, by decide +kernel⟩
abbrev s_is_integer : Stmt := top 3
abbrev N_is_integer : List Str := ["value", "low", "high"]
theorem sc_is_integer : FnScope N_is_integer ["value", "low", "high"] (defScope s_is_integer) := ⟨rfl, rfl, rfl, by decide +kernel, rfl, by decide +kernel, by decide +kernel⟩
abbrev s_is_numeral : Stmt := top 4
abbrev N_is_numeral : List Str := ["value", "digit"]
theorem sc_is_numeral : FnScope N_is_numeral ["value"] (defScope s_is_numeral) := ⟨rfl, rfl, rfl, by decide +kernel, rfl, by decide +kernel, by decide +kernel⟩
abbrev s_parse_integer : Stmt := top 5
abbrev N_parse_integer : List Str := ["text", "low", "high", "number", "digit"]
theorem sc_parse_integer : FnScope N_parse_integer ["text", "low", "high"] (defScope s_parse_integer) := ⟨rfl, rfl, rfl, by decide +kernel, rfl, by decide +kernel, by decide +kernel⟩
abbrev s_split_words : Stmt := top 6
abbrev N_split_words : List Str := ["text", "words"]
theorem sc_split_words : FnScope N_split_words ["text"] (defScope s_split_words) := ⟨rfl, rfl, rfl, by decide +kernel, rfl, by decide +kernel, by decide +kernel⟩
abbrev s_l_cell : Stmt := top 8
abbrev N_l_cell : List Str := ["_law_script", "_law_index"]
theorem sc_l_cell : FnScope N_l_cell ["_law_script", "_law_index"] (defScope s_l_cell) := ⟨rfl, rfl, rfl, by decide +kernel, rfl, by decide +kernel, by decide +kernel⟩
abbrev s_l_bag : Stmt := top 9
abbrev N_l_bag : List Str := ["_law_cell_here"]
theorem sc_l_bag : FnScope N_l_bag ["_law_cell_here"] (defScope s_l_bag) := ⟨rfl, rfl, rfl, by decide +kernel, rfl, by decide +kernel, by decide +kernel⟩
abbrev s_l_take : Stmt := top 10
abbrev N_l_take : List Str := ["_law_bag_here", "_law_count", "_law_digit", "_law_mixed"]
theorem sc_l_take : FnScope N_l_take ["_law_bag_here", "_law_count"] (defScope s_l_take) := ⟨rfl, rfl, rfl, by decide +kernel, rfl, by decide +kernel, by decide +kernel⟩
abbrev s_l_any_character : Stmt := top 11
abbrev N_l_any_character : List Str := ["_law_bag_here", "_law_some"]
theorem sc_l_any_character : FnScope N_l_any_character ["_law_bag_here"] (defScope s_l_any_character) := ⟨rfl, rfl, rfl, by decide +kernel, rfl, by decide +kernel, by decide +kernel⟩
abbrev s_l_text : Stmt := top 12
abbrev N_l_text : List Str := ["_law_bag_here", "_law_letters", "_law_text_here", "_law_at", "_law_behind", "_law_index"]
theorem sc_l_text : FnScope N_l_text ["_law_bag_here"] (defScope s_l_text) := ⟨rfl, rfl, rfl, by decide +kernel, rfl, by decide +kernel, by decide +kernel⟩
abbrev s_l_digits : Stmt := top 13
abbrev N_l_digits : List Str := ["_law_bag_here", "_law_text_here", "_law_way", "_law_at", "_law_index"]
theorem sc_l_digits : FnScope N_l_digits ["_law_bag_here"] (defScope s_l_digits) := ⟨rfl, rfl, rfl, by decide +kernel, rfl, by decide +kernel, by decide +kernel⟩
abbrev s_l_words_text : Stmt := top 14
abbrev N_l_words_text : List Str := ["_law_bag_here", "_law_text_here", "_law_index"]
theorem sc_l_words_text : FnScope N_l_words_text ["_law_bag_here"] (defScope s_l_words_text) := ⟨rfl, rfl, rfl, by decide +kernel, rfl, by decide +kernel, by decide +kernel⟩
abbrev s_l_odd : Stmt := top 15
abbrev N_l_odd : List Str := ["_law_bag_here", "_law_some"]
theorem sc_l_odd : FnScope N_l_odd ["_law_bag_here"] (defScope s_l_odd) := ⟨rfl, rfl, rfl, by decide +kernel, rfl, by decide +kernel, by decide +kernel⟩
abbrev s_l_is_name : Stmt := top 16
abbrev N_l_is_name : List Str := ["_law_value", "_law_one"]
theorem sc_l_is_name : FnScope N_l_is_name ["_law_value"] (defScope s_l_is_name) := ⟨rfl, rfl, rfl, by decide +kernel, rfl, by decide +kernel, by decide +kernel⟩
abbrev s_l_parsed : Stmt := top 17
abbrev N_l_parsed : List Str := ["_law_value", "_law_least", "_law_most", "_law_one", "_law_number"]
theorem sc_l_parsed : FnScope N_l_parsed ["_law_value", "_law_least", "_law_most"] (defScope s_l_parsed) := ⟨rfl, rfl, rfl, by decide +kernel, rfl, by decide +kernel, by decide +kernel⟩
abbrev s_l_words : Stmt := top 18
abbrev N_l_words : List Str := ["_law_value", "_law_words_here", "_law_one"]
theorem sc_l_words : FnScope N_l_words ["_law_value"] (defScope s_l_words) := ⟨rfl, rfl, rfl, by decide +kernel, rfl, by decide +kernel, by decide +kernel⟩
abbrev s_l_same : Stmt := top 19
abbrev N_l_same : List Str := ["_law_actual", "_law_expected"]
theorem sc_l_same : FnScope N_l_same ["_law_actual", "_law_expected"] (defScope s_l_same) := ⟨rfl, rfl, rfl, by decide +kernel, rfl, by decide +kernel, by decide +kernel⟩
abbrev s_l_value_right : Stmt := top 20
abbrev N_l_value_right : List Str := ["_law_value", "_law_least", "_law_most", "_law_whole", "_law_actual", "_law_expected", "_law_words_here", "_law_turn", "_law_found", "_law_k"]
theorem sc_l_value_right : FnScope N_l_value_right ["_law_value", "_law_least", "_law_most"] (defScope s_l_value_right) := ⟨rfl, rfl, rfl, by decide +kernel, rfl, by decide +kernel, by decide +kernel⟩
abbrev s_law : Stmt := top 21
abbrev N_law : List Str := ["_law_script", "_law_index", "_law_bag_here", "_law_least", "_law_most", "_law_values", "_law_value"]
theorem sc_law : FnScope N_law ["_law_script"] (defScope s_law) := ⟨rfl, rfl, rfl, by decide +kernel, rfl, by decide +kernel, by decide +kernel⟩
structure Txt (K : PySem.W.Frag) (mg : Str → Option Value) where
  f_is_name : Addr
  fd_is_name : FuncData
  F_is_name : FunD K "is_name" "is_name" (defArgs s_is_name) (defBody s_is_name) (defScope s_is_name) [] [] f_is_name fd_is_name
  g_is_name : mg "is_name" = some (.ref f_is_name)
  f_is_any_integer : Addr
  fd_is_any_integer : FuncData
  F_is_any_integer : FunD K "is_any_integer" "is_any_integer" (defArgs s_is_any_integer) (defBody s_is_any_integer) (defScope s_is_any_integer) [] [] f_is_any_integer fd_is_any_integer
  g_is_any_integer : mg "is_any_integer" = some (.ref f_is_any_integer)
  f_is_integer : Addr
  fd_is_integer : FuncData
  F_is_integer : FunD K "is_integer" "is_integer" (defArgs s_is_integer) (defBody s_is_integer) (defScope s_is_integer) [] [] f_is_integer fd_is_integer
  g_is_integer : mg "is_integer" = some (.ref f_is_integer)
  f_is_numeral : Addr
  fd_is_numeral : FuncData
  F_is_numeral : FunD K "is_numeral" "is_numeral" (defArgs s_is_numeral) (defBody s_is_numeral) (defScope s_is_numeral) [] [] f_is_numeral fd_is_numeral
  g_is_numeral : mg "is_numeral" = some (.ref f_is_numeral)
  f_parse_integer : Addr
  fd_parse_integer : FuncData
  F_parse_integer : FunD K "parse_integer" "parse_integer" (defArgs s_parse_integer) (defBody s_parse_integer) (defScope s_parse_integer) [] [("low", .int 0), ("high", .int 999999)] f_parse_integer fd_parse_integer
  g_parse_integer : mg "parse_integer" = some (.ref f_parse_integer)
  f_split_words : Addr
  fd_split_words : FuncData
  F_split_words : FunD K "split_words" "split_words" (defArgs s_split_words) (defBody s_split_words) (defScope s_split_words) [] [] f_split_words fd_split_words
  g_split_words : mg "split_words" = some (.ref f_split_words)
  f_l_cell : Addr
  fd_l_cell : FuncData
  F_l_cell : FunD K "_law_cell" "_law_cell" (defArgs s_l_cell) (defBody s_l_cell) (defScope s_l_cell) [] [] f_l_cell fd_l_cell
  g_l_cell : mg "_law_cell" = some (.ref f_l_cell)
  f_l_bag : Addr
  fd_l_bag : FuncData
  F_l_bag : FunD K "_law_bag" "_law_bag" (defArgs s_l_bag) (defBody s_l_bag) (defScope s_l_bag) [] [] f_l_bag fd_l_bag
  g_l_bag : mg "_law_bag" = some (.ref f_l_bag)
  f_l_take : Addr
  fd_l_take : FuncData
  F_l_take : FunD K "_law_take" "_law_take" (defArgs s_l_take) (defBody s_l_take) (defScope s_l_take) [] [] f_l_take fd_l_take
  g_l_take : mg "_law_take" = some (.ref f_l_take)
  f_l_any_character : Addr
  fd_l_any_character : FuncData
  F_l_any_character : FunD K "_law_any_character" "_law_any_character" (defArgs s_l_any_character) (defBody s_l_any_character) (defScope s_l_any_character) [] [] f_l_any_character fd_l_any_character
  g_l_any_character : mg "_law_any_character" = some (.ref f_l_any_character)
  f_l_text : Addr
  fd_l_text : FuncData
  F_l_text : FunD K "_law_text" "_law_text" (defArgs s_l_text) (defBody s_l_text) (defScope s_l_text) [] [] f_l_text fd_l_text
  g_l_text : mg "_law_text" = some (.ref f_l_text)
  f_l_digits : Addr
  fd_l_digits : FuncData
  F_l_digits : FunD K "_law_digits" "_law_digits" (defArgs s_l_digits) (defBody s_l_digits) (defScope s_l_digits) [] [] f_l_digits fd_l_digits
  g_l_digits : mg "_law_digits" = some (.ref f_l_digits)
  f_l_words_text : Addr
  fd_l_words_text : FuncData
  F_l_words_text : FunD K "_law_words_text" "_law_words_text" (defArgs s_l_words_text) (defBody s_l_words_text) (defScope s_l_words_text) [] [] f_l_words_text fd_l_words_text
  g_l_words_text : mg "_law_words_text" = some (.ref f_l_words_text)
  f_l_odd : Addr
  fd_l_odd : FuncData
  F_l_odd : FunD K "_law_odd" "_law_odd" (defArgs s_l_odd) (defBody s_l_odd) (defScope s_l_odd) [] [] f_l_odd fd_l_odd
  g_l_odd : mg "_law_odd" = some (.ref f_l_odd)
  f_l_is_name : Addr
  fd_l_is_name : FuncData
  F_l_is_name : FunD K "_law_is_name" "_law_is_name" (defArgs s_l_is_name) (defBody s_l_is_name) (defScope s_l_is_name) [] [] f_l_is_name fd_l_is_name
  g_l_is_name : mg "_law_is_name" = some (.ref f_l_is_name)
  f_l_parsed : Addr
  fd_l_parsed : FuncData
  F_l_parsed : FunD K "_law_parsed" "_law_parsed" (defArgs s_l_parsed) (defBody s_l_parsed) (defScope s_l_parsed) [] [] f_l_parsed fd_l_parsed
  g_l_parsed : mg "_law_parsed" = some (.ref f_l_parsed)
  f_l_words : Addr
  fd_l_words : FuncData
  F_l_words : FunD K "_law_words" "_law_words" (defArgs s_l_words) (defBody s_l_words) (defScope s_l_words) [] [] f_l_words fd_l_words
  g_l_words : mg "_law_words" = some (.ref f_l_words)
  f_l_same : Addr
  fd_l_same : FuncData
  F_l_same : FunD K "_law_same" "_law_same" (defArgs s_l_same) (defBody s_l_same) (defScope s_l_same) [] [] f_l_same fd_l_same
  g_l_same : mg "_law_same" = some (.ref f_l_same)
  f_l_value_right : Addr
  fd_l_value_right : FuncData
  F_l_value_right : FunD K "_law_value_right" "_law_value_right" (defArgs s_l_value_right) (defBody s_l_value_right) (defScope s_l_value_right) [] [] f_l_value_right fd_l_value_right
  g_l_value_right : mg "_law_value_right" = some (.ref f_l_value_right)
  f_law : Addr
  fd_law : FuncData
  F_law : FunD K "law" "law" (defArgs s_law) (defBody s_law) (defScope s_law) [] [] f_law fd_law
  g_law : mg "law" = some (.ref f_law)
  n_abs : mg "abs" = none
  n_all : mg "all" = none
  n_bool : mg "bool" = none
  n_int : mg "int" = none
  n_isinstance : mg "isinstance" = none
  n_len : mg "len" = none
  n_list : mg "list" = none
  n_max : mg "max" = none
  n_min : mg "min" = none
  n_range : mg "range" = none
  n_str : mg "str" = none
theorem b_is_name {K : PySem.W.Frag} {mg : Str → Option Value} (T : Txt K mg) : Binds K T.fd_is_name ["value"] [] := T.F_is_name.bindsN fun _ _ _ _ _ _ us hl => match us, hl with | [_], _ => rfl
theorem b_is_any_integer {K : PySem.W.Frag} {mg : Str → Option Value} (T : Txt K mg) : Binds K T.fd_is_any_integer ["value"] [] := T.F_is_any_integer.bindsN fun _ _ _ _ _ _ us hl => match us, hl with | [_], _ => rfl
theorem b_is_integer {K : PySem.W.Frag} {mg : Str → Option Value} (T : Txt K mg) : Binds K T.fd_is_integer ["value", "low", "high"] [] := T.F_is_integer.bindsN fun _ _ _ _ _ _ us hl => match us, hl with | [_, _, _], _ => rfl
theorem b_is_numeral {K : PySem.W.Frag} {mg : Str → Option Value} (T : Txt K mg) : Binds K T.fd_is_numeral ["value"] [] := T.F_is_numeral.bindsN fun _ _ _ _ _ _ us hl => match us, hl with | [_], _ => rfl
theorem b_split_words {K : PySem.W.Frag} {mg : Str → Option Value} (T : Txt K mg) : Binds K T.fd_split_words ["text"] [] := T.F_split_words.bindsN fun _ _ _ _ _ _ us hl => match us, hl with | [_], _ => rfl
theorem b_l_cell {K : PySem.W.Frag} {mg : Str → Option Value} (T : Txt K mg) : Binds K T.fd_l_cell ["_law_script", "_law_index"] [] := T.F_l_cell.bindsN fun _ _ _ _ _ _ us hl => match us, hl with | [_, _], _ => rfl
theorem b_l_bag {K : PySem.W.Frag} {mg : Str → Option Value} (T : Txt K mg) : Binds K T.fd_l_bag ["_law_cell_here"] [] := T.F_l_bag.bindsN fun _ _ _ _ _ _ us hl => match us, hl with | [_], _ => rfl
theorem b_l_take {K : PySem.W.Frag} {mg : Str → Option Value} (T : Txt K mg) : Binds K T.fd_l_take ["_law_bag_here", "_law_count"] [] := T.F_l_take.bindsN fun _ _ _ _ _ _ us hl => match us, hl with | [_, _], _ => rfl
theorem b_l_any_character {K : PySem.W.Frag} {mg : Str → Option Value} (T : Txt K mg) : Binds K T.fd_l_any_character ["_law_bag_here"] [] := T.F_l_any_character.bindsN fun _ _ _ _ _ _ us hl => match us, hl with | [_], _ => rfl
theorem b_l_text {K : PySem.W.Frag} {mg : Str → Option Value} (T : Txt K mg) : Binds K T.fd_l_text ["_law_bag_here"] [] := T.F_l_text.bindsN fun _ _ _ _ _ _ us hl => match us, hl with | [_], _ => rfl
theorem b_l_digits {K : PySem.W.Frag} {mg : Str → Option Value} (T : Txt K mg) : Binds K T.fd_l_digits ["_law_bag_here"] [] := T.F_l_digits.bindsN fun _ _ _ _ _ _ us hl => match us, hl with | [_], _ => rfl
theorem b_l_words_text {K : PySem.W.Frag} {mg : Str → Option Value} (T : Txt K mg) : Binds K T.fd_l_words_text ["_law_bag_here"] [] := T.F_l_words_text.bindsN fun _ _ _ _ _ _ us hl => match us, hl with | [_], _ => rfl
theorem b_l_odd {K : PySem.W.Frag} {mg : Str → Option Value} (T : Txt K mg) : Binds K T.fd_l_odd ["_law_bag_here"] [] := T.F_l_odd.bindsN fun _ _ _ _ _ _ us hl => match us, hl with | [_], _ => rfl
theorem b_l_is_name {K : PySem.W.Frag} {mg : Str → Option Value} (T : Txt K mg) : Binds K T.fd_l_is_name ["_law_value"] [] := T.F_l_is_name.bindsN fun _ _ _ _ _ _ us hl => match us, hl with | [_], _ => rfl
theorem b_l_parsed {K : PySem.W.Frag} {mg : Str → Option Value} (T : Txt K mg) : Binds K T.fd_l_parsed ["_law_value", "_law_least", "_law_most"] [] := T.F_l_parsed.bindsN fun _ _ _ _ _ _ us hl => match us, hl with | [_, _, _], _ => rfl
theorem b_l_words {K : PySem.W.Frag} {mg : Str → Option Value} (T : Txt K mg) : Binds K T.fd_l_words ["_law_value"] [] := T.F_l_words.bindsN fun _ _ _ _ _ _ us hl => match us, hl with | [_], _ => rfl
theorem b_l_same {K : PySem.W.Frag} {mg : Str → Option Value} (T : Txt K mg) : Binds K T.fd_l_same ["_law_actual", "_law_expected"] [] := T.F_l_same.bindsN fun _ _ _ _ _ _ us hl => match us, hl with | [_, _], _ => rfl
theorem b_l_value_right {K : PySem.W.Frag} {mg : Str → Option Value} (T : Txt K mg) : Binds K T.fd_l_value_right ["_law_value", "_law_least", "_law_most"] [] := T.F_l_value_right.bindsN fun _ _ _ _ _ _ us hl => match us, hl with | [_, _, _], _ => rfl
theorem b_law {K : PySem.W.Frag} {mg : Str → Option Value} (T : Txt K mg) : Binds K T.fd_law ["_law_script"] [] := T.F_law.bindsN fun _ _ _ _ _ _ us hl => match us, hl with | [_], _ => rfl

end K01
namespace K01
open PySem PySem.Spec PyProof.Rows L2 TL
theorem ok_l_cell {P : Program} {w : World} {K : PySem.W.Frag} {mg : Str → Option Value} {base : Heap} (T : Txt K mg) : FnOk P w K mg base CX0 1 T.f_l_cell T.fd_l_cell ["_law_script", "_law_index"] (sp_cell K) := by
  refine T.F_l_cell.ok sc_l_cell (fun vs H Q E h => ?_) (fun cdv A outer s H vs Q E hr h => ?_)
  · obtain ⟨_, _, _, rfl, _⟩ := h; rfl
  · obtain ⟨l, ns, j, rfl, hS, hj, q⟩ := h
    refine ⟨_, PSs.nox (pss_cons (ps_if (pt_cmpR op_lt (pv 1) (pe_callB call_len_seq (by rfl) T.n_len (by decide +kernel) (pa_cons (pv 0) pa_nil)) (nomark _)) (pss_one (ps_ret (pe_ix (show IxR _ (rIxL K) from ix_list) (pv 0) (pv 1) (fun _ _ => rfl)))) pss_nil)
      (pss_one (ps_ret (pe_op op_add (pe_op op_mul pe_int (pv 1)) pe_int)))), ?_⟩
    refine ⟨_, rfl, _, rfl, l, _, rfl, .inl hS, _, _, rfl, rfl, _, rfl, ite2 (fun e => ?_) (fun e => ?_)⟩
    · have e1 := lt_of_dec e
      rw [List.length_map] at e1
      obtain ⟨v, hv⟩ := atI_ints hj e1
      exact ⟨_, rfl, _, rfl, l, _, _, _, rfl, rfl, hS, hv, q v⟩
    · exact ⟨_, rfl, _, _, rfl, rfl, .inl ⟨by decide, by decide⟩, _, _, rfl, rfl, q _⟩
theorem ok_l_bag {P : Program} {w : World} {K : PySem.W.Frag} {mg : Str → Option Value} {base : Heap} (T : Txt K mg) : FnOk P w K mg base CX0 1 T.f_l_bag T.fd_l_bag ["_law_cell_here"] (sp_bag K) := by
  refine T.F_l_bag.ok sc_l_bag (fun vs H Q E h => ?_) (fun cdv A outer s H vs Q E hr h => ?_)
  · obtain ⟨_, rfl, _⟩ := h; rfl
  · obtain ⟨c, rfl, q⟩ := h
    refine ⟨_, PSs.nox (pss_one (ps_ret (pe_lst (pa_cons (pe_callB (call_max2 rfl) (by rfl) T.n_max (by decide +kernel) (pa_cons pe_int (pa_cons (pe_op op_sub (pv 0) (pe_op op_pow pe_int pe_int)) pa_nil))) (pa_cons (pe_op op_mod (pv 0) pe_int) (pa_cons pe_int pa_nil)))))), ?_⟩
    refine ⟨_, rfl, _, _, rfl, rfl, ⟨by decide, by decide, by decide⟩, _, _, rfl, rfl, _, _, rfl, _, rfl, _, _, rfl, rfl, (show (0 : Int) < _ by decide), ?_⟩
    refine ⟨(by show 3 ≤ sizeLine; decide), fun p np => q p _ (Same.new np) np ⟨_, _, _, upd_same, ?_, (emod_in c (by decide)).1, (emod_in c (by decide)).2, Int.le_refl 0, Int.le_refl 0⟩⟩
    split <;> omega
theorem ok_l_take {P : Program} {w : World} {K : PySem.W.Frag} {mg : Str → Option Value} {base : Heap} (T : Txt K mg) : FnOk P w K mg base CX0 1 T.f_l_take T.fd_l_take ["_law_bag_here", "_law_count"] (sp_take K) := by
  refine T.F_l_take.ok sc_l_take (fun vs H Q E h => ?_) (fun cdv A outer s H vs Q E hr h => ?_)
  · obtain ⟨_, _, _, rfl, _⟩ := h; rfl
  · obtain ⟨b, n, c, rfl, ⟨x, y, z, hb, hx, hy, hy2, hz, hz2⟩, hn, hc, hc2, q⟩ := h
    have wc : CDivW x c := wide_div hc (b := 200) (by omega) (by decide) (by decide)
    refine ⟨_, PSs.nox (pss_cons (ps_if (pt_cmpR op_gt (pe_ix (show IxR _ (rIxL K) from ix_list) (pv 0) pe_int (fun _ _ => rfl)) pe_int (nomark _)) (pss_cons (ps_set (i := 2) sc_l_take.nd rfl (Or.inl rfl) (pe_op op_mod (pe_ix (show IxR _ (rIxL K) from ix_list) (pv 0) pe_int (fun _ _ => rfl)) (pv 1)))
      (pss_cons (ps_asg (pe_op op_fdivW (pe_ix (show IxR _ (rIxL K) from ix_list) (pv 0) pe_int (fun _ _ => rfl)) (pv 1)) (pg_sub (pv 0) pe_int set_list))
      (pss_one (ps_ret (pv 2))))) pss_nil)
      (pss_cons (ps_asg (pe_op op_add (pe_ix (show IxR _ (rIxL K) from ix_list) (pv 0) pe_int (fun _ _ => rfl)) pe_int) (pg_sub (pv 0) pe_int set_list))
      (pss_cons (ps_set (i := 3) sc_l_take.nd rfl (Or.inl rfl) (pe_op op_mod (pe_op op_pow (pe_op op_add (pe_op op_add (pe_ix (show IxR _ (rIxL K) from ix_list) (pv 0) pe_int (fun _ _ => rfl)) (pe_op op_mul pe_int (pe_ix (show IxR _ (rIxL K) from ix_list) (pv 0) pe_int (fun _ _ => rfl)))) pe_int) pe_int) pe_int))
      (pss_cons (ps_set (i := 3) sc_l_take.nd rfl (Or.inl rfl) (pe_op op_mod (pe_op op_pow (pe_op op_add (pv 3) (pe_op op_mul pe_int (pe_ix (show IxR _ (rIxL K) from ix_list) (pv 0) pe_int (fun _ _ => rfl)))) pe_int) pe_int))
      (pss_one (ps_ret (pe_op op_mod (pe_op op_fdivW (pv 3) pe_int) (pv 1)))))))), ?_⟩
    refine ⟨_, rfl, b, _, _, _, rfl, rfl, SqL.of hb, rfl, _, _, rfl, rfl, _, rfl, ite2 (fun e => ?_) (fun e => ?_)⟩
    · -- a digit of the cell
      refine ⟨_, rfl, b, _, _, _, rfl, rfl, SqL.of hb, rfl, _, rfl, _, _, rfl, rfl, hc, ?_⟩
      refine ⟨_, rfl, b, _, _, _, rfl, rfl, SqL.of hb, rfl, _, rfl, _, _, rfl, rfl, wc, ?_⟩
      refine ⟨_, rfl, b, _, _, 0, rfl, rfl, hb, rfl, ?_⟩
      refine ⟨_, rfl, q _ _ (Fr.upd_b (Fr.refl b H)) ⟨_, _, _, upd_same, Int.ediv_nonneg hx (by omega), hy, hy2, hz, by omega⟩ (emod_in x hc).1 (emod_in x hc).2⟩
    · -- a mixed one
      refine ⟨_, rfl, b, _, _, _, rfl, rfl, SqL.of hb, rfl, _, _, rfl, rfl, ?_⟩
      refine ⟨_, rfl, b, _, _, 2, rfl, rfl, hb, rfl, ?_⟩
      have hb2 : upd H b (.lst ([V.int x, V.int y, V.int z].set 2 (V.int (z + 1)))) b = some (.lst [.int x, .int y, .int (z + 1)]) := upd_same
      refine ⟨_, rfl, b, _, _, _, rfl, rfl, SqL.of hb2, rfl, _, rfl, b, _, _, _, rfl, rfl, SqL.of hb2, rfl, _, _, rfl, rfl, .inl ⟨by decide, by decide⟩, _, _, rfl, rfl, _, _, rfl, rfl, _, _, rfl, rfl, ⟨by decide, by decide, by omega⟩, _, _, rfl, rfl, (show (0 : Int) < _ by decide), ?_⟩
      have m1 := emod_in ((y + 7919 * (z + 1) + 101) ^ (5 : Int).toNat) (m := 2147483647) (by decide)
      generalize (y + 7919 * (z + 1) + 101) ^ (5 : Int).toNat % 2147483647 = t at m1
      refine ⟨_, rfl, _, rfl, b, _, _, _, rfl, rfl, SqL.of hb2, rfl, _, _, rfl, rfl, .inl ⟨by decide, by decide⟩, _, _, rfl, rfl, _, _, rfl, rfl, ⟨by decide, by decide, by omega⟩, _, _, rfl, rfl, (show (0 : Int) < _ by decide), ?_⟩
      have m2 := emod_in ((t + 104729 * (z + 1)) ^ (3 : Int).toNat) (m := 2147483587) (by decide)
      generalize (t + 104729 * (z + 1)) ^ (3 : Int).toNat % 2147483587 = u at m2
      refine ⟨_, rfl, _, _, rfl, rfl, wide_div (by decide) (b := 10) (by decide) (by decide) (by decide), _, rfl, _, _, rfl, rfl, hc, ?_⟩
      exact q _ _ (Fr.upd_b (Fr.refl b H)) ⟨_, _, _, upd_same, hx, hy, hy2, by omega, by omega⟩ (emod_in _ hc).1 (emod_in _ hc).2

end K01
namespace K01
open PySem PySem.Spec PyProof.Rows L2 TL
theorem ok_l_any_character {P : Program} {w : World} {K : PySem.W.Frag} {mg : Str → Option Value} {base : Heap} (T : Txt K mg) : FnOk P w K mg base CX0 2 T.f_l_any_character T.fd_l_any_character ["_law_bag_here"] (sp_str 1 1) := by
  refine T.F_l_any_character.ok sc_l_any_character (fun vs H Q E h => ?_) (fun cdv A outer s H vs Q E hr h => ?_)
  · obtain ⟨_, _, rfl, _⟩ := h; rfl
  · obtain ⟨b, n, rfl, hB, hn, q⟩ := h
    refine ⟨_, PSs.nox (pss_cons (ps_set (i := 1) sc_l_any_character.nd rfl (Or.inl rfl) pe_str)
      (pss_one (ps_ret (pe_ix ix_str (pv 1) (pe_call (ok_l_take T) (hr.mono (by decide)) (by rfl) T.g_l_take T.F_l_take.kp (b_l_take T) .nil pass0 (pa_cons (pv 0) (pa_cons pe_int pa_nil))) (fun _ _ => rfl))))), ?_⟩
    refine ⟨_, rfl, _, rfl, b, n, 95, rfl, hB, by omega, by decide, by decide, fun d H1 f1 b1 d0 d1 => ?_⟩
    obtain ⟨c, e, a⟩ := atI_in (xs := (Str.ofString " !\"#$&'()*+,-./0123456789:;<=>?@ABCDEFGHIJKLMNOPQRSTUVWXYZ[\\]^_`abcdefghijklmnopqrstuvwxyz{|}~\n").cps.toList) d0 (by
      rw [show (Str.ofString " !\"#$&'()*+,-./0123456789:;<=>?@ABCDEFGHIJKLMNOPQRSTUVWXYZ[\\]^_`abcdefghijklmnopqrstuvwxyz{|}~\n").cps.toList.length = 95 by decide +kernel]; exact d1)
    exact ⟨_, _, c, rfl, rfl, slen (by decide +kernel), a, q _ H1 f1 b1 (Nat.le_refl _)⟩
theorem ok_l_text {P : Program} {w : World} {K : PySem.W.Frag} {mg : Str → Option Value} {base : Heap} (T : Txt K mg) : FnOk P w K mg base CX0 3 T.f_l_text T.fd_l_text ["_law_bag_here"] (sp_str 20 24) := by
  refine T.F_l_text.ok sc_l_text (fun vs H Q E h => ?_) (fun cdv A outer s H vs Q E hr h => ?_)
  · obtain ⟨_, _, rfl, _⟩ := h; rfl
  · obtain ⟨b, n, rfl, hB, hn, q⟩ := h
    refine ⟨_, PSs.nox (pss_cons (ps_set (i := 1) sc_l_text.nd rfl (Or.inr rfl) pe_str)
      (pss_cons (ps_set (i := 2) sc_l_text.nd rfl (Or.inl rfl) (pe_join pe_str (pe_lc (own := [("_law_index", 5)]) (g := gName 5) rfl sc_l_text.nd (pi_range1 (by rfl) T.n_range (pa_cons (pe_call (ok_l_take T) (hr.mono (by decide)) (by rfl) T.g_l_take T.F_l_take.kp (b_l_take T) .nil pass0 (pa_cons (pv 0) (pa_cons pe_int pa_nil))) pa_nil)) (blkOk_by (own := [("_law_index", 5)]) (N := N_l_text) (sc := defScope s_l_text) (by decide +kernel)) (fun _ _ _ _ _ => pg_name (i := 5) sc_l_text.nd rfl (Or.inl rfl)) (fun _ _ _ _ _ => pts_nil) (fun _ _ _ _ _ => (pe_ix ix_str (pv 1) (pe_call (ok_l_take T) (hr.mono (by decide)) (by rfl) T.g_l_take T.F_l_take.kp (b_l_take T) .nil pass0 (pa_cons (pv 0) (pa_cons pe_int pa_nil))) (fun _ _ => rfl))))))
      (pss_cons (ps_if (pt_cmpR op_eq (pe_call (ok_l_take T) (hr.mono (by decide)) (by rfl) T.g_l_take T.F_l_take.kp (b_l_take T) .nil pass0 (pa_cons (pv 0) (pa_cons pe_int pa_nil))) pe_int (nomark _)) (pss_cons (ps_set (i := 3) sc_l_text.nd rfl (Or.inl rfl) (pe_call (ok_l_take T) (hr.mono (by decide)) (by rfl) T.g_l_take T.F_l_take.kp (b_l_take T) .nil pass0 (pa_cons (pv 0) (pa_cons (pe_op op_add (pe_callB call_len_str (by rfl) T.n_len (by decide +kernel) (pa_cons (pv 2) pa_nil)) pe_int) pa_nil))))
      (pss_cons (ps_set (i := 4) sc_l_text.nd rfl (Or.inl rfl) (pe_slice sl_str (pv 2) (po_some (pe_op op_add (pv 3) (pe_call (ok_l_take T) (hr.mono (by decide)) (by rfl) T.g_l_take T.F_l_take.kp (b_l_take T) .nil pass0 (pa_cons (pv 0) (pa_cons pe_int pa_nil))))) po_none))
      (pss_one (ps_set (i := 2) sc_l_text.nd rfl (Or.inl rfl) (pe_op op_add_str (pe_op op_add_str (pe_slice sl_str (pv 2) po_none (po_some (pv 3))) (pe_call (ok_l_any_character T) (hr.mono (by decide)) (by rfl) T.g_l_any_character T.F_l_any_character.kp (b_l_any_character T) .nil pass0 (pa_cons (pv 0) pa_nil))) (pv 4)))))) pss_nil)
      (pss_one (ps_ret (pv 2)))))), ?_⟩
    refine ⟨⟨_, rfl⟩, _, rfl, b, n, 11, rfl, hB, by omega, by decide, by decide, fun d H1 f1 b1 d0 d1 => ?_⟩
    refine ⟨d, rfl, by omega, by omega, fun D nD => lc_range (PvS b D H1 (n + 1) 1 1) (pvS_0 b1 nD) (fun i H' hi p => ⟨rfl, ?_⟩) (fun H2 p => ?_)⟩
    · obtain ⟨-, -, ys, -, -, -, -, hb'⟩ := _root_.id p
      refine ⟨_, rfl, _, rfl, b, _, 26, rfl, hb', by omega, by decide, by decide, fun d2 H3 f3 b3 d20 d21 => ?_⟩
      obtain ⟨c, e, a⟩ := atI_in (xs := (Str.ofString "abcdefghijklmnopqrstuvwxyz").cps.toList) d20 (by
        rw [show (Str.ofString "abcdefghijklmnopqrstuvwxyz").cps.toList.length = 26 by decide +kernel]; exact d21)
      exact ⟨_, _, c, rfl, rfl, slen (by decide +kernel), a, pvS_put p f3 (b3.mono (by omega)) (Nat.le_refl _) (by omega)⟩
    · obtain ⟨-, -, ys, hl, hs, hD, f2, b2⟩ := p
      have hjs := join_size (a := Str.ofString "") hs (n := 11) (A := 0) (by omega) (by decide +kernel)
      refine ⟨_, D, ys, rfl, rfl, .inl (SqL.of hD), by omega, ?_⟩
      have hjl := join_len (Str.ofString "") ys
      generalize Txt.join (Str.ofString "") ys = t at hjl
      have ht : t.length ≤ 11 := by omega
      -- if take(bag, 3) == 0
      refine ⟨_, rfl, b, _, 3, rfl, b2, by omega, by decide, by decide, fun d3 H3 f3 b3 d30 d31 => ?_⟩
      refine ⟨rfl, _, rfl, ite2 (fun e => ?_) (fun e => ?_)⟩
      · refine ⟨_, rfl, _, rfl, _, rfl, slen (by omega), _, _, rfl, rfl, b, _, _, rfl, b3, by omega, by omega, by omega, fun d4 H4 f4 b4 d40 d41 => ?_⟩
        refine ⟨_, rfl, _, rfl, _, rfl, b, _, 2, rfl, b4, by omega, by decide, by decide, fun d5 H5 f5 b5 d50 d51 => ?_⟩
        refine ⟨_, _, rfl, rfl, _, rfl, _, rfl, slen (by omega), ?_⟩
        refine ⟨_, rfl, _, rfl, _, rfl, _, rfl, slen (by omega), _, rfl, b, _, rfl, b5, by omega, fun c H6 f6 b6 hc => ?_⟩
        have c1 := cutS_length t none (some d4)
        have c2 := cutS_length t (some (d4 + d5)) none
        refine ⟨_, _, rfl, rfl, slen (by omega), _, rfl, _, _, rfl, rfl, ?_, ?_⟩
        · rw [app_len]; exact slen (by omega)
        · refine ⟨_, rfl, q _ H6 ((((f1.trans f2).trans f3).trans (f4.trans f5)).trans f6) (b6.mono (by omega)) ?_⟩
          rw [app_len, app_len]
          omega
      · exact ⟨_, rfl, q _ H3 ((f1.trans f2).trans f3) (b3.mono (by omega)) (by omega)⟩

end K01
namespace K01
open PySem PySem.Spec PyProof.Rows L2 TL
theorem six_at {i : Int} (h0 : 0 ≤ i) (h1 : i < 6) : ∃ v : Int, atI [V.int 1, .int 2, .int 3, .int 6, .int 7, .int 30] i = some (.int v) ∧ 0 ≤ v ∧ v ≤ 30 := by
  obtain ⟨v, e, a⟩ := atI_in (xs := [V.int 1, .int 2, .int 3, .int 6, .int 7, .int 30]) h0 (by exact h1)
  have hm := List.mem_of_getElem? e
  simp only [List.mem_cons, List.not_mem_nil, or_false] at hm
  rcases hm with rfl | rfl | rfl | rfl | rfl | rfl <;> exact ⟨_, a, by decide, by decide⟩
theorem strs_in {xs : List V} {L : Nat} (h : xs.all (fun v => match v with | .str s => decide (s.length ≤ L) | _ => false) = true) : ∀ v ∈ xs, ∃ s : Str, v = .str s ∧ s.length ≤ L := by
  intro v hv
  have := List.all_eq_true.mp h v hv
  cases v with
  | str s => exact ⟨s, rfl, of_decide_eq_true this⟩
  | _ => cases this
theorem ok_l_digits {P : Program} {w : World} {K : PySem.W.Frag} {mg : Str → Option Value} {base : Heap} (T : Txt K mg) : FnOk P w K mg base CX0 3 T.f_l_digits T.fd_l_digits ["_law_bag_here"] (sp_str 60 64) := by
  refine T.F_l_digits.ok sc_l_digits (fun vs H Q E h => ?_) (fun cdv A outer s H vs Q E hr h => ?_)
  · obtain ⟨_, _, rfl, _⟩ := h; rfl
  · obtain ⟨b, n, rfl, hB, hn, q⟩ := h
    refine ⟨_, PSs.nox (pss_cons (ps_set (i := 1) sc_l_digits.nd rfl (Or.inl rfl) (pe_join pe_str (pe_lc (own := [("_law_index", 4)]) (g := gName 4) rfl sc_l_digits.nd (pi_range1 (by rfl) T.n_range (pa_cons (pe_ix (show IxR _ (rIxL K) from ix_list) (pe_lst (pa_cons pe_int (pa_cons pe_int (pa_cons pe_int (pa_cons pe_int (pa_cons pe_int (pa_cons pe_int pa_nil))))))) (pe_call (ok_l_take T) (hr.mono (by decide)) (by rfl) T.g_l_take T.F_l_take.kp (b_l_take T) .nil pass0 (pa_cons (pv 0) (pa_cons pe_int pa_nil))) (fun _ _ => rfl)) pa_nil)) (blkOk_by (own := [("_law_index", 4)]) (N := N_l_digits) (sc := defScope s_l_digits) (by decide +kernel)) (fun _ _ _ _ _ => pg_name (i := 4) sc_l_digits.nd rfl (Or.inl rfl)) (fun _ _ _ _ _ => pts_nil) (fun _ _ _ _ _ => (pe_ix ix_str pe_str (pe_call (ok_l_take T) (hr.mono (by decide)) (by rfl) T.g_l_take T.F_l_take.kp (b_l_take T) .nil pass0 (pa_cons (pv 0) (pa_cons pe_int pa_nil))) (fun _ _ => rfl))))))
      (pss_cons (ps_set (i := 2) sc_l_digits.nd rfl (Or.inl rfl) (pe_call (ok_l_take T) (hr.mono (by decide)) (by rfl) T.g_l_take T.F_l_take.kp (b_l_take T) .nil pass0 (pa_cons (pv 0) (pa_cons pe_int pa_nil))))
      (pss_cons (ps_if (pt_cmpR op_eq (pv 2) pe_int (nomark _)) (pss_one (ps_ret (pe_op op_add_str (pe_op op_repS pe_str (pe_op op_add pe_int (pe_call (ok_l_take T) (hr.mono (by decide)) (by rfl) T.g_l_take T.F_l_take.kp (b_l_take T) .nil pass0 (pa_cons (pv 0) (pa_cons pe_int pa_nil))))) (pv 1)))) pss_nil)
      (pss_cons (ps_if (pt_cmpR op_eq (pv 2) pe_int (nomark _)) (pss_cons (ps_set (i := 3) sc_l_digits.nd rfl (Or.inl rfl) (pe_call (ok_l_take T) (hr.mono (by decide)) (by rfl) T.g_l_take T.F_l_take.kp (b_l_take T) .nil pass0 (pa_cons (pv 0) (pa_cons (pe_op op_add (pe_callB call_len_str (by rfl) T.n_len (by decide +kernel) (pa_cons (pv 1) pa_nil)) pe_int) pa_nil))))
      (pss_one (ps_ret (pe_op op_add_str (pe_op op_add_str (pe_slice sl_str (pv 1) po_none (po_some (pv 3))) (pe_call (ok_l_any_character T) (hr.mono (by decide)) (by rfl) T.g_l_any_character T.F_l_any_character.kp (b_l_any_character T) .nil pass0 (pa_cons (pv 0) pa_nil))) (pe_slice sl_str (pv 1) (po_some (pv 3)) po_none))))) pss_nil)
      (pss_one (ps_ret (pe_ix (show IxR _ (rIxL K) from ix_list) (pe_lst (pa_cons pe_str (pa_cons pe_str (pa_cons pe_str (pa_cons (pe_bm PySem.F.plainAttrs_str PySem.F.slot_str_strip PySem.F.type_str_strip mt_stripChars (pv 1) (pa_cons pe_str pa_nil)) (pa_cons (pv 1) pa_nil)))))) (pe_op op_sub (pv 2) pe_int) (fun _ _ => rfl)))))))), ?_⟩
    refine ⟨⟨_, rfl⟩, slen (by decide), fun p np => ?_⟩
    have bp := hB.ne np
    refine ⟨_, rfl, b, n, 6, rfl, hB.upd bp, by omega, by decide, by decide, fun d H1 f1 b1 d0 d1 => ?_⟩
    obtain ⟨v, hv, v0, v1⟩ := six_at d0 d1
    refine ⟨p, _, _, _, rfl, rfl, SqL.of (f1 p _ bp.symm upd_same), hv, ?_⟩
    refine ⟨v, rfl, by omega, by omega, fun D nD => lc_range (PvS b D H1 (n + 1) 1 1) (pvS_0 b1 nD) (fun i H' hi p => ⟨rfl, ?_⟩) (fun H2 p => ?_)⟩
    · obtain ⟨-, -, ys, -, -, -, -, hb'⟩ := _root_.id p
      refine ⟨_, rfl, b, _, 10, rfl, hb', by omega, by decide, by decide, fun d2 H3 f3 b3 d20 d21 => ?_⟩
      obtain ⟨c, e, a⟩ := atI_in (xs := (Str.ofString "0123456789").cps.toList) d20 (by
        rw [show (Str.ofString "0123456789").cps.toList.length = 10 by decide +kernel]; exact d21)
      exact ⟨_, _, c, rfl, rfl, slen (by decide +kernel), a, pvS_put p f3 (b3.mono (by omega)) (Nat.le_refl _) (by omega)⟩
    · obtain ⟨-, -, ys, hl, hs, hD, f2, b2⟩ := p
      have hjs := join_size (a := Str.ofString "") hs (n := 30) (A := 0) (by omega) (by decide +kernel)
      refine ⟨_, D, ys, rfl, rfl, .inl (SqL.of hD), by omega, ?_⟩
      have hjl := join_len (Str.ofString "") ys
      generalize Txt.join (Str.ofString "") ys = t at hjl
      have ht : t.length ≤ 30 := by omega
      have F2 : Fr b H H2 := ((Fr.new np).trans f1).trans f2
      refine ⟨_, rfl, b, _, 7, rfl, b2, by omega, by decide, by decide, fun w H3 f3 b3 w0 w1 => ?_⟩
      refine ⟨_, rfl, rfl, _, rfl, ite2 (fun e => ?_) (fun e => ?_)⟩
      · refine ⟨_, rfl, b, _, 3, rfl, b3, by omega, by decide, by decide, fun k H4 f4 b4 k0 k1 => ?_⟩
        refine ⟨_, _, rfl, rfl, _, _, rfl, rfl, by decide +kernel, by omega, by omega, fun s hs => ?_⟩
        have e1 : (Str.ofString "0").length = 1 := by decide +kernel
        have e2 : (1 + k).toNat ≤ 3 := by omega
        rw [e1, Nat.one_mul] at hs
        refine ⟨_, rfl, _, _, rfl, rfl, slen (by omega), ?_⟩
        exact q _ H4 (F2.trans (f3.trans f4)) (b4.mono (by omega)) (by rw [app_len]; omega)
      · have ew : w ≠ 0 := fun z => e (by subst z; exact decide_eq_true rfl)
        refine ⟨_, rfl, rfl, _, rfl, ite2 (fun e => ?_) (fun e => ?_)⟩
        · refine ⟨_, rfl, _, rfl, _, rfl, slen (by omega), _, _, rfl, rfl, b, _, _, rfl, b3, by omega, by omega, by omega, fun d4 H4 f4 b4 d40 d41 => ?_⟩
          refine ⟨_, rfl, _, rfl, _, rfl, _, rfl, slen (by omega), _, rfl, b, _, rfl, b4, by omega, fun c H6 f6 b6 hc => ?_⟩
          have c1 := cutS_length t none (some d4)
          have c2 := cutS_length t (some d4) none
          refine ⟨_, _, rfl, rfl, slen (by omega), _, rfl, _, rfl, _, rfl, _, rfl, slen (by omega), _, _, rfl, rfl, ?_, ?_⟩
          · rw [app_len]; exact slen (by omega)
          · refine q _ H6 ((F2.trans f3).trans (f4.trans f6)) (b6.mono (by omega)) ?_
            rw [app_len, app_len]
            omega
        · have ew1 : w ≠ 1 := fun z => e (by subst z; exact decide_eq_true rfl)
          have ls := PyProof.Rows.len_stripChars t (Str.ofString "0")
          refine ⟨_, rfl, rfl, _, _, rfl, rfl, slen (by omega), _, rfl, lenk 5 rfl (by decide), fun p2 np2 => ?_⟩
          refine ⟨_, rfl, _, _, rfl, rfl, ?_⟩
          obtain ⟨u, ha, hu⟩ := str_at (L := 64) (xs := [.str (Str.ofString "999999"), .str (Str.ofString "1000000"), .str (Str.ofString "0"), .str (Txt.stripChars t (Str.ofString "0")), .str t]) (i := w - 2) (by omega) (by show w - 2 < 5; omega) (fun v hv => by
            simp only [List.mem_cons, List.not_mem_nil, or_false] at hv
            rcases hv with rfl | rfl | rfl | rfl | rfl
            · exact ⟨_, rfl, by decide +kernel⟩
            · exact ⟨_, rfl, by decide +kernel⟩
            · exact ⟨_, rfl, by decide +kernel⟩
            · exact ⟨_, rfl, by omega⟩
            · exact ⟨_, rfl, by omega⟩)
          refine ⟨p2, _, _, _, rfl, rfl, SqL.of upd_same, ha, q u _ (((F2.trans f3)).trans (Fr.new np2)) ((b3.upd (b3.ne np2)).mono (by omega)) hu⟩

end K01
namespace K01
open PySem PySem.Spec PyProof.Rows L2 TL
theorem ok_l_words_text {P : Program} {w : World} {K : PySem.W.Frag} {mg : Str → Option Value} {base : Heap} (T : Txt K mg) : FnOk P w K mg base CX0 4 T.f_l_words_text T.fd_l_words_text ["_law_bag_here"] (sp_str 100 400) := by
  refine T.F_l_words_text.ok sc_l_words_text (fun vs H Q E h => ?_) (fun cdv A outer s H vs Q E hr h => ?_)
  · obtain ⟨_, _, rfl, _⟩ := h; rfl
  · obtain ⟨b, n, rfl, hB, hn, q⟩ := h
    refine ⟨_, PSs.nox (pss_cons (ps_set (i := 1) sc_l_words_text.nd rfl (Or.inl rfl) (pe_join pe_str (pe_lc (own := [("_law_index", 2)]) (g := gName 2) rfl sc_l_words_text.nd (pi_range1 (by rfl) T.n_range (pa_cons (pe_op op_add pe_int (pe_call (ok_l_take T) (hr.mono (by decide)) (by rfl) T.g_l_take T.F_l_take.kp (b_l_take T) .nil pass0 (pa_cons (pv 0) (pa_cons pe_int pa_nil)))) pa_nil)) (blkOk_by (own := [("_law_index", 2)]) (N := N_l_words_text) (sc := defScope s_l_words_text) (by decide +kernel)) (fun _ _ _ _ _ => pg_name (i := 2) sc_l_words_text.nd rfl (Or.inl rfl)) (fun _ _ _ _ _ => pts_nil) (fun _ _ _ _ _ => (pe_call (ok_l_text T) (hr.mono (by decide)) (by rfl) T.g_l_text T.F_l_text.kp (b_l_text T) .nil pass0 (pa_cons (pv 0) pa_nil))))))
      (pss_one (ps_ret (pe_ix (show IxR _ (rIxL K) from ix_list) (pe_lst (pa_cons (pv 1) (pa_cons (pv 1) (pa_cons (pv 1) (pa_cons (pe_op op_add_str pe_str (pv 1)) (pa_cons (pe_op op_add_str (pv 1) pe_str) (pa_cons (pe_op op_add_str (pe_op op_add_str (pv 1) pe_str) (pv 1)) (pa_cons (pe_bm PySem.F.plainAttrs_str PySem.F.slot_str_strip PySem.F.type_str_strip mt_stripChars (pv 1) (pa_cons pe_str pa_nil)) pa_nil)))))))) (pe_call (ok_l_take T) (hr.mono (by decide)) (by rfl) T.g_l_take T.F_l_take.kp (b_l_take T) .nil pass0 (pa_cons (pv 0) (pa_cons pe_int pa_nil))) (fun _ _ => rfl))))), ?_⟩
    refine ⟨⟨_, rfl⟩, _, rfl, b, n, 4, rfl, hB, by omega, by decide, by decide, fun d H1 f1 b1 d0 d1 => ?_⟩
    refine ⟨_, _, rfl, rfl, 1 + d, rfl, by omega, by omega, fun D nD => lc_range (PvS b D H1 (n + 1) 20 24) (pvS_0 b1 nD) (fun i H' hi p => ⟨rfl, ?_⟩) (fun H2 p => ?_)⟩
    · obtain ⟨-, -, ys, -, -, -, -, hb'⟩ := _root_.id p
      refine ⟨_, rfl, b, _, rfl, hb', by omega, fun u H3 f3 b3 hu => ?_⟩
      exact pvS_put p f3 (b3.mono (by omega)) hu (by omega)
    · obtain ⟨-, -, ys, hl, hs, hD, f2, b2⟩ := p
      have hjs := join_size (a := Str.ofString " ") hs (n := 4) (A := 1) (by omega) (by decide +kernel)
      refine ⟨_, D, ys, rfl, rfl, .inl (SqL.of hD), by omega, ?_⟩
      have hjl := join_len (Str.ofString " ") ys
      generalize Txt.join (Str.ofString " ") ys = t at hjl
      have ht : t.length ≤ 100 := by omega
      have ls := PyProof.Rows.len_stripChars t (Str.ofString " ")
      have e1 : (Str.ofString " ").length = 1 := by decide +kernel
      have e2 : (Str.ofString "\n").length = 1 := by decide +kernel
      refine ⟨_, rfl, _, rfl, _, rfl, _, rfl, _, _, rfl, rfl, by rw [e1]; exact slen (by omega), _, rfl, _, _, rfl, rfl, by rw [e1]; exact slen (by omega), ?_⟩
      refine ⟨_, rfl, _, _, rfl, rfl, by rw [e2]; exact slen (by omega), _, rfl, _, _, rfl, rfl, by rw [app_len, e2]; exact slen (by omega), ?_⟩
      refine ⟨_, rfl, rfl, _, _, rfl, rfl, slen (by omega), lenk 7 rfl (by decide), fun p np => ?_⟩
      have bp := b2.ne np
      refine ⟨_, rfl, b, _, 7, rfl, b2.upd bp, by omega, by decide, by decide, fun w H3 f3 b3 w0 w1 => ?_⟩
      have hp : H3 p = _ := f3 p _ bp.symm upd_same
      obtain ⟨u, ha, hu⟩ := str_at (L := 400) (xs := [.str t, .str t, .str t, .str (Str.ofString " " ++ t), .str (t ++ Str.ofString " "), .str (t ++ Str.ofString "\n" ++ t), .str (Txt.stripChars t (Str.ofString " "))]) (i := w) w0 (by show w < 7; omega) (fun v hv => by
        simp only [List.mem_cons, List.not_mem_nil, or_false] at hv
        rcases hv with rfl | rfl | rfl | rfl | rfl | rfl | rfl <;> refine ⟨_, rfl, ?_⟩ <;> first | omega | (simp only [app_len]; omega))
      exact ⟨p, _, _, _, rfl, rfl, SqL.of hp, ha, q u _ ((f1.trans f2).trans ((Fr.new np).trans f3)) (b3.mono (by omega)) hu⟩

end K01
namespace K01
open PySem PySem.Spec PyProof.Rows L2 TL
/-! ### the values that are asked about -/
inductive OkV (H : Hp) : V → Prop where
  | str (s : Str) (h : s.length ≤ 1000) : OkV H (.str s)
  | non : OkV H .non
  | bl (b : Bool) : OkV H (.bl b)
  | int (i : Int) : OkV H (.int i)
  | lst {a : Addr} {xs : List V} (e : H a = some (.lst xs)) : OkV H (.ref a)
  | tup {a : Addr} {xs : List V} (e : H a = some (.tup xs)) : OkV H (.ref a)
  | dK {a : Addr} {xs : List (Key × V)} (e : H a = some (.dK xs)) : OkV H (.ref a)
theorem OkV.same {H H' : Hp} {v : V} (h : OkV H v) (s : Same H H') : OkV H' v := by
  cases h with
  | str s h => exact .str s h
  | non => exact .non
  | bl b => exact .bl b
  | int i => exact .int i
  | lst e => exact .lst (s _ _ e)
  | tup e => exact .tup (s _ _ e)
  | dK e => exact .dK (s _ _ e)
def isStr : V → Bool | .str _ => true | _ => false
def isInt : V → Bool | .int _ => true | .bl _ => true | _ => false
def isBl : V → Bool | .bl _ => true | _ => false
def isLst (H : Hp) : V → Bool | .ref a => (match H a with | some (.lst _) => true | _ => false) | _ => false
theorem isi_str {K : PySem.W.Frag} {H : Hp} {v : V} (h : OkV H v) : ∃ t, TyX K H v t ∧ PySem.W.kitOne K t (.type "str") = some (isStr v) := by
  cases h with
  | str s h => exact ⟨_, .base (.str _), kit_ty (show kitB "str" "str" = some true by decide +kernel)⟩
  | non => exact ⟨_, .base .non, kit_ty (show kitB "NoneType" "str" = some false by decide +kernel)⟩
  | bl b => exact ⟨_, .base (.bl _), kit_ty (show kitB "bool" "str" = some false by decide +kernel)⟩
  | int i => exact ⟨_, .base (.int _), kit_ty (show kitB "int" "str" = some false by decide +kernel)⟩
  | lst e => exact ⟨_, .base (.lst e), kit_ty (show kitB "list" "str" = some false by decide +kernel)⟩
  | tup e => exact ⟨_, .base (.tup e), kit_ty (show kitB "tuple" "str" = some false by decide +kernel)⟩
  | dK e => exact ⟨_, .base (.dK e), kit_ty (show kitB "dict" "str" = some false by decide +kernel)⟩
theorem isi_int {K : PySem.W.Frag} {H : Hp} {v : V} (h : OkV H v) : ∃ t, TyX K H v t ∧ PySem.W.kitOne K t (.type "int") = some (isInt v) := by
  cases h with
  | str s h => exact ⟨_, .base (.str _), kit_ty (show kitB "str" "int" = some false by decide +kernel)⟩
  | non => exact ⟨_, .base .non, kit_ty (show kitB "NoneType" "int" = some false by decide +kernel)⟩
  | bl b => exact ⟨_, .base (.bl _), kit_ty (show kitB "bool" "int" = some true by decide +kernel)⟩
  | int i => exact ⟨_, .base (.int _), kit_ty (show kitB "int" "int" = some true by decide +kernel)⟩
  | lst e => exact ⟨_, .base (.lst e), kit_ty (show kitB "list" "int" = some false by decide +kernel)⟩
  | tup e => exact ⟨_, .base (.tup e), kit_ty (show kitB "tuple" "int" = some false by decide +kernel)⟩
  | dK e => exact ⟨_, .base (.dK e), kit_ty (show kitB "dict" "int" = some false by decide +kernel)⟩
theorem isi_bool {K : PySem.W.Frag} {H : Hp} {v : V} (h : OkV H v) : ∃ t, TyX K H v t ∧ PySem.W.kitOne K t (.type "bool") = some (isBl v) := by
  cases h with
  | str s h => exact ⟨_, .base (.str _), kit_ty (show kitB "str" "bool" = some false by decide +kernel)⟩
  | non => exact ⟨_, .base .non, kit_ty (show kitB "NoneType" "bool" = some false by decide +kernel)⟩
  | bl b => exact ⟨_, .base (.bl _), kit_ty (show kitB "bool" "bool" = some true by decide +kernel)⟩
  | int i => exact ⟨_, .base (.int _), kit_ty (show kitB "int" "bool" = some false by decide +kernel)⟩
  | lst e => exact ⟨_, .base (.lst e), kit_ty (show kitB "list" "bool" = some false by decide +kernel)⟩
  | tup e => exact ⟨_, .base (.tup e), kit_ty (show kitB "tuple" "bool" = some false by decide +kernel)⟩
  | dK e => exact ⟨_, .base (.dK e), kit_ty (show kitB "dict" "bool" = some false by decide +kernel)⟩
/-! ### comprehensions over a text's signs that change nothing -/
def PvF (z : Str) (p : Nat → Bool) (f : Nat → V) (D : Addr) (H1 : Hp) (i : Nat) (H' : Hp) : Prop := H1 D = none ∧ H' D = some (.lst (((z.cps.toList.take i).filter p).map f)) ∧ Same H1 H'
theorem pvF_0 {z : Str} {p : Nat → Bool} {f : Nat → V} {D : Addr} {H1 : Hp} (hD : H1 D = none) : PvF z p f D H1 0 (upd H1 D (.lst [])) := ⟨hD, upd_same, Same.new hD⟩
theorem take_cps {z : Str} {i c : Nat} (h : z.cps[i]? = some c) : z.cps.toList.take (i + 1) = z.cps.toList.take i ++ [c] := by
  rw [List.take_add_one, Array.getElem?_toList, h]; rfl
theorem pvF_put {z : Str} {p : Nat → Bool} {f : Nat → V} {D : Addr} {H1 H' H4 : Hp} {i c : Nat} (hz : z.length ≤ 1000) (q : PvF z p f D H1 i H') (hc : z.cps[i]? = some c) (hp : p c = true) (s : Same H' H4) :
    ∃ acc, H4 D = some (.lst acc) ∧ acc.length < sizeLine ∧ PvF z p f D H1 (i + 1) (upd H4 D (.lst (acc ++ [f c]))) := by
  obtain ⟨hD, h1, h2⟩ := q
  refine ⟨_, s _ _ h1, ?_, hD, ?_, Same.upd_p (h2.trans s) hD⟩
  · rw [List.length_map]
    have a1 := List.length_filter_le p (z.cps.toList.take i)
    have a2 : (z.cps.toList.take i).length ≤ z.cps.toList.length := List.length_take_le' ..
    have a3 : z.cps.toList.length = z.length := by simp [Str.length]
    have : sizeLine = 16777216 := sizeLine_eq
    omega
  · rw [upd_same, take_cps hc, List.filter_append, List.map_append]
    simp [hp]
theorem pvF_skip {z : Str} {p : Nat → Bool} {f : Nat → V} {D : Addr} {H1 H' H4 : Hp} {i c : Nat} (q : PvF z p f D H1 i H') (hc : z.cps[i]? = some c) (hp : p c = false) (s : Same H' H4) : PvF z p f D H1 (i + 1) H4 := by
  obtain ⟨hD, h1, h2⟩ := q
  refine ⟨hD, ?_, h2.trans s⟩
  rw [s _ _ h1, take_cps hc, List.filter_append]
  simp [hp]
theorem pvF_end {z : Str} {p : Nat → Bool} {f : Nat → V} {D : Addr} {H1 H' : Hp} (q : PvF z p f D H1 z.cps.size H') : H1 D = none ∧ H' D = some (.lst ((z.cps.toList.filter p).map f)) ∧ Same H1 H' := by
  obtain ⟨hD, h1, h2⟩ := q
  refine ⟨hD, ?_, h2⟩
  rw [h1, List.take_of_length_le (by rw [Array.length_toList]; exact Nat.le_refl _)]
theorem sgn_lt (c d : Nat) : decide ([c] < [d]) = decide (c < d) := by
  rw [decide_eq_decide, List.cons_lt_cons_iff]
  simp
/-! ### what the answers are -/
def low (c : Nat) : Bool := decide (97 ≤ c) && decide (c ≤ 122)
def dig (c : Nat) : Bool := decide (48 ≤ c) && decide (c ≤ 57)
def nameV : V → Bool
  | .str s => (decide (1 ≤ s.length) && decide (s.length ≤ 8)) && s.cps.toList.all low
  | _ => false
def sp_val (g : V → V) : Sp := fun vs H Q _ => ∃ v, vs = [v] ∧ OkV H v ∧ ∀ H', Same H H' → Q (g v) H'

end K01
namespace K01
open PySem PySem.Spec PyProof.Rows L2 TL
theorem a97 : (Str.ofString "a").cps.toList = [97] := by decide +kernel
theorem z122 : (Str.ofString "z").cps.toList = [122] := by decide +kernel
theorem d48 : (Str.ofString "0").cps.toList = [48] := by decide +kernel
theorem d57 : (Str.ofString "9").cps.toList = [57] := by decide +kernel
theorem ge_chr (c d : Nat) : (!decide ([c] < [d])) = decide (d ≤ c) := by
  rw [sgn_lt, ← decide_not, decide_eq_decide]; omega
theorem flt_true {α : Type} (l : List α) : l.filter (fun _ => true) = l := by simp
theorem nameV_str (s : Str) : nameV (.str s) = ((decide (1 ≤ s.length) && decide (s.length ≤ 8)) && s.cps.toList.all low) := rfl
theorem ok_is_name {P : Program} {w : World} {K : PySem.W.Frag} {mg : Str → Option Value} {base : Heap} (T : Txt K mg) : FnOk P w K mg base CX0 1 T.f_is_name T.fd_is_name ["value"] (sp_val (fun v => .bl (nameV v))) := by
  refine T.F_is_name.ok sc_is_name (fun vs H Q E h => ?_) (fun cdv A outer s H vs Q E hr h => ?_)
  · obtain ⟨_, rfl, _⟩ := h; rfl
  · obtain ⟨v, rfl, hv, q⟩ := h
    replace q : ∀ H', Same H H' → Q (.bl (nameV v)) H' := q
    obtain ⟨t, ty, kk⟩ := isi_str (K := K) hv
    refine ⟨_, PSs.nox (pss_cons (ps_if (PW.pt (pw_or (pt_not (pt_val (pe_callB (show CallR _ _ (rIsi K) from call_isi) (by rfl) T.n_isinstance (by decide +kernel) (pa_cons (pv 0) (pa_cons (pe_bltn (v := .ty "str") (by rfl) T.n_str (by decide +kernel) rfl) pa_nil))))) (pw_or1 (pt_not (pt_chain op_le op_le pe_int (pe_callB call_len_str (by rfl) T.n_len (by decide +kernel) (pa_cons (pv 0) pa_nil)) pe_int))))) (pss_one (ps_ret pe_bl)) pss_nil)
      (pss_one (ps_ret (pe_callB (cr_all rfl) (by rfl) T.n_all (by decide +kernel) (pa_cons (pe_lc (own := [("letter", 1)]) (g := gName 1) rfl sc_is_name.nd (pi_str (pv 0)) (blkOk_by (own := [("letter", 1)]) (N := N_is_name) (sc := defScope s_is_name) (by decide +kernel)) (fun _ _ _ _ _ => pg_name (i := 1) sc_is_name.nd rfl (Or.inl rfl)) (fun _ _ _ _ _ => pts_nil) (fun _ _ _ _ _ => (pe_chain op_le_str op_le_str pe_str (pv 1) pe_str))) pa_nil))))), ?_⟩
    by_cases hs : isStr v = true
    · cases hv with
      | str z hz =>
        refine ⟨_, rfl, _, _, t, _, _, rfl, .ty _, ty, kk, _, rfl, ?_⟩
        refine ⟨_, rfl, z, rfl, slen (by omega), _, _, rfl, rfl, _, rfl, ite2 (fun e1 => ?_) (fun e1 => ?_)⟩
        · have e1' := of_decide_eq_true e1
          refine ⟨_, _, rfl, rfl, _, rfl, ite2 (fun e2 => ?_) (fun e2 => ?_)⟩
          · have e2' : ¬ ((z.length : Int) ≤ 8) := by simpa using e2
            have en : nameV (.str z) = false := by
              rw [nameV_str]
              rw [decide_eq_false (show ¬ z.length ≤ 8 by omega), Bool.and_false, Bool.false_and]
            rw [en] at q
            exact q H (Same.refl H)
          · have e2' : (z.length : Int) ≤ 8 := by simpa using e2
            refine ⟨_, rfl, z, rfl, fun D nD => lc_it walk_str (PvF z (fun _ => true) (fun c => .bl (low c)) D H) (pvF_0 nD) (fun _ _ _ _ => trivial) (fun i x H' H'' hi p y => ?_) (fun H' p => ?_)⟩
            · obtain ⟨rfl, c, hc, rfl⟩ := y
              refine ⟨rfl, _, rfl, _, _, rfl, rfl, _, rfl, ite2 (fun e3 => ?_) (fun e3 => ?_)⟩
              · rw [a97, ge_chr] at e3
                refine ⟨_, _, rfl, rfl, ?_⟩
                have el : (!decide ((Str.ofString "z").cps.toList < (⟨#[c]⟩ : Str).cps.toList)) = low c := by
                  rw [z122, ge_chr]; unfold low; rw [e3, Bool.true_and]
                rw [el]
                exact pvF_put (f := fun c => V.bl (low c)) hz p hc rfl (Same.refl _)
              · rw [a97, ge_chr] at e3
                have el : low c = false := by
                  unfold low; rw [Bool.eq_false_iff.mpr e3, Bool.false_and]
                rw [← el]
                exact pvF_put (f := fun c => V.bl (low c)) hz p hc rfl (Same.refl _)
            · obtain ⟨nD', hD, sm⟩ := pvF_end p
              rw [flt_true] at hD
              refine ⟨D, z.cps.toList.map low, rfl, SqL.of (by rw [hD, List.map_map]; rfl), ?_⟩
              have en : nameV (.str z) = (z.cps.toList.map low).all id := by
                rw [nameV_str]
                rw [decide_eq_true (show 1 ≤ z.length by omega), decide_eq_true (show z.length ≤ 8 by omega), List.all_map]
                rfl
              rw [← en]
              exact q H' sm
        · have e1' : ¬ (1 : Int) ≤ z.length := fun x => e1 (decide_eq_true x)
          have en : nameV (.str z) = false := by
            rw [nameV_str]
            rw [decide_eq_false (show ¬ 1 ≤ z.length by omega), Bool.false_and, Bool.false_and]
          rw [en] at q
          exact ⟨_, rfl, q H (Same.refl H)⟩
      | _ => cases hs
    · rw [Bool.eq_false_iff.mpr hs] at kk
      have en : nameV v = false := by cases v <;> first | rfl | exact absurd rfl hs
      rw [en] at q
      exact ⟨_, rfl, _, _, t, _, _, rfl, .ty _, ty, kk, _, rfl, q H (Same.refl H)⟩

end K01
namespace K01
open PySem PySem.Spec PyProof.Rows L2 TL
def intV : V → Bool | .int _ => true | _ => false
theorem ok_is_any_integer {P : Program} {w : World} {K : PySem.W.Frag} {mg : Str → Option Value} {base : Heap} (T : Txt K mg) : FnOk P w K mg base CX0 1 T.f_is_any_integer T.fd_is_any_integer ["value"] (sp_val (fun v => .bl (intV v))) := by
  refine T.F_is_any_integer.ok sc_is_any_integer (fun vs H Q E h => ?_) (fun cdv A outer s H vs Q E hr h => ?_)
  · obtain ⟨_, rfl, _⟩ := h; rfl
  · obtain ⟨v, rfl, hv, q⟩ := h
    replace q : ∀ H', Same H H' → Q (.bl (intV v)) H' := q
    replace q := q H (Same.refl H)
    obtain ⟨t, ty, kk⟩ := isi_int (K := K) hv
    obtain ⟨t2, ty2, kk2⟩ := isi_bool (K := K) hv
    refine ⟨_, PSs.nox (pss_one (ps_ret (pe_and (pe_callB (show CallR _ _ (rIsi K) from call_isi) (by rfl) T.n_isinstance (by decide +kernel) (pa_cons (pv 0) (pa_cons (pe_bltn (v := .ty "int") (by rfl) T.n_int (by decide +kernel) rfl) pa_nil))) (pe_one (pe_not (pe_callB (show CallR _ _ (rIsi K) from call_isi) (by rfl) T.n_isinstance (by decide +kernel) (pa_cons (pv 0) (pa_cons (pe_bltn (v := .ty "bool") (by rfl) T.n_bool (by decide +kernel) rfl) pa_nil)))))))), ?_⟩
    refine ⟨_, rfl, _, _, t, _, _, rfl, .ty _, ty, kk, _, rfl, ite2 (fun e => ?_) (fun e => ?_)⟩
    · refine ⟨_, rfl, _, _, t2, _, _, rfl, .ty _, ty2, kk2, _, rfl, ?_⟩
      have en : intV v = !isBl v := by cases v <;> first | rfl | cases e
      rw [← en]; exact q
    · have en : intV v = false := by cases v <;> first | rfl | exact absurd rfl e
      rw [← en]; exact q
def rngV (v : V) (lo hi : Int) : Bool := match v with | .int i => decide (lo ≤ i) && decide (i ≤ hi) | _ => false
def sp_rng : Sp := fun vs H Q _ => ∃ (v : V) (lo hi : Int), vs = [v, .int lo, .int hi] ∧ OkV H v ∧ ∀ H', Same H H' → Q (.bl (rngV v lo hi)) H'
theorem ok_is_integer {P : Program} {w : World} {K : PySem.W.Frag} {mg : Str → Option Value} {base : Heap} (T : Txt K mg) : FnOk P w K mg base CX0 2 T.f_is_integer T.fd_is_integer ["value", "low", "high"] (sp_rng) := by
  refine T.F_is_integer.ok sc_is_integer (fun vs H Q E h => ?_) (fun cdv A outer s H vs Q E hr h => ?_)
  · obtain ⟨_, _, _, rfl, _⟩ := h; rfl
  · obtain ⟨v, lo, hi, rfl, hv, q⟩ := h
    refine ⟨_, PSs.nox (pss_one (ps_ret (pe_and (pe_call (ok_is_any_integer T) (hr.mono (by decide)) (by rfl) T.g_is_any_integer T.F_is_any_integer.kp (b_is_any_integer T) .nil pass0 (pa_cons (pv 0) pa_nil)) (pe_one (pe_chain op_le op_le (pv 1) (pv 0) (pv 2)))))), ?_⟩
    refine ⟨_, rfl, v, rfl, hv, fun H1 s1 => ?_⟩
    replace q := q H1 s1
    refine ⟨_, rfl, ite2 (fun e => ?_) (fun e => ?_)⟩
    · obtain ⟨i, rfl⟩ : ∃ i, v = .int i := by cases v <;> first | exact ⟨_, rfl⟩ | cases e
      have en : rngV (.int i) lo hi = (decide (lo ≤ i) && decide (i ≤ hi)) := rfl
      rw [en] at q
      refine ⟨_, rfl, _, rfl, _, _, rfl, rfl, _, rfl, ite2 (fun e1 => ?_) (fun e1 => ?_)⟩
      · rw [e1, Bool.true_and] at q
        exact ⟨_, rfl, _, _, rfl, rfl, q⟩
      · rw [Bool.eq_false_iff.mpr e1, Bool.false_and] at q
        exact q
    · have en : rngV v lo hi = false := by cases v <;> first | rfl | exact absurd rfl e
      rw [en] at q; exact q
/-! ### numerals -/
def numL (l : List Nat) : Bool := (!l.isEmpty && l.all dig) && (decide (l = [48]) || !decide (l.head? = some 48))
def numV : V → Bool | .str s => numL s.cps.toList | _ => false
theorem str_eq {x y : Str} : decide (V.str x = V.str y) = decide (x.cps.toList = y.cps.toList) := by
  rw [decide_eq_decide]
  constructor
  · intro h; cases h; rfl
  · intro h; exact congrArg V.str (ext_tl h)
theorem emp : (Str.ofString "").cps.toList = [] := by decide +kernel
theorem ok_is_numeral {P : Program} {w : World} {K : PySem.W.Frag} {mg : Str → Option Value} {base : Heap} (T : Txt K mg) : FnOk P w K mg base CX0 1 T.f_is_numeral T.fd_is_numeral ["value"] (sp_val (fun v => .bl (numV v))) := by
  refine T.F_is_numeral.ok sc_is_numeral (fun vs H Q E h => ?_) (fun cdv A outer s H vs Q E hr h => ?_)
  · obtain ⟨_, rfl, _⟩ := h; rfl
  · obtain ⟨v, rfl, hv, q⟩ := h
    replace q : ∀ H', Same H H' → Q (.bl (numV v)) H' := q
    obtain ⟨t, ty, kk⟩ := isi_str (K := K) hv
    refine ⟨_, PSs.nox (pss_cons (ps_if (PW.pt (pw_or (pt_not (pt_val (pe_callB (show CallR _ _ (rIsi K) from call_isi) (by rfl) T.n_isinstance (by decide +kernel) (pa_cons (pv 0) (pa_cons (pe_bltn (v := .ty "str") (by rfl) T.n_str (by decide +kernel) rfl) pa_nil))))) (pw_or1 (pt_cmpR op_eq (pv 0) pe_str (nomark _))))) (pss_one (ps_ret pe_bl)) pss_nil)
      (pss_cons (ps_if (pt_not (pt_val (pe_callB (cr_all rfl) (by rfl) T.n_all (by decide +kernel) (pa_cons (pe_lc (own := [("digit", 1)]) (g := gName 1) rfl sc_is_numeral.nd (pi_str (pv 0)) (blkOk_by (own := [("digit", 1)]) (N := N_is_numeral) (sc := defScope s_is_numeral) (by decide +kernel)) (fun _ _ _ _ _ => pg_name (i := 1) sc_is_numeral.nd rfl (Or.inl rfl)) (fun _ _ _ _ _ => pts_nil) (fun _ _ _ _ _ => (pe_chain op_le_str op_le_str pe_str (pv 1) pe_str))) pa_nil)))) (pss_one (ps_ret pe_bl)) pss_nil)
      (pss_one (ps_ret (pe_or (pe_cmpR op_eq (pv 0) pe_str (nomark _)) (pe_one (pe_cmpR op_ne (pe_ix ix_str (pv 0) pe_int (fun _ _ => rfl)) pe_str (nomark _)))))))), ?_⟩
    by_cases hs : isStr v = true
    · cases hv with
      | str z hz =>
        have en : numV (.str z) = numL z.cps.toList := rfl
        rw [en] at q
        have el : z.length = z.cps.toList.length := by simp [Str.length]
        refine ⟨_, rfl, _, _, t, _, _, rfl, .ty _, ty, kk, _, rfl, ?_⟩
        refine ⟨_, rfl, rfl, _, rfl, ite2 (fun e1 => ?_) (fun e1 => ?_)⟩
        · rw [str_eq, emp] at e1
          have e1' := of_decide_eq_true e1
          have en2 : numL z.cps.toList = false := by rw [e1']; rfl
          rw [en2] at q
          exact q H (Same.refl H)
        · rw [str_eq, emp] at e1
          have e1' : z.cps.toList ≠ [] := fun x => e1 (decide_eq_true x)
          refine ⟨_, rfl, z, rfl, fun D nD => lc_it walk_str (PvF z (fun _ => true) (fun c => .bl (dig c)) D H) (pvF_0 nD) (fun _ _ _ _ => trivial) (fun i x H' H'' hi p y => ?_) (fun H' p => ?_)⟩
          · obtain ⟨rfl, c, hc, rfl⟩ := y
            refine ⟨rfl, _, rfl, _, _, rfl, rfl, _, rfl, ite2 (fun e3 => ?_) (fun e3 => ?_)⟩
            · rw [d48, ge_chr] at e3
              refine ⟨_, _, rfl, rfl, ?_⟩
              have el : (!decide ((Str.ofString "9").cps.toList < (⟨#[c]⟩ : Str).cps.toList)) = dig c := by
                rw [d57, ge_chr]; unfold dig; rw [e3, Bool.true_and]
              rw [el]
              exact pvF_put (f := fun c => V.bl (dig c)) hz p hc rfl (Same.refl _)
            · rw [d48, ge_chr] at e3
              have el : dig c = false := by
                unfold dig; rw [Bool.eq_false_iff.mpr e3, Bool.false_and]
              rw [← el]
              exact pvF_put (f := fun c => V.bl (dig c)) hz p hc rfl (Same.refl _)
          · obtain ⟨nD', hD, sm⟩ := pvF_end p
            rw [flt_true] at hD
            replace q := q H' sm
            refine ⟨D, z.cps.toList.map dig, rfl, SqL.of (by rw [hD, List.map_map]; rfl), _, rfl, ite2 (fun e4 => ?_) (fun e4 => ?_)⟩
            · have e4' : z.cps.toList.all dig = false := by
                rw [List.all_map] at e4
                simpa using e4
              have en2 : numL z.cps.toList = false := by
                unfold numL
                rw [e4', Bool.and_false, Bool.false_and]
              rw [en2] at q
              exact q
            · have e4' : z.cps.toList.all dig = true := by
                rw [List.all_map] at e4
                simpa using e4
              have en2 : numL z.cps.toList = (decide (z.cps.toList = [48]) || !decide (z.cps.toList.head? = some 48)) := by
                unfold numL
                rw [e4', Bool.and_true, show (!z.cps.toList.isEmpty) = true by simpa using e1', Bool.true_and]
              rw [en2] at q
              refine ⟨_, rfl, rfl, _, rfl, ite2 (fun e5 => ?_) (fun e5 => ?_)⟩
              · rw [str_eq, d48] at e5
                rw [e5, Bool.true_or] at q
                exact q
              · rw [str_eq, d48] at e5
                rw [Bool.eq_false_iff.mpr e5, Bool.false_or] at q
                obtain ⟨c, r, ecr⟩ := List.exists_cons_of_ne_nil e1'
                refine ⟨_, rfl, z, 0, c, rfl, rfl, slen (by omega), by rw [ecr]; exact atI_nat (j := 0) rfl, rfl, ?_⟩
                rw [ecr] at q
                have e6 : decide (V.str ⟨#[c]⟩ = V.str (Str.ofString "0")) = decide ((c :: r).head? = some 48) := by
                  rw [str_eq, d48, decide_eq_decide]
                  simp
                rw [e6]
                exact q
      | _ => cases hs
    · rw [Bool.eq_false_iff.mpr hs] at kk
      have en : numV v = false := by cases v <;> first | rfl | exact absurd rfl hs
      rw [en] at q
      exact ⟨_, rfl, _, _, t, _, _, rfl, .ty _, ty, kk, _, rfl, q H (Same.refl H)⟩

end K01
namespace K01
open PySem PySem.Spec PyProof.Rows L2 TL
/-! ### the number of a numeral -/
def fv (n : Int) (l : List Nat) : Int := l.foldl (fun (n : Int) (c : Nat) => n * 10 + ((c : Int) - 48)) n
def valL (l : List Nat) : Int := fv 0 l
theorem fv_app (n : Int) (l m : List Nat) : fv n (l ++ m) = fv (fv n l) m := by unfold fv; rw [List.foldl_append]
theorem valL_snoc (l : List Nat) (c : Nat) : valL (l ++ [c]) = valL l * 10 + ((c : Int) - 48) := by
  unfold valL; rw [fv_app]; rfl
theorem dig_iff {c : Nat} : dig c = true ↔ 48 ≤ c ∧ c ≤ 57 := by
  unfold dig; simp
theorem fv_le : ∀ (l : List Nat) (n : Int), l.all dig = true → 0 ≤ n → n ≤ fv n l
  | [], n, _, _ => Int.le_refl n
  | c :: r, n, h, h0 => by
    rw [List.all_cons, Bool.and_eq_true] at h
    have h1 := dig_iff.mp h.1
    have h2 := fv_le r (n * 10 + ((c : Int) - 48)) h.2 (by omega)
    show n ≤ fv (n * 10 + ((c : Int) - 48)) r
    omega
theorem valL_nn (l : List Nat) (h : l.all dig = true) : 0 ≤ valL l := fv_le l 0 h (Int.le_refl 0)
theorem valL_take (l : List Nat) (i : Nat) (h : l.all dig = true) : 0 ≤ valL (l.take i) ∧ valL (l.take i) ≤ valL l := by
  have e : l = l.take i ++ l.drop i := (List.take_append_drop i l).symm
  have h1 : (l.take i).all dig = true := by
    rw [List.all_eq_true] at h ⊢
    exact fun x hx => h x (List.mem_of_mem_take hx)
  have h2 : (l.drop i).all dig = true := by
    rw [List.all_eq_true] at h ⊢
    exact fun x hx => h x (List.mem_of_mem_drop hx)
  refine ⟨valL_nn _ h1, ?_⟩
  have e2 : valL l = fv (valL (l.take i)) (l.drop i) := by
    unfold valL; rw [← fv_app, ← e]
  rw [e2]
  exact fv_le _ _ h2 (valL_nn _ h1)
theorem int_dig {c : Nat} (h : dig c = true) : PySem.intText? (⟨#[c]⟩ : Str) = some ((c : Int) - 48) := by
  have h1 := dig_iff.mp h
  have h2 : c = 48 ∨ c = 49 ∨ c = 50 ∨ c = 51 ∨ c = 52 ∨ c = 53 ∨ c = 54 ∨ c = 55 ∨ c = 56 ∨ c = 57 := by omega
  rcases h2 with rfl | rfl | rfl | rfl | rfl | rfl | rfl | rfl | rfl | rfl <;> decide +kernel
theorem index_dig {c : Nat} (h : dig c = true) : Txt.index0 (Str.ofString "0123456789") (⟨#[c]⟩ : Str) = some (c - 48) := by
  have h1 := dig_iff.mp h
  have h2 : c = 48 ∨ c = 49 ∨ c = 50 ∨ c = 51 ∨ c = 52 ∨ c = 53 ∨ c = 54 ∨ c = 55 ∨ c = 56 ∨ c = 57 := by omega
  rcases h2 with rfl | rfl | rfl | rfl | rfl | rfl | rfl | rfl | rfl | rfl <;> decide +kernel
/-- what parse gives -/
def parV (v : V) (lo hi : Int) : V := match v with
  | .str s => if numL s.cps.toList = true ∧ lo ≤ valL s.cps.toList ∧ valL s.cps.toList ≤ hi then .int (valL s.cps.toList) else .non
  | _ => .non
theorem parV_yes {s : Str} {lo hi : Int} (h : numL s.cps.toList = true) (h1 : lo ≤ valL s.cps.toList) (h2 : valL s.cps.toList ≤ hi) : parV (.str s) lo hi = .int (valL s.cps.toList) := if_pos ⟨h, h1, h2⟩
theorem parV_no {s : Str} {lo hi : Int} (h : ¬ (numL s.cps.toList = true ∧ lo ≤ valL s.cps.toList ∧ valL s.cps.toList ≤ hi)) : parV (.str s) lo hi = .non := if_neg h
theorem numL_dig {l : List Nat} (h : numL l = true) : l.all dig = true ∧ l ≠ [] := by
  unfold numL at h
  rw [Bool.and_eq_true, Bool.and_eq_true] at h
  exact ⟨h.1.2, by simpa using h.1.1⟩
def sp_par : Sp := fun vs H Q _ => ∃ (v : V) (lo hi : Int), vs = [v, .int lo, .int hi] ∧ OkV H v ∧ ∀ H', Same H H' → Q (parV v lo hi) H'
theorem ok_parse_integer {P : Program} {w : World} {K : PySem.W.Frag} {mg : Str → Option Value} {base : Heap} (T : Txt K mg) : FnOk P w K mg base CX0 2 T.f_parse_integer T.fd_parse_integer ["text", "low", "high"] (sp_par) := by
  refine T.F_parse_integer.ok sc_parse_integer (fun vs H Q E h => ?_) (fun cdv A outer s H vs Q E hr h => ?_)
  · obtain ⟨_, _, _, rfl, _⟩ := h; rfl
  · obtain ⟨v, lo, hi, rfl, hv, q⟩ := h
    refine ⟨_, PSs.nox (pss_cons (ps_if (pt_not (pt_val (pe_call (ok_is_numeral T) (hr.mono (by decide)) (by rfl) T.g_is_numeral T.F_is_numeral.kp (b_is_numeral T) .nil pass0 (pa_cons (pv 0) pa_nil)))) (pss_one (ps_ret pe_non)) pss_nil)
      (pss_cons (ps_set (i := 3) sc_parse_integer.nd rfl (Or.inl rfl) pe_int)
      (pss_cons (ps_for PassesOwn.never rfl (pi_str (pv 0)) (pg_name (i := 4) sc_parse_integer.nd rfl (Or.inl rfl)) (pss_cons (ps_set (i := 3) sc_parse_integer.nd rfl (Or.inl rfl) (pe_op op_add (pe_op op_mul (pv 3) pe_int) (pe_callTy call_int_str (by rfl) T.n_int (by decide +kernel) (pa_cons (pv 4) pa_nil))))
      (pss_one (ps_if (pt_cmpR op_gt (pv 3) (pv 2) (nomark _)) (pss_one (ps_ret pe_non)) pss_nil))))
      (pss_one (ps_ret (pe_ifExp (pt_cmpR op_ge (pv 3) (pv 1) (nomark _)) (pv 3) pe_non)))))), ?_⟩
    refine ⟨_, rfl, v, rfl, hv, fun H1 s1 => ?_⟩
    replace q := fun H' s' => q H' (s1.trans s')
    refine ⟨_, rfl, ite2 (fun e => ?_) (fun e => ?_)⟩
    · have e' : numV v = false := by simpa using e
      have en : parV v lo hi = .non := by
        cases v with
        | str z => exact parV_no fun x => by rw [show numV (.str z) = numL z.cps.toList from rfl, x.1] at e'; cases e'
        | _ => rfl
      rw [en] at q
      exact q H1 (Same.refl H1)
    · have e' : numV v = true := by simpa using e
      obtain ⟨z, rfl⟩ : ∃ z, v = .str z := by cases v <;> first | exact ⟨_, rfl⟩ | cases e'
      have hn : numL z.cps.toList = true := e'
      obtain ⟨hd, hne⟩ := numL_dig hn
      replace q := q H1 (Same.refl H1)
      refine ⟨_, rfl, z, rfl, for_it walk_str (fun i σ H' => H' = H1 ∧ (0 < i → valL (z.cps.toList.take i) ≤ hi) ∧ ∃ w, σ = [some (.str z), some (.int lo), some (.int hi), some (.int (valL (z.cps.toList.take i))), w]) ⟨rfl, fun h => absurd h (by omega), none, rfl⟩ (fun _ _ _ _ _ => trivial) (fun i x σ H' H'' hi' p y => ?_) (fun σ H' p => ?_)⟩
      · obtain ⟨rfl, c, hc, rfl⟩ := y
        obtain ⟨rfl, -, w, rfl⟩ := p
        have hcd : dig c = true := by
          rw [List.all_eq_true] at hd
          refine hd c ?_
          rw [← Array.getElem?_toList] at hc
          exact List.mem_of_getElem? hc
        refine ⟨_, rfl, _, _, rfl, rfl, .inr ⟨by decide, by decide⟩, _, rfl, _, _, rfl, int_dig hcd, by show 1 ≤ 640; decide, _, _, rfl, rfl, ?_⟩
        have ev : valL (z.cps.toList.take (i + 1)) = valL (z.cps.toList.take i) * 10 + ((c : Int) - 48) := by rw [take_cps hc, valL_snoc]
        refine ⟨_, rfl, _, rfl, _, _, rfl, rfl, _, rfl, ite2 (fun e2 => ?_) (fun e2 => ?_)⟩
        · have e2' := of_decide_eq_true e2
          rw [← ev] at e2'
          have ht := (valL_take z.cps.toList (i + 1) hd).2
          rw [parV_no fun x => by have := x.2.2; omega] at q
          exact q
        · have e2' : ¬ hi < valL (z.cps.toList.take i) * 10 + ((c : Int) - 48) := fun x => e2 (decide_eq_true x)
          exact ⟨rfl, fun _ => by omega, _, by rw [ev]; rfl⟩
      · obtain ⟨rfl, hh, w, rfl⟩ := p
        have et : z.cps.toList.take z.cps.size = z.cps.toList := List.take_of_length_le (by rw [Array.length_toList]; exact Nat.le_refl _)
        have hz0 : 0 < z.cps.size := by
          rw [← Array.length_toList]
          exact List.length_pos_iff.mpr hne
        rw [et] at hh ⊢
        have hh' := hh hz0
        refine ⟨_, rfl, _, rfl, _, _, rfl, rfl, _, rfl, ite2 (fun e2 => ?_) (fun e2 => ?_)⟩
        · rw [parV_yes hn (of_decide_eq_true e2) hh'] at q
          exact ⟨_, rfl, q⟩
        · rw [parV_no fun x => e2 (decide_eq_true x.2.1)] at q
          exact q

end K01
namespace K01
open PySem PySem.Spec PyProof.Rows L2 TL
/-! ### words -/
def wStep (ws : List (List Nat)) (c : Nat) : List (List Nat) := if c = 32 then ws ++ [[]] else ws.dropLast ++ [ws.getLastD [] ++ [c]]
def wsF (l : List Nat) : List (List Nat) := l.foldl wStep [[]]
theorem wStep_sp (d : List (List Nat)) (a : List Nat) : wStep (d ++ [a]) 32 = d ++ [a] ++ [[]] := by unfold wStep; rw [if_pos rfl]
theorem wStep_no (d : List (List Nat)) (a : List Nat) {c : Nat} (h : c ≠ 32) : wStep (d ++ [a]) c = d ++ [a ++ [c]] := by
  unfold wStep
  rw [if_neg h, List.dropLast_concat, List.getLastD_concat]
theorem spl_fold : ∀ (l : List Nat) (d : List (List Nat)) (a : List Nat), d ++ spl [32] 0 a l = l.foldl wStep (d ++ [a])
  | [], d, a => rfl
  | c :: r, d, a => by
    show d ++ (if pre [32] (c :: r) = true then a :: spl [32] 0 [] r else spl [32] 0 (a ++ [c]) r) = r.foldl wStep (wStep (d ++ [a]) c)
    by_cases h : c = 32
    · subst h
      rw [if_pos (show pre [32] (32 :: r) = true by simp [pre]), wStep_sp, ← spl_fold r (d ++ [a]) [], List.append_assoc]
      rfl
    · rw [if_neg (by simp [pre, h]), wStep_no d a h, ← spl_fold r d (a ++ [c])]
theorem split_ws (z : Str) : Txt.split z (Str.ofString " ") = (wsF z.cps.toList).map fun w => ⟨w.toArray⟩ := by
  refine map_tl_inj ?_
  have e32 : tl (Str.ofString " ") = [32] := by decide +kernel
  rw [split_spl z (Str.ofString " ") (by rw [e32]; simp) (kind_ok (by decide +kernel)), e32, List.map_map]
  have h := spl_fold (tl z) [] []
  rw [List.nil_append, List.nil_append] at h
  rw [h]
  have e : (tl ∘ fun w : List Nat => (⟨w.toArray⟩ : Str)) = id := by funext w; exact tl_mk w
  rw [e, List.map_id]
  rfl
/-- the words of a value, None where there are none -/
def wrdV (v : V) : Option (List Str) := match v with
  | .str s => if 10 ∈ s.cps.toList then none else if [] ∈ wsF s.cps.toList then none else some ((wsF s.cps.toList).map fun w => ⟨w.toArray⟩)
  | _ => none
def sp_wrd : Sp := fun vs H Q _ => ∃ v, vs = [v] ∧ OkV H v ∧ (wrdV v = none → ∀ H', Same H H' → Q .non H') ∧
  (∀ ws, wrdV v = some ws → ∀ p H', Same H H' → H p = none → H' p = some (.lst (ws.map V.str)) → Q (.ref p) H')
theorem nl10 : Str.ofString "\n" = ⟨#[10]⟩ := by decide +kernel
theorem inV_emp (ws : List (List Nat)) : inV (.str (Str.ofString "")) ((ws.map fun w => (⟨w.toArray⟩ : Str)).map V.str) = decide ([] ∈ ws) := by
  unfold inV
  rw [List.map_map, List.any_map]
  have e : Str.ofString "" = (⟨([] : List Nat).toArray⟩ : Str) := by decide +kernel
  rw [e]
  induction ws with
  | nil => rfl
  | cons a r ih =>
    rw [List.any_cons, ih]
    show ((⟨a.toArray⟩ : Str) == (⟨([] : List Nat).toArray⟩ : Str) || decide ([] ∈ r)) = decide ([] ∈ a :: r)
    cases a with
    | nil => simp
    | cons x y => simp
theorem all_flat (ws : List Str) : (ws.map V.str).all flatV = true := by
  rw [List.all_map, List.all_eq_true]
  intro x _; rfl
theorem ok_split_words {P : Program} {w : World} {K : PySem.W.Frag} {mg : Str → Option Value} {base : Heap} (T : Txt K mg) : FnOk P w K mg base CX0 1 T.f_split_words T.fd_split_words ["text"] (sp_wrd) := by
  refine T.F_split_words.ok sc_split_words (fun vs H Q E h => ?_) (fun cdv A outer s H vs Q E hr h => ?_)
  · obtain ⟨_, rfl, _⟩ := h; rfl
  · obtain ⟨v, rfl, hv, q0, q1⟩ := h
    obtain ⟨t, ty, kk⟩ := isi_str (K := K) hv
    refine ⟨_, PSs.nox (pss_cons (ps_if (PW.pt (pw_or (pt_not (pt_val (pe_callB (show CallR _ _ (rIsi K) from call_isi) (by rfl) T.n_isinstance (by decide +kernel) (pa_cons (pv 0) (pa_cons (pe_bltn (v := .ty "str") (by rfl) T.n_str (by decide +kernel) rfl) pa_nil))))) (pw_or1 (pt_cmpR op_in_sign pe_str (pv 0) (by first | rfl | with_unfolding_all rfl))))) (pss_one (ps_ret pe_non)) pss_nil)
      (pss_cons (ps_set (i := 1) sc_split_words.nd rfl (Or.inl rfl) (pe_split (pv 0) pe_str))
      (pss_one (ps_ret (pe_ifExp (pt_cmpR (show OpR _ (compareOp .In) (rIn K false) from op_in_seq) pe_str (pv 1) (by first | rfl | with_unfolding_all rfl)) pe_non (pv 1)))))), ?_⟩
    by_cases hs : isStr v = true
    · cases hv with
      | str z hz =>
        refine ⟨_, rfl, _, _, t, _, _, rfl, .ty _, ty, kk, _, rfl, ?_⟩
        refine ⟨_, rfl, 10, z, congrArg V.str nl10, rfl, _, rfl, ite2 (fun e1 => ?_) (fun e1 => ?_)⟩
        · exact q0 (if_pos (of_decide_eq_true e1)) H (Same.refl H)
        · have e1' : ¬ 10 ∈ z.cps.toList := fun x => e1 (decide_eq_true x)
          refine ⟨_, rfl, ⟨_, rfl⟩, z, _, rfl, rfl, by decide +kernel, slen (by omega), fun p np => ?_⟩
          rw [split_ws]
          refine ⟨_, rfl, p, _, rfl, .inl (SqL.of upd_same), rfl, all_flat _, _, rfl, ite2 (fun e2 => ?_) (fun e2 => ?_)⟩
          · have e2' := (inV_emp _).symm.trans e2
            exact q0 ((if_neg e1').trans (if_pos (of_decide_eq_true e2'))) _ (Same.new np)
          · have e2' : ¬ [] ∈ wsF z.cps.toList := fun x => e2 ((inV_emp _).trans (decide_eq_true x))
            exact ⟨_, rfl, q1 _ ((if_neg e1').trans (if_neg e2')) p _ (Same.new np) np upd_same⟩
      | _ => cases hs
    · rw [Bool.eq_false_iff.mpr hs] at kk
      have en : wrdV v = none := by cases v <;> first | rfl | exact absurd rfl hs
      exact ⟨_, rfl, _, _, t, _, _, rfl, .ty _, ty, kk, _, rfl, q0 en H (Same.refl H)⟩

end K01
namespace K01
open PySem PySem.Spec PyProof.Rows L2 TL
/-! ### == and != of lists and tuples at any depth, both answers -/
inductive EqN (K : PySem.W.Frag) (H : Hp) : Nat → V → V → Bool → Prop where
  | same (n : Nat) (a : Addr) : EqN K H n (.ref a) (.ref a) true
  | flat {x y : V} (n : Nat) (hx : flatV x = true) (hy : flatV y = true) : EqN K H n x y (eqV x y)
  | lst {n : Nat} {a b : Addr} {xs ys : List V} (e : Nat → Bool) (hx : SqL K H a xs) (hy : SqL K H b ys) (hne : a ≠ b) (hl : xs.length = ys.length)
      (he : ∀ (j : Nat) (x y : V), xs[j]? = some x → ys[j]? = some y → EqN K H n x y (e j)) : EqN K H (n + 1) (.ref a) (.ref b) ((List.range xs.length).all e)
  | lstN {n : Nat} {a b : Addr} {xs ys : List V} (hx : SqL K H a xs) (hy : SqL K H b ys) (hne : a ≠ b) (hl : xs.length ≠ ys.length) : EqN K H (n + 1) (.ref a) (.ref b) false
  | tup {n : Nat} {a b : Addr} {xs ys : List V} (e : Nat → Bool) (hx : SqT K H a xs) (hy : SqT K H b ys) (hne : a ≠ b)
      (he : ∀ (j : Nat) (x y : V), xs[j]? = some x → ys[j]? = some y → EqN K H n x y (e j)) : EqN K H (n + 1) (.ref a) (.ref b) ((List.range (min xs.length ys.length)).all e && xs.length == ys.length)
section
variable {X : Cx} {pins : List (Addr × Obj)} {σ : L2.St} {H : Hp} {s : Shared}
theorem vals_at {xs : List V} {its : List Value} (r : Vals xs its) {j : Nat} (h : j < its.toArray.size) : ∃ x, xs[j]? = some x ∧ RelV x its.toArray[j] := by
  have hj : j < xs.length := by rw [r.length]; simpa using h
  obtain ⟨u, hu, ru⟩ := r.get (List.getElem?_eq_getElem hj)
  have e : its.toArray[j] = u := by
    have : its[j]? = some its.toArray[j] := by simp
    rw [this] at hu
    exact Option.some.inj hu
  exact ⟨_, List.getElem?_eq_getElem hj, by rw [e]; exact ru⟩
theorem eqN_at (I : Inv X pins σ H s) {n : Nat} {x y : V} {c : Bool} (h : EqN X.K H n x y c) : ∀ {u v : Value} {A : Around}, A.units + n < cLine → RelV x u → RelV y v → SeqAt.EqAt A s u v c := by
  induction h with
  | same n a => intro u v A hu rx ry; cases rx; cases ry; exact SeqAt.EqAt.same _
  | flat n hx hy => intro u v A hu rx ry; exact eqAt_V rx ry hx hy
  | @lst n a b xs ys e hx hy hne hl he ih =>
    intro u v A hu rx ry
    cases rx; cases ry
    obtain ⟨its, r, pl, hz⟩ := I.list hx
    obtain ⟨its2, r2, pl2, hz2⟩ := I.list hy
    have hs1 : its.toArray.size = xs.length := by rw [List.size_toArray]; exact r.length.symm
    have hs2 : its2.toArray.size = ys.length := by rw [List.size_toArray]; exact r2.length.symm
    rw [← hs1]
    refine SeqAt.EqAt.of_refs hne (SeqAt.RcAt.lists pl.isList pl2.isList (by rw [hs1, hs2, hl]) (by omega) fun j h1 h2 => ?_)
    obtain ⟨x, ex, qx⟩ := vals_at r h1
    obtain ⟨y, ey, qy⟩ := vals_at r2 h2
    exact ih j x y ex ey (by show A.units + 1 + _ < _; omega) qx qy
  | @lstN n a b xs ys hx hy hne hl =>
    intro u v A hu rx ry
    cases rx; cases ry
    obtain ⟨its, r, pl, hz⟩ := I.list hx
    obtain ⟨its2, r2, pl2, hz2⟩ := I.list hy
    refine SeqAt.EqAt.of_refs hne (SeqAt.RcAt.lists_lengths pl.isList pl2.isList ?_ (by omega))
    have h1 := r.length
    have h2 := r2.length
    rw [List.size_toArray, List.size_toArray]
    simpa using (by omega : its.length ≠ its2.length)
  | @tup n a b xs ys e hx hy hne he ih =>
    intro u v A hu rx ry
    cases rx; cases ry
    obtain ⟨its, r, pl, hz⟩ := I.tuple hx
    obtain ⟨its2, r2, pl2, hz2⟩ := I.tuple hy
    have hs1 : its.toArray.size = xs.length := by rw [List.size_toArray]; exact r.length.symm
    have hs2 : its2.toArray.size = ys.length := by rw [List.size_toArray]; exact r2.length.symm
    rw [← hs1, ← hs2]
    refine SeqAt.EqAt.of_refs hne (SeqAt.RcAt.tuples pl pl2 (by omega) fun j h1 h2 => ?_)
    obtain ⟨x, ex, qx⟩ := vals_at r h1
    obtain ⟨y, ey, qy⟩ := vals_at r2 h2
    exact ih j x y ex ey (by show A.units + 1 + _ < _; omega) qx qy
/-- at the top no look at identity is taken -/
inductive EqTop (K : PySem.W.Frag) (H : Hp) : V → V → Bool → Prop where
  | scal {x y : V} (h : scal x y = true) : EqTop K H x y (decide (x = y))
  | lst {n : Nat} {a b : Addr} {xs ys : List V} (e : Nat → Bool) (hn : n ≤ 60) (hx : SqL K H a xs) (hy : SqL K H b ys) (hl : xs.length = ys.length)
      (he : ∀ (j : Nat) (x y : V), xs[j]? = some x → ys[j]? = some y → EqN K H n x y (e j)) : EqTop K H (.ref a) (.ref b) ((List.range xs.length).all e)
  | lstN {a b : Addr} {xs ys : List V} (hx : SqL K H a xs) (hy : SqL K H b ys) (hl : xs.length ≠ ys.length) : EqTop K H (.ref a) (.ref b) false
  | tup {n : Nat} {a b : Addr} {xs ys : List V} (e : Nat → Bool) (hn : n ≤ 60) (hx : SqT K H a xs) (hy : SqT K H b ys)
      (he : ∀ (j : Nat) (x y : V), xs[j]? = some x → ys[j]? = some y → EqN K H n x y (e j)) : EqTop K H (.ref a) (.ref b) ((List.range (min xs.length ys.length)).all e && xs.length == ys.length)
def rEqT (K : PySem.W.Frag) : R2 := fun x y H Q => ∃ c, EqTop K H x y c ∧ Q (.bl c) H
def rNeT (K : PySem.W.Frag) : R2 := fun x y H Q => ∃ c, EqTop K H x y c ∧ Q (.bl (!c)) H
theorem op_eqT (hu : X.A.units + 64 < cLine) : OpR X (compareOp .Eq) (rEqT X.K) := by
  intro pins s σ H x y v u Q I rx ry h
  obtain ⟨c, hc, q⟩ := h
  cases hc with
  | scal hs => exact op_eq pins s σ H x y v u Q I rx ry ⟨hs, q⟩
  | @lst n a b xs ys e hn hx hy hl he =>
    cases rx; cases ry
    obtain ⟨its, r, pl, hz⟩ := I.list hx
    obtain ⟨its2, r2, pl2, hz2⟩ := I.list hy
    have hs1 : its.toArray.size = xs.length := by rw [List.size_toArray]; exact r.length.symm
    have hs2 : its2.toArray.size = ys.length := by rw [List.size_toArray]; exact r2.length.symm
    refine SeqAt.eq_listAt pl.isList pl2.isList (by rw [hs1, hs2, hl]) (by omega) (e := e) (fun j h1 h2 => ?_) ⟨.bl _, H, I, rfl, ?_⟩
    · obtain ⟨x, ex, qx⟩ := vals_at r h1
      obtain ⟨y, ey, qy⟩ := vals_at r2 h2
      exact eqN_at I (he j x y ex ey) (by show X.A.units + 1 + n < _; omega) qx qy
    · rw [hs1]; exact q
  | @lstN a b xs ys hx hy hl =>
    cases rx; cases ry
    obtain ⟨its, r, pl, hz⟩ := I.list hx
    obtain ⟨its2, r2, pl2, hz2⟩ := I.list hy
    have h1 := r.length
    have h2 := r2.length
    refine SeqAt.eq_list_lengthsAt pl.isList pl2.isList ?_ (by omega) ⟨.bl _, H, I, rfl, q⟩
    rw [List.size_toArray, List.size_toArray]
    simpa using (by omega : its.length ≠ its2.length)
  | @tup n a b xs ys e hn hx hy he =>
    cases rx; cases ry
    obtain ⟨its, r, pl, hz⟩ := I.tuple hx
    obtain ⟨its2, r2, pl2, hz2⟩ := I.tuple hy
    have hs1 : its.toArray.size = xs.length := by rw [List.size_toArray]; exact r.length.symm
    have hs2 : its2.toArray.size = ys.length := by rw [List.size_toArray]; exact r2.length.symm
    refine SeqAt.eq_tupleAt pl pl2 (by omega) (e := e) (fun j h1 h2 => ?_) ⟨.bl _, H, I, rfl, ?_⟩
    · obtain ⟨x, ex, qx⟩ := vals_at r h1
      obtain ⟨y, ey, qy⟩ := vals_at r2 h2
      exact eqN_at I (he j x y ex ey) (by show X.A.units + 1 + n < _; omega) qx qy
    · rw [hs1, hs2]; exact q
theorem op_neT (hu : X.A.units + 64 < cLine) : OpR X (compareOp .NotEq) (rNeT X.K) := by
  intro pins s σ H x y v u Q I rx ry h
  obtain ⟨c, hc, q⟩ := h
  cases hc with
  | scal hs => exact op_ne pins s σ H x y v u Q I rx ry ⟨hs, q⟩
  | @lst n a b xs ys e hn hx hy hl he =>
    cases rx; cases ry
    obtain ⟨its, r, pl, hz⟩ := I.list hx
    obtain ⟨its2, r2, pl2, hz2⟩ := I.list hy
    have hs1 : its.toArray.size = xs.length := by rw [List.size_toArray]; exact r.length.symm
    have hs2 : its2.toArray.size = ys.length := by rw [List.size_toArray]; exact r2.length.symm
    refine SeqAt.RcNeAt.lists pl.isList pl2.isList (by rw [hs1, hs2, hl]) (by omega) (e := e) (fun j h1 h2 => ?_) X.prog X.w _ _ ⟨.bl _, H, I, rfl, ?_⟩
    · obtain ⟨x, ex, qx⟩ := vals_at r h1
      obtain ⟨y, ey, qy⟩ := vals_at r2 h2
      exact eqN_at I (he j x y ex ey) (by show X.A.units + 1 + n < _; omega) qx qy
    · rw [hs1]; exact q
  | @lstN a b xs ys hx hy hl =>
    cases rx; cases ry
    obtain ⟨its, r, pl, hz⟩ := I.list hx
    obtain ⟨its2, r2, pl2, hz2⟩ := I.list hy
    have h1 := r.length
    have h2 := r2.length
    refine SeqAt.RcNeAt.lists_lengths pl.isList pl2.isList ?_ (by omega) X.prog X.w _ _ ⟨.bl _, H, I, rfl, q⟩
    rw [List.size_toArray, List.size_toArray]
    simpa using (by omega : its.length ≠ its2.length)
  | @tup n a b xs ys e hn hx hy he =>
    cases rx; cases ry
    obtain ⟨its, r, pl, hz⟩ := I.tuple hx
    obtain ⟨its2, r2, pl2, hz2⟩ := I.tuple hy
    have hs1 : its.toArray.size = xs.length := by rw [List.size_toArray]; exact r.length.symm
    have hs2 : its2.toArray.size = ys.length := by rw [List.size_toArray]; exact r2.length.symm
    refine SeqAt.RcNeAt.tuples pl pl2 (by omega) (e := e) (fun j h1 h2 => ?_) X.prog X.w _ _ ⟨.bl _, H, I, rfl, ?_⟩
    · obtain ⟨x, ex, qx⟩ := vals_at r h1
      obtain ⟨y, ey, qy⟩ := vals_at r2 h2
      exact eqN_at I (he j x y ex ey) (by show X.A.units + 1 + n < _; omega) qx qy
    · rw [hs1, hs2]; exact q
end
/-! lists of flat values -/
theorem all_const {n : Nat} {e : Nat → Bool} (h : ∀ j, j < n → e j = true) : (List.range n).all e = true := List.all_eq_true.mpr fun j hj => h j (List.mem_range.mp hj)
theorem eqV_refl {x : V} (h : flatV x = true) : eqV x x = true := by cases x <;> first | rfl | (simp [eqV]; done) | exact absurd h Bool.false_ne_true
theorem eqTop_flat {K : PySem.W.Frag} {H : Hp} {a b : Addr} {xs : List V} (hx : SqL K H a xs) (hy : SqL K H b xs) (f : xs.all flatV = true) : EqTop K H (.ref a) (.ref b) true := by
  have h := EqTop.lst (n := 0) (fun _ => true) (Nat.zero_le _) hx hy rfl (fun j x y e1 e2 => by
    rw [e1] at e2
    cases e2
    have fx := List.all_eq_true.mp f x (List.mem_of_getElem? e1)
    have := EqN.flat (K := K) (H := H) 0 fx fx
    rw [eqV_refl fx] at this
    exact this)
  rw [all_const fun _ _ => rfl] at h
  exact h
theorem eqTop_nil {K : PySem.W.Frag} {H : Hp} {a b : Addr} {xs : List V} (hx : SqL K H a xs) (hy : SqL K H b []) : EqTop K H (.ref a) (.ref b) xs.isEmpty := by
  cases xs with
  | nil => exact eqTop_flat hx hy rfl
  | cons x r => exact .lstN hx hy (by simp)

end K01
namespace K01
open PySem PySem.Spec PyProof.Rows L2 TL
theorem low_mem (c : Nat) : decide (c ∈ (Str.ofString "abcdefghijklmnopqrstuvwxyz").cps.toList) = low c := by
  rw [show (Str.ofString "abcdefghijklmnopqrstuvwxyz").cps.toList = (List.range 26).map (· + 97) by decide +kernel]
  unfold low
  rw [← Bool.decide_and, decide_eq_decide, List.mem_map]
  constructor
  · rintro ⟨k, hk, rfl⟩
    have := List.mem_range.mp hk
    omega
  · intro h
    exact ⟨c - 97, List.mem_range.mpr (by omega), by omega⟩
theorem dig_mem (c : Nat) : decide (c ∈ (Str.ofString "0123456789").cps.toList) = dig c := by
  rw [show (Str.ofString "0123456789").cps.toList = (List.range 10).map (· + 48) by decide +kernel]
  unfold dig
  rw [← Bool.decide_and, decide_eq_decide, List.mem_map]
  constructor
  · rintro ⟨k, hk, rfl⟩
    have := List.mem_range.mp hk
    omega
  · intro h
    exact ⟨c - 48, List.mem_range.mpr (by omega), by omega⟩
def chS (c : Nat) : Str := ⟨#[c]⟩
theorem flt_empty (l : List Nat) (p : Nat → Bool) : ((l.filter fun c => !p c).map fun c => V.str (chS c)).isEmpty = l.all p := by
  induction l with
  | nil => rfl
  | cons a r ih =>
    cases h : p a with
    | true => simp [h] at ih ⊢; exact ih
    | false => simp [h]
theorem ok_l_is_name {P : Program} {w : World} {K : PySem.W.Frag} {mg : Str → Option Value} {base : Heap} (T : Txt K mg) : FnOk P w K mg base CX0 1 T.f_l_is_name T.fd_l_is_name ["_law_value"] (sp_val (fun v => .bl (nameV v))) := by
  refine T.F_l_is_name.ok sc_l_is_name (fun vs H Q E h => ?_) (fun cdv A outer s H vs Q E hr h => ?_)
  · obtain ⟨_, rfl, _⟩ := h; rfl
  · obtain ⟨v, rfl, hv, q⟩ := h
    replace q : ∀ H', Same H H' → Q (.bl (nameV v)) H' := q
    obtain ⟨t, ty, kk⟩ := isi_str (K := K) hv
    refine ⟨_, PSs.nox (pss_cons (ps_if (PW.pt (pw_or (pt_not (pt_val (pe_callB (show CallR _ _ (rIsi K) from call_isi) (by rfl) T.n_isinstance (by decide +kernel) (pa_cons (pv 0) (pa_cons (pe_bltn (v := .ty "str") (by rfl) T.n_str (by decide +kernel) rfl) pa_nil))))) (pw_or (pt_cmpR op_lt (pe_callB call_len_str (by rfl) T.n_len (by decide +kernel) (pa_cons (pv 0) pa_nil)) pe_int (nomark _)) (pw_or1 (pt_cmpR op_gt (pe_callB call_len_str (by rfl) T.n_len (by decide +kernel) (pa_cons (pv 0) pa_nil)) pe_int (nomark _)))))) (pss_one (ps_ret pe_bl)) pss_nil)
      (pss_one (ps_ret (pe_cmpR (show OpR _ (compareOp .Eq) (rEqT K) from op_eqT hr.units) (pe_lc (own := [("_law_one", 1)]) (g := gName 1) rfl sc_l_is_name.nd (pi_str (pv 0)) (blkOk_by (own := [("_law_one", 1)]) (N := N_l_is_name) (sc := defScope s_l_is_name) (by decide +kernel)) (fun _ _ _ _ _ => pg_name (i := 1) sc_l_is_name.nd rfl (Or.inl rfl)) (fun _ _ _ _ _ => pts_one (pt_cmpR op_notIn_sign (pv 1) pe_str (by first | rfl | with_unfolding_all rfl))) (fun _ _ _ _ _ => (pv 1))) (pe_lst pa_nil) (nomark _))))), ?_⟩
    by_cases hs : isStr v = true
    · cases hv with
      | str z hz =>
        refine ⟨_, rfl, _, _, t, _, _, rfl, .ty _, ty, kk, _, rfl, ?_⟩
        refine ⟨_, rfl, z, rfl, slen (by omega), _, _, rfl, rfl, _, rfl, ite2 (fun e1 => ?_) (fun e1 => ?_)⟩
        · have e1' := of_decide_eq_true e1
          have en : nameV (.str z) = false := by
            rw [nameV_str, decide_eq_false (show ¬ 1 ≤ z.length by omega), Bool.false_and, Bool.false_and]
          rw [en] at q
          exact q H (Same.refl H)
        · have e1' : ¬ (z.length : Int) < 1 := fun x => e1 (decide_eq_true x)
          refine ⟨_, rfl, z, rfl, slen (by omega), _, _, rfl, rfl, _, rfl, ite2 (fun e2 => ?_) (fun e2 => ?_)⟩
          · have e2' := of_decide_eq_true e2
            have en : nameV (.str z) = false := by
              rw [nameV_str, decide_eq_false (show ¬ z.length ≤ 8 by omega), Bool.and_false, Bool.false_and]
            rw [en] at q
            exact q H (Same.refl H)
          · have e2' : ¬ (8 : Int) < z.length := fun x => e2 (decide_eq_true x)
            refine ⟨_, rfl, z, rfl, fun D nD => lc_it walk_str (PvF z (fun c => !low c) (fun c => .str (chS c)) D H) (pvF_0 nD) (fun _ _ _ _ => trivial) (fun i x H' H'' hi p y => ?_) (fun H' p => ?_)⟩
            · obtain ⟨rfl, c, hc, rfl⟩ := y
              refine ⟨rfl, _, rfl, c, _, rfl, rfl, _, rfl, ite2 (fun e3 => ?_) (fun e3 => ?_)⟩
              · rw [low_mem] at e3
                exact ⟨_, rfl, pvF_put (f := fun c => V.str (chS c)) hz p hc e3 (Same.refl _)⟩
              · rw [low_mem] at e3
                exact pvF_skip p hc (Bool.eq_false_iff.mpr e3) (Same.refl _)
            · obtain ⟨nD', hD, sm⟩ := pvF_end p
              refine ⟨Nat.zero_le _, fun p2 np2 => ?_⟩
              refine ⟨_, eqTop_nil (SqL.of (show upd H' p2 (.lst []) D = _ by rw [upd_ne (ne_of_none hD np2)]; exact hD)) (SqL.of upd_same), ?_⟩
              rw [flt_empty]
              have en : nameV (.str z) = z.cps.toList.all low := by
                rw [nameV_str, decide_eq_true (show 1 ≤ z.length by omega), decide_eq_true (show z.length ≤ 8 by omega)]
                rfl
              rw [← en]
              exact q _ (sm.trans (Same.new np2))
      | _ => cases hs
    · rw [Bool.eq_false_iff.mpr hs] at kk
      have en : nameV v = false := by cases v <;> first | rfl | exact absurd rfl hs
      rw [en] at q
      exact ⟨_, rfl, _, _, t, _, _, rfl, .ty _, ty, kk, _, rfl, q H (Same.refl H)⟩

theorem ok_l_parsed {P : Program} {w : World} {K : PySem.W.Frag} {mg : Str → Option Value} {base : Heap} (T : Txt K mg) : FnOk P w K mg base CX0 1 T.f_l_parsed T.fd_l_parsed ["_law_value", "_law_least", "_law_most"] (sp_par) := by
  refine T.F_l_parsed.ok sc_l_parsed (fun vs H Q E h => ?_) (fun cdv A outer s H vs Q E hr h => ?_)
  · obtain ⟨_, _, _, rfl, _⟩ := h; rfl
  · obtain ⟨v, lo, hi, rfl, hv, q⟩ := h
    obtain ⟨t, ty, kk⟩ := isi_str (K := K) hv
    refine ⟨_, PSs.nox (pss_cons (ps_if (PW.pt (pw_or (pt_not (pt_val (pe_callB (show CallR _ _ (rIsi K) from call_isi) (by rfl) T.n_isinstance (by decide +kernel) (pa_cons (pv 0) (pa_cons (pe_bltn (v := .ty "str") (by rfl) T.n_str (by decide +kernel) rfl) pa_nil))))) (pw_or (pt_cmpR op_eq (pv 0) pe_str (nomark _)) (pw_or1 (pt_cmpR (show OpR _ (compareOp .NotEq) (rNeT K) from op_neT hr.units) (pe_lc (own := [("_law_one", 3)]) (g := gName 3) rfl sc_l_parsed.nd (pi_str (pv 0)) (blkOk_by (own := [("_law_one", 3)]) (N := N_l_parsed) (sc := defScope s_l_parsed) (by decide +kernel)) (fun _ _ _ _ _ => pg_name (i := 3) sc_l_parsed.nd rfl (Or.inl rfl)) (fun _ _ _ _ _ => pts_one (pt_cmpR op_notIn_sign (pv 3) pe_str (by first | rfl | with_unfolding_all rfl))) (fun _ _ _ _ _ => (pv 3))) (pe_lst pa_nil) (nomark _)))))) (pss_one (ps_ret pe_non)) pss_nil)
      (pss_cons (ps_if (PW.pt (pw_and (pt_cmpR op_eq (pe_ix ix_str (pv 0) pe_int (fun _ _ => rfl)) pe_str (nomark _)) (pw_and1 (pt_cmpR op_gt (pe_callB call_len_str (by rfl) T.n_len (by decide +kernel) (pa_cons (pv 0) pa_nil)) pe_int (nomark _))))) (pss_one (ps_ret pe_non)) pss_nil)
      (pss_cons (ps_set (i := 4) sc_l_parsed.nd rfl (Or.inl rfl) pe_int)
      (pss_cons (ps_for PassesOwn.never rfl (pi_str (pv 0)) (pg_name (i := 3) sc_l_parsed.nd rfl (Or.inl rfl)) (pss_one (ps_set (i := 4) sc_l_parsed.nd rfl (Or.inl rfl) (pe_op op_add (pe_op op_mul pe_int (pv 4)) (pe_bmS PySem.F.plainAttrs_str PySem.F.slot_str_index PySem.F.type_str_index (mt_indexX rfl takes0) pe_str (pa_cons (pv 3) pa_nil))))))
      (pss_one (ps_ret (pe_ifExp (pt_chain op_le op_le (pv 1) (pv 4) (pv 2)) (pv 4) pe_non))))))), ?_⟩
    by_cases hs : isStr v = true
    · cases hv with
      | str z hz =>
        have el : z.length = z.cps.toList.length := by simp [Str.length]
        refine ⟨_, rfl, _, _, t, _, _, rfl, .ty _, ty, kk, _, rfl, ?_⟩
        refine ⟨_, rfl, rfl, _, rfl, ite2 (fun e1 => ?_) (fun e1 => ?_)⟩
        · rw [str_eq, emp] at e1
          have e1' := of_decide_eq_true e1
          replace q := q H (Same.refl H)
          rw [parV_no fun x => by rw [e1'] at x; exact absurd x.1 (by decide)] at q
          exact q
        · rw [str_eq, emp] at e1
          have e1' : z.cps.toList ≠ [] := fun x => e1 (decide_eq_true x)
          obtain ⟨c0, r0, ecr⟩ := List.exists_cons_of_ne_nil e1'
          refine ⟨_, rfl, z, rfl, fun D nD => lc_it walk_str (PvF z (fun c => !dig c) (fun c => .str (chS c)) D H) (pvF_0 nD) (fun _ _ _ _ => trivial) (fun i x H' H'' hi p y => ?_) (fun H' p => ?_)⟩
          · obtain ⟨rfl, c, hc, rfl⟩ := y
            refine ⟨rfl, _, rfl, c, _, rfl, rfl, _, rfl, ite2 (fun e3 => ?_) (fun e3 => ?_)⟩
            · rw [dig_mem] at e3
              exact ⟨_, rfl, pvF_put (f := fun c => V.str (chS c)) hz p hc e3 (Same.refl _)⟩
            · rw [dig_mem] at e3
              exact pvF_skip p hc (Bool.eq_false_iff.mpr e3) (Same.refl _)
          · obtain ⟨nD', hD, sm⟩ := pvF_end p
            refine ⟨Nat.zero_le _, fun p2 np2 => ?_⟩
            have sm2 : Same H (upd H' p2 (.lst [])) := sm.trans (Same.new np2)
            replace q := q _ sm2
            refine ⟨_, eqTop_nil (SqL.of (show upd H' p2 (.lst []) D = _ by rw [upd_ne (ne_of_none hD np2)]; exact hD)) (SqL.of upd_same), _, rfl, ite2 (fun e4 => ?_) (fun e4 => ?_)⟩
            · rw [flt_empty] at e4
              rw [parV_no fun x => by rw [(numL_dig x.1).1] at e4; cases e4] at q
              exact q
            · rw [flt_empty] at e4
              have hd : z.cps.toList.all dig = true := by simpa using e4
              refine ⟨_, rfl, z, 0, c0, rfl, rfl, slen (by omega), by rw [ecr]; exact atI_nat (j := 0) rfl, rfl, _, rfl, ?_⟩
              refine ite2 (fun e5 => ?_) (fun e5 => ?_)
              · rw [str_eq, d48] at e5
                have e5' : c0 = 48 := by simpa using of_decide_eq_true e5
                refine ⟨_, rfl, z, rfl, slen (by omega), _, _, rfl, rfl, _, rfl, ite2 (fun e6 => ?_) (fun e6 => ?_)⟩
                · have e6' := of_decide_eq_true e6
                  have hn : ¬ numL z.cps.toList = true := by
                    rw [ecr, e5'] at el ⊢
                    rw [List.length_cons] at el
                    have hr0 : r0 ≠ [] := fun z0 => by rw [z0] at el; simp at el; omega
                    unfold numL
                    simp [hr0]
                  rw [parV_no fun x => hn x.1] at q
                  exact q
                · have hl1 : r0 = [] := by
                    have e6' : ¬ (1 : Int) < z.length := fun x => e6 (decide_eq_true x)
                    rw [el, ecr, List.length_cons] at e6'
                    exact List.length_eq_zero_iff.mp (by omega)
                  have hn : numL z.cps.toList = true := by
                    rw [ecr, hl1, e5']; decide
                  refine ⟨_, rfl, z, rfl, for_it walk_str (fun i σ H3 => H3 = upd H' p2 (.lst []) ∧ ∃ w, σ = [some (.str z), some (.int lo), some (.int hi), w, some (.int (valL (z.cps.toList.take i)))]) ⟨rfl, none, rfl⟩ (fun _ _ _ _ _ => trivial) (fun i x σ H3 H4 hi' p y => ?_) (fun σ H3 p => ?_)⟩
                  · obtain ⟨rfl, c, hc, rfl⟩ := y
                    obtain ⟨rfl, w, rfl⟩ := p
                    have hcd : dig c = true := by
                      rw [List.all_eq_true] at hd
                      refine hd c ?_
                      rw [← Array.getElem?_toList] at hc
                      exact List.mem_of_getElem? hc
                    have ev : valL (z.cps.toList.take (i + 1)) = valL (z.cps.toList.take i) * 10 + ((c : Int) - 48) := by rw [take_cps hc, valL_snoc]
                    have h48 := (dig_iff.mp hcd).1
                    refine ⟨_, rfl, _, _, rfl, rfl, .inl ⟨by decide, by decide⟩, rfl, _, rfl, _, _, rfl, rfl, fun k hk => ?_, fun hk => ?_⟩
                    · rw [index_dig hcd] at hk
                      cases hk
                      refine ⟨_, _, rfl, rfl, rfl, some (.str ⟨#[c]⟩), ?_⟩
                      rw [ev]
                      have ee : 10 * valL (z.cps.toList.take i) + ((c - 48 : Nat) : Int) = valL (z.cps.toList.take i) * 10 + ((c : Int) - 48) := by omega
                      rw [← ee]
                      rfl
                    · rw [index_dig hcd] at hk
                      cases hk
                  · obtain ⟨rfl, w, rfl⟩ := p
                    have et : z.cps.toList.take z.cps.size = z.cps.toList := List.take_of_length_le (by rw [Array.length_toList]; exact Nat.le_refl _)
                    rw [et]
                    refine ⟨_, rfl, _, rfl, _, _, rfl, rfl, _, rfl, ite2 (fun e7 => ?_) (fun e7 => ?_)⟩
                    · refine ⟨_, rfl, _, _, rfl, rfl, _, rfl, ite2 (fun e8 => ?_) (fun e8 => ?_)⟩
                      · rw [parV_yes hn (of_decide_eq_true e7) (of_decide_eq_true e8)] at q
                        exact ⟨_, rfl, q⟩
                      · rw [parV_no fun x => e8 (decide_eq_true x.2.2)] at q
                        exact q
                    · rw [parV_no fun x => e7 (decide_eq_true x.2.1)] at q
                      exact ⟨_, rfl, q⟩
              · rw [str_eq, d48] at e5
                have hn : numL z.cps.toList = true := by
                  have e5' : c0 ≠ 48 := fun x => e5 (by rw [x]; rfl)
                  unfold numL
                  rw [hd, ecr]
                  simp [e5']
                refine ⟨_, rfl, z, rfl, for_it walk_str (fun i σ H3 => H3 = upd H' p2 (.lst []) ∧ ∃ w, σ = [some (.str z), some (.int lo), some (.int hi), w, some (.int (valL (z.cps.toList.take i)))]) ⟨rfl, none, rfl⟩ (fun _ _ _ _ _ => trivial) (fun i x σ H3 H4 hi' p y => ?_) (fun σ H3 p => ?_)⟩
                · obtain ⟨rfl, c, hc, rfl⟩ := y
                  obtain ⟨rfl, w, rfl⟩ := p
                  have hcd : dig c = true := by
                    rw [List.all_eq_true] at hd
                    refine hd c ?_
                    rw [← Array.getElem?_toList] at hc
                    exact List.mem_of_getElem? hc
                  have ev : valL (z.cps.toList.take (i + 1)) = valL (z.cps.toList.take i) * 10 + ((c : Int) - 48) := by rw [take_cps hc, valL_snoc]
                  have h48 := (dig_iff.mp hcd).1
                  refine ⟨_, rfl, _, _, rfl, rfl, .inl ⟨by decide, by decide⟩, rfl, _, rfl, _, _, rfl, rfl, fun k hk => ?_, fun hk => ?_⟩
                  · rw [index_dig hcd] at hk
                    cases hk
                    refine ⟨_, _, rfl, rfl, rfl, some (.str ⟨#[c]⟩), ?_⟩
                    rw [ev]
                    have ee : 10 * valL (z.cps.toList.take i) + ((c - 48 : Nat) : Int) = valL (z.cps.toList.take i) * 10 + ((c : Int) - 48) := by omega
                    rw [← ee]
                    rfl
                  · rw [index_dig hcd] at hk
                    cases hk
                · obtain ⟨rfl, w, rfl⟩ := p
                  have et : z.cps.toList.take z.cps.size = z.cps.toList := List.take_of_length_le (by rw [Array.length_toList]; exact Nat.le_refl _)
                  rw [et]
                  refine ⟨_, rfl, _, rfl, _, _, rfl, rfl, _, rfl, ite2 (fun e7 => ?_) (fun e7 => ?_)⟩
                  · refine ⟨_, rfl, _, _, rfl, rfl, _, rfl, ite2 (fun e8 => ?_) (fun e8 => ?_)⟩
                    · rw [parV_yes hn (of_decide_eq_true e7) (of_decide_eq_true e8)] at q
                      exact ⟨_, rfl, q⟩
                    · rw [parV_no fun x => e8 (decide_eq_true x.2.2)] at q
                      exact q
                  · rw [parV_no fun x => e7 (decide_eq_true x.2.1)] at q
                    exact ⟨_, rfl, q⟩
      | _ => cases hs
    · rw [Bool.eq_false_iff.mpr hs] at kk
      have en : parV v lo hi = .non := by cases v <;> first | rfl | exact absurd rfl hs
      rw [en] at q
      exact ⟨_, rfl, _, _, t, _, _, rfl, .ty _, ty, kk, _, rfl, q H (Same.refl H)⟩

end K01
namespace K01
open PySem PySem.Spec PyProof.Rows L2 TL
/-! ### words, by the law; same; right -/
def mkS (w : List Nat) : Str := ⟨w.toArray⟩
theorem mkS_snoc (a : List Nat) (c : Nat) : mkS a ++ (⟨#[c]⟩ : Str) = mkS (a ++ [c]) := ext_tl (by rw [tl_append]; rfl)
theorem wsF_take {z : Str} {i c : Nat} (h : z.cps[i]? = some c) : wsF (z.cps.toList.take (i + 1)) = wStep (wsF (z.cps.toList.take i)) c := by
  unfold wsF; rw [take_cps h, List.foldl_append]; rfl
theorem wsF_shape (l : List Nat) : ∃ d a, wsF l = d ++ [a] ∧ a.length ≤ l.length ∧ (wsF l).length ≤ l.length + 1 := by
  suffices h : ∀ (l : List Nat) (d : List (List Nat)) (a : List Nat), ∃ d' a', l.foldl wStep (d ++ [a]) = d' ++ [a'] ∧ a'.length ≤ a.length + l.length ∧ (l.foldl wStep (d ++ [a])).length ≤ d.length + 1 + l.length by
    obtain ⟨d', a', e, h1, h2⟩ := h l [] []
    refine ⟨d', a', e, by simpa using h1, ?_⟩
    have : (wsF l).length ≤ ([] : List (List Nat)).length + 1 + l.length := h2
    rw [List.length_nil] at this
    omega
  intro l
  induction l with
  | nil => intro d a; exact ⟨d, a, rfl, by simp, by simp⟩
  | cons c r ih =>
    intro d a
    rw [List.foldl_cons]
    by_cases h : c = 32
    · subst h
      rw [wStep_sp]
      obtain ⟨d', a', e, h1, h2⟩ := ih (d ++ [a]) []
      refine ⟨d', a', e, ?_, ?_⟩
      · rw [List.length_cons]; simp at h1; omega
      · rw [List.length_cons]; rw [List.length_append, List.length_singleton] at h2; omega
    · rw [wStep_no d a h]
      obtain ⟨d', a', e, h1, h2⟩ := ih d (a ++ [c])
      refine ⟨d', a', e, ?_, ?_⟩
      · rw [List.length_append, List.length_singleton] at h1; rw [List.length_cons]; omega
      · rw [List.length_cons]; omega
theorem sp32 : (Str.ofString " ").cps.toList = [32] := by decide +kernel
theorem ok_l_words {P : Program} {w : World} {K : PySem.W.Frag} {mg : Str → Option Value} {base : Heap} (T : Txt K mg) : FnOk P w K mg base CX0 1 T.f_l_words T.fd_l_words ["_law_value"] (sp_wrd) := by
  refine T.F_l_words.ok sc_l_words (fun vs H Q E h => ?_) (fun cdv A outer s H vs Q E hr h => ?_)
  · obtain ⟨_, rfl, _⟩ := h; rfl
  · obtain ⟨v, rfl, hv, q0, q1⟩ := h
    obtain ⟨t, ty, kk⟩ := isi_str (K := K) hv
    refine ⟨_, PSs.nox (pss_cons (ps_if (PW.pt (pw_or (pt_not (pt_val (pe_callB (show CallR _ _ (rIsi K) from call_isi) (by rfl) T.n_isinstance (by decide +kernel) (pa_cons (pv 0) (pa_cons (pe_bltn (v := .ty "str") (by rfl) T.n_str (by decide +kernel) rfl) pa_nil))))) (pw_or1 (pt_cmpR op_in_sign pe_str (pv 0) (by first | rfl | with_unfolding_all rfl))))) (pss_one (ps_ret pe_non)) pss_nil)
      (pss_cons (ps_set (i := 1) sc_l_words.nd rfl (Or.inl rfl) (pe_lst (pa_cons pe_str pa_nil)))
      (pss_cons (ps_for PassesOwn.never rfl (pi_str (pv 0)) (pg_name (i := 2) sc_l_words.nd rfl (Or.inl rfl)) (pss_one (ps_if (pt_cmpR op_eq (pv 2) pe_str (nomark _)) (pss_one (ps_expr (pe_bm PySem.F.plainAttrs_list PySem.F.slot_list_append PySem.F.type_list_append mt_append (pv 1) (pa_cons pe_str pa_nil)))) (pss_one (ps_asg (pe_op op_add_str (pe_ix (show IxR _ (rIxL K) from ix_list) (pv 1) (pe_un un_neg pe_int) (fun _ _ => rfl)) (pv 2)) (pg_sub (pv 1) (pe_un un_neg pe_int) set_list))))))
      (pss_one (ps_ret (pe_ifExp (pt_cmpR (show OpR _ (compareOp .In) (rIn K false) from op_in_seq) pe_str (pv 1) (by first | rfl | with_unfolding_all rfl)) pe_non (pv 1))))))), ?_⟩
    by_cases hs : isStr v = true
    · cases hv with
      | str z hz =>
        have el : z.length = z.cps.toList.length := by simp [Str.length]
        refine ⟨_, rfl, _, _, t, _, _, rfl, .ty _, ty, kk, _, rfl, ?_⟩
        refine ⟨_, rfl, 10, z, congrArg V.str nl10, rfl, _, rfl, ite2 (fun e1 => ?_) (fun e1 => ?_)⟩
        · exact q0 (if_pos (of_decide_eq_true e1)) H (Same.refl H)
        · have e1' : ¬ 10 ∈ z.cps.toList := fun x => e1 (decide_eq_true x)
          refine ⟨lenk 1 rfl (by decide), fun D nD => ?_⟩
          refine ⟨_, rfl, z, rfl, for_it walk_str (fun i σ H' => Same H H' ∧ H' D = some (.lst ((wsF (z.cps.toList.take i)).map fun w => V.str (mkS w))) ∧ ∃ w, σ = [some (.str z), some (.ref D), w]) ⟨Same.new nD, upd_same, none, rfl⟩ (fun _ _ _ _ _ => trivial) (fun i x σ H' H'' hi p y => ?_) (fun σ H' p => ?_)⟩
          · obtain ⟨rfl, c, hc, rfl⟩ := y
            obtain ⟨sm, hD, w, rfl⟩ := p
            obtain ⟨d, a, es, ha, hlen⟩ := wsF_shape (z.cps.toList.take i)
            have hti : (z.cps.toList.take i).length ≤ z.cps.toList.length := List.length_take_le' ..
            have hst := wsF_take hc
            rw [es] at hst hlen hD
            rw [List.map_append] at hD
            refine ⟨_, rfl, rfl, _, rfl, ite2 (fun e2 => ?_) (fun e2 => ?_)⟩
            · rw [str_eq, sp32] at e2
              have ec : c = 32 := by simpa using of_decide_eq_true e2
              rw [ec, wStep_sp] at hst
              refine ⟨_, rfl, .inl ⟨rfl, _, SqL.of hD⟩, D, _, _, rfl, rfl, hD, ?_, ?_⟩
              · have : sizeLine = 16777216 := sizeLine_eq
                rw [← List.map_append, List.length_map]
                omega
              · refine ⟨Same.upd_p sm nD, ?_, _, rfl⟩
                rw [upd_same, hst, List.map_append, List.map_append]
                rfl
            · rw [str_eq, sp32] at e2
              have ec : c ≠ 32 := fun x => e2 (by rw [x]; rfl)
              rw [wStep_no d a ec] at hst
              have hat : atI ((d.map fun w => V.str (mkS w)) ++ [V.str (mkS a)]) (-1) = some (V.str (mkS a)) := atI_last _ _
              refine ⟨_, rfl, 1, rfl, D, _, _, _, rfl, rfl, SqL.of hD, hat, _, rfl, _, _, rfl, rfl, ?_, ?_⟩
              · show a.toArray.size + 1 ≤ sizeLine
                rw [List.size_toArray]
                exact slen (by omega)
              · refine ⟨_, rfl, 1, rfl, D, _, _, d.length, rfl, rfl, hD, ?_, ?_⟩
                · show ixN ((d.map fun w => V.str (mkS w)) ++ [V.str (mkS a)]).length (-1) = some d.length
                  unfold ixN
                  rw [if_neg (by decide), if_pos (by rw [List.length_append, List.length_singleton]; omega), List.length_append, List.length_singleton, List.length_map]
                  congr 1
                  omega
                · refine ⟨Same.upd_p sm nD, ?_, _, rfl⟩
                  rw [upd_same, hst, List.map_append]
                  have ed : d.length = (d.map fun w => V.str (mkS w)).length := by rw [List.length_map]
                  rw [ed, List.set_append_right _ _ (Nat.le_refl _), Nat.sub_self, mkS_snoc]
                  rfl
          · obtain ⟨sm, hD, w, rfl⟩ := p
            have et : z.cps.toList.take z.cps.size = z.cps.toList := List.take_of_length_le (by rw [Array.length_toList]; exact Nat.le_refl _)
            rw [et] at hD
            have hD2 : H' D = some (.lst (((wsF z.cps.toList).map fun w => (⟨w.toArray⟩ : Str)).map V.str)) := by rw [hD, List.map_map]; rfl
            refine ⟨_, rfl, D, _, rfl, .inl (SqL.of hD2), rfl, all_flat _, _, rfl, ite2 (fun e2 => ?_) (fun e2 => ?_)⟩
            · have e2' := (inV_emp _).symm.trans e2
              exact q0 ((if_neg e1').trans (if_pos (of_decide_eq_true e2'))) _ sm
            · have e2' : ¬ [] ∈ wsF z.cps.toList := fun x => e2 ((inV_emp _).trans (decide_eq_true x))
              exact ⟨_, rfl, q1 _ ((if_neg e1').trans (if_neg e2')) D _ sm nD hD2⟩
      | _ => cases hs
    · rw [Bool.eq_false_iff.mpr hs] at kk
      have en : wrdV v = none := by cases v <;> first | rfl | exact absurd rfl hs
      exact ⟨_, rfl, _, _, t, _, _, rfl, .ty _, ty, kk, _, rfl, q0 en H (Same.refl H)⟩
/-- equal answers are the same -/
def Ans (x : V) : Prop := x = .non ∨ (∃ b, x = .bl b) ∨ ∃ i, x = .int i
def sp_same : Sp := fun vs H Q _ => ∃ x, vs = [x, x] ∧ Ans x ∧ Q (.bl true) H
theorem ok_l_same {P : Program} {w : World} {K : PySem.W.Frag} {mg : Str → Option Value} {base : Heap} (T : Txt K mg) : FnOk P w K mg base CX0 1 T.f_l_same T.fd_l_same ["_law_actual", "_law_expected"] (sp_same) := by
  refine T.F_l_same.ok sc_l_same (fun vs H Q E h => ?_) (fun cdv A outer s H vs Q E hr h => ?_)
  · obtain ⟨_, rfl, _⟩ := h; rfl
  · obtain ⟨x, rfl, hx, q⟩ := h
    refine ⟨_, PSs.nox (pss_cons (ps_if (pt_val (pe_callB (show CallR _ _ (rIsi K) from call_isi) (by rfl) T.n_isinstance (by decide +kernel) (pa_cons (pv 1) (pa_cons (pe_bltn (v := .ty "bool") (by rfl) T.n_bool (by decide +kernel) rfl) pa_nil)))) (pss_one (ps_ret (pe_and (pe_callB (show CallR _ _ (rIsi K) from call_isi) (by rfl) T.n_isinstance (by decide +kernel) (pa_cons (pv 0) (pa_cons (pe_bltn (v := .ty "bool") (by rfl) T.n_bool (by decide +kernel) rfl) pa_nil))) (pe_one (pe_cmpR op_eq (pv 0) (pv 1) (nomark _)))))) pss_nil)
      (pss_cons (ps_if (pt_cmpR op_isN (pv 1) pe_non (nomark _)) (pss_one (ps_ret (pe_cmpR op_isN (pv 0) pe_non (nomark _)))) pss_nil)
      (pss_one (ps_ret (pe_and (pe_callB (show CallR _ _ (rIsi K) from call_isi) (by rfl) T.n_isinstance (by decide +kernel) (pa_cons (pv 0) (pa_cons (pe_bltn (v := .ty "int") (by rfl) T.n_int (by decide +kernel) rfl) pa_nil))) (pe_and (pe_not (pe_callB (show CallR _ _ (rIsi K) from call_isi) (by rfl) T.n_isinstance (by decide +kernel) (pa_cons (pv 0) (pa_cons (pe_bltn (v := .ty "bool") (by rfl) T.n_bool (by decide +kernel) rfl) pa_nil)))) (pe_one (pe_cmpR op_eq (pv 0) (pv 1) (nomark _))))))))), ?_⟩
    rcases hx with rfl | ⟨b, rfl⟩ | ⟨i, rfl⟩
    · exact ⟨_, rfl, _, _, _, _, false, rfl, .ty _, .base .non, kit_ty (by decide +kernel), _, rfl, _, rfl, rfl, _, rfl, _, rfl, rfl, q⟩
    · refine ⟨_, rfl, _, _, _, _, true, rfl, .ty _, .base (.bl b), kit_ty (by decide +kernel), _, rfl, _, rfl, _, _, _, _, true, rfl, .ty _, .base (.bl b), kit_ty (by decide +kernel), _, rfl, _, rfl, _, rfl, rfl, ?_⟩
      rw [decide_eq_true rfl]; exact q
    · refine ⟨_, rfl, _, _, _, _, false, rfl, .ty _, .base (.int i), kit_ty (by decide +kernel), _, rfl, _, rfl, rfl, _, rfl, ?_⟩
      refine ⟨_, rfl, _, _, _, _, true, rfl, .ty _, .base (.int i), kit_ty (by decide +kernel), _, rfl, _, rfl, _, _, _, _, false, rfl, .ty _, .base (.int i), kit_ty (by decide +kernel), _, rfl, _, rfl, _, rfl, _, rfl, rfl, ?_⟩
      rw [decide_eq_true rfl]; exact q

end K01
namespace K01
open PySem PySem.Spec PyProof.Rows L2 TL
theorem lenl {α : Type} {xs : List α} (n : Nat) (h : xs.length = n) (hn : n ≤ 100000) : xs.length < sizeLine := by
  have : sizeLine = 16777216 := sizeLine_eq
  omega
abbrev psPar : List Str := ["text", "low", "high"]
section
variable {K : PySem.W.Frag} {mg : Str → Option Value} (T : Txt K mg)
theorem kb_no : ∃ ds, Vals [V.int 0, .int 999999] ds ∧ Binds K T.fd_parse_integer psPar ds :=
  T.F_parse_integer.binds0 1 (by simp) rfl (fun D doc pm an cdv ct us ks h1 h2 => by
    match us, ks, h1, h2 with
    | [u], [k1, k2], _, _ => exact ⟨_, _, _, _, _, _, rfl, rfl, _, _, _, _, _, _, rfl, rfl, rfl⟩)
theorem kb_both : ∃ mv : List Value, KBn K T.fd_parse_integer psPar 1 ["low", "high"] (fun us ws => us ++ ws) (fun vs zs => vs ++ zs) :=
  T.F_parse_integer.kbinds0 1 ["low", "high"] [] (fun us _ ws => us ++ ws) (by simp) (by simp) (fun a _ c => a.append c) (fun D doc pm an cdv ct us mv ws h1 h2 h3 => by
    match us, mv, ws, h1, h2, h3 with
    | [u], [], [a, b], _, _, _ => rfl)
theorem kb_high : ∃ mv : List Value, KBn K T.fd_parse_integer psPar 1 ["high"] (fun us ws => us ++ (mv ++ ws)) (fun vs zs => vs ++ ([V.int 0] ++ zs)) :=
  T.F_parse_integer.kbinds0 1 ["high"] [("low", .int 0)] (fun us mv ws => us ++ (mv ++ ws)) (by simp) (by simp) (fun a b c => a.append (b.append c)) (fun D doc pm an cdv ct us mv ws h1 h2 h3 => by
    match us, mv, ws, h1, h2, h3 with
    | [u], [m], [a], _, _, _ => exact ⟨_, _, _, _, _, _, rfl, rfl, rfl⟩)
theorem kb_low : ∃ mv : List Value, KBn K T.fd_parse_integer psPar 1 ["low"] (fun us ws => us ++ (ws ++ mv)) (fun vs zs => vs ++ (zs ++ [V.int 999999])) :=
  T.F_parse_integer.kbinds0 1 ["low"] [("high", .int 999999)] (fun us mv ws => us ++ (ws ++ mv)) (by simp) (by simp) (fun a b c => a.append (c.append b)) (fun D doc pm an cdv ct us mv ws h1 h2 h3 => by
    match us, mv, ws, h1, h2, h3 with
    | [u], [m], [a], _, _, _ => exact ⟨_, _, _, _, _, _, rfl, rfl, rfl⟩)
end
theorem parV_ans (v : V) (lo hi : Int) : Ans (parV v lo hi) := by
  cases v with
  | str z =>
    by_cases h : numL z.cps.toList = true ∧ lo ≤ valL z.cps.toList ∧ valL z.cps.toList ≤ hi
    · rw [show parV (.str z) lo hi = _ from if_pos h]; exact .inr (.inr ⟨_, rfl⟩)
    · rw [parV_no h]; exact .inl rfl
  | _ => exact .inl rfl
theorem wrd_len {H : Hp} {v : V} {ws : List Str} (h : OkV H v) (e : wrdV v = some ws) : ws.length ≤ 1001 := by
  cases h with
  | str z hz =>
    have e' : (if 10 ∈ z.cps.toList then none else if [] ∈ wsF z.cps.toList then none else some ((wsF z.cps.toList).map fun w => (⟨w.toArray⟩ : Str))) = some ws := e
    split at e'
    · cases e'
    · split at e'
      · cases e'
      · cases e'
        obtain ⟨d, a, _, _, hl⟩ := wsF_shape z.cps.toList
        rw [List.length_map]
        have el : z.length = z.cps.toList.length := by simp [Str.length]
        omega
  | _ => cases e
def sp_right : Sp := fun vs H Q _ => ∃ (v : V) (lo hi : Int), vs = [v, .int lo, .int hi] ∧ OkV H v ∧ ∀ H', Same H H' → Q (.bl true) H'
theorem ok_l_value_right {P : Program} {w : World} {K : PySem.W.Frag} {mg : Str → Option Value} {base : Heap} (T : Txt K mg) : FnOk P w K mg base CX0 3 T.f_l_value_right T.fd_l_value_right ["_law_value", "_law_least", "_law_most"] (sp_right) := by
  obtain ⟨ds0, hv0, hb0⟩ := kb_no T
  obtain ⟨mv2, kb2⟩ := kb_both T
  obtain ⟨mvh, kbh⟩ := kb_high T
  obtain ⟨mvl, kbl⟩ := kb_low T
  refine T.F_l_value_right.ok sc_l_value_right (fun vs H Q E h => ?_) (fun cdv A outer s H vs Q E hr h => ?_)
  · obtain ⟨_, _, _, rfl, _⟩ := h; rfl
  · obtain ⟨v, lo, hi, rfl, hv, q⟩ := h
    obtain ⟨t, ty, kk⟩ := isi_int (K := K) hv
    obtain ⟨t2, ty2, kk2⟩ := isi_bool (K := K) hv
    refine ⟨_, PSs.nox (Evl.pss_cut (ps_set (i := 3) sc_l_value_right.nd rfl (Or.inl rfl) (pe_and (pe_callB (show CallR _ _ (rIsi K) from call_isi) (by rfl) T.n_isinstance (by decide +kernel) (pa_cons (pv 0) (pa_cons (pe_bltn (v := .ty "int") (by rfl) T.n_int (by decide +kernel) rfl) pa_nil))) (pe_and (pe_not (pe_callB (show CallR _ _ (rIsi K) from call_isi) (by rfl) T.n_isinstance (by decide +kernel) (pa_cons (pv 0) (pa_cons (pe_bltn (v := .ty "bool") (by rfl) T.n_bool (by decide +kernel) rfl) pa_nil)))) (pe_one (pe_chain op_le op_le (pv 1) (pv 0) (pv 2))))))
      (pss_cons (ps_if (PW.pt (pw_or (pt_not (pt_val (pe_call (ok_l_same T) (hr.mono (by decide)) (by rfl) T.g_l_same T.F_l_same.kp (b_l_same T) .nil pass0 (pa_cons (pe_call (ok_is_name T) (hr.mono (by decide)) (by rfl) T.g_is_name T.F_is_name.kp (b_is_name T) .nil pass0 (pa_cons (pv 0) pa_nil)) (pa_cons (pe_call (ok_l_is_name T) (hr.mono (by decide)) (by rfl) T.g_l_is_name T.F_l_is_name.kp (b_l_is_name T) .nil pass0 (pa_cons (pv 0) pa_nil)) pa_nil))))) (pw_or1 (pt_not (pt_val (pe_call (ok_l_same T) (hr.mono (by decide)) (by rfl) T.g_l_same T.F_l_same.kp (b_l_same T) .nil pass0 (pa_cons (pe_call (ok_is_integer T) (hr.mono (by decide)) (by rfl) T.g_is_integer T.F_is_integer.kp (b_is_integer T) .nil pass0 (pa_cons (pv 0) (pa_cons (pv 1) (pa_cons (pv 2) pa_nil)))) (pa_cons (pv 3) pa_nil)))))))) (pss_one (ps_ret pe_bl)) pss_nil)
      (pss_cons (ps_set (i := 4) sc_l_value_right.nd rfl (Or.inr rfl) (pe_lst (pa_cons (pe_callN (ok_parse_integer T) (hr.mono (by decide)) (by rfl) T.g_parse_integer T.F_parse_integer.kp kb2 pass0 (pa_cons (pv 0) pa_nil) (pk_cons (pv 1) (pk_cons (pv 2) pk_nil))) (pa_cons (pe_call (ok_parse_integer T) (hr.mono (by decide)) (by rfl) T.g_parse_integer T.F_parse_integer.kp hb0 hv0 pass0 (pa_cons (pv 0) pa_nil)) (pa_cons (pe_callN (ok_parse_integer T) (hr.mono (by decide)) (by rfl) T.g_parse_integer T.F_parse_integer.kp kbh pass0 (pa_cons (pv 0) pa_nil) (pk_cons (pv 2) pk_nil)) pa_nil)))))
      (pss_cons (ps_expr (pe_bm PySem.F.plainAttrs_list PySem.F.slot_list_append PySem.F.type_list_append mt_append (pv 4) (pa_cons (pe_callN (ok_parse_integer T) (hr.mono (by decide)) (by rfl) T.g_parse_integer T.F_parse_integer.kp kbl pass0 (pa_cons (pv 0) pa_nil) (pk_cons (pv 1) pk_nil)) pa_nil)))
      (pss_cons (ps_set (i := 5) sc_l_value_right.nd rfl (Or.inr rfl) (pe_lst (pa_cons (pe_call (ok_l_parsed T) (hr.mono (by decide)) (by rfl) T.g_l_parsed T.F_l_parsed.kp (b_l_parsed T) .nil pass0 (pa_cons (pv 0) (pa_cons (pv 1) (pa_cons (pv 2) pa_nil)))) (pa_cons (pe_call (ok_l_parsed T) (hr.mono (by decide)) (by rfl) T.g_l_parsed T.F_l_parsed.kp (b_l_parsed T) .nil pass0 (pa_cons (pv 0) (pa_cons pe_int (pa_cons pe_int pa_nil)))) (pa_cons (pe_call (ok_l_parsed T) (hr.mono (by decide)) (by rfl) T.g_l_parsed T.F_l_parsed.kp (b_l_parsed T) .nil pass0 (pa_cons (pv 0) (pa_cons pe_int (pa_cons (pv 2) pa_nil)))) pa_nil)))))
      (pss_cons (ps_expr (pe_bm PySem.F.plainAttrs_list PySem.F.slot_list_append PySem.F.type_list_append mt_append (pv 5) (pa_cons (pe_call (ok_l_parsed T) (hr.mono (by decide)) (by rfl) T.g_l_parsed T.F_l_parsed.kp (b_l_parsed T) .nil pass0 (pa_cons (pv 0) (pa_cons (pv 1) (pa_cons pe_int pa_nil)))) pa_nil)))
      (pss_cons (ps_if (pt_cmpR (show OpR _ (compareOp .NotEq) (rNeT K) from op_neT hr.units) (pe_lc (own := [("_law_k", 9)]) (g := gName 9) rfl sc_l_value_right.nd (pi_range1 (by rfl) T.n_range (pa_cons pe_int pa_nil)) (blkOk_by (own := [("_law_k", 9)]) (N := N_l_value_right) (sc := defScope s_l_value_right) (by decide +kernel)) (fun _ _ _ _ _ => pg_name (i := 9) sc_l_value_right.nd rfl (Or.inl rfl)) (fun _ _ _ _ _ => pts_one (pt_not (pt_val (pe_call (ok_l_same T) (hr.mono (by decide)) (by rfl) T.g_l_same T.F_l_same.kp (b_l_same T) .nil pass0 (pa_cons (pe_ix (show IxR _ (rIxL K) from ix_list) (pv 4) (pv 9) (fun _ _ => rfl)) (pa_cons (pe_ix (show IxR _ (rIxL K) from ix_list) (pv 5) (pv 9) (fun _ _ => rfl)) pa_nil)))))) (fun _ _ _ _ _ => (pv 9))) (pe_lst pa_nil) (nomark _)) (pss_one (ps_ret pe_bl)) pss_nil)
      (pss_cons (ps_set (i := 6) sc_l_value_right.nd rfl (Or.inl rfl) (pe_call (ok_l_words T) (hr.mono (by decide)) (by rfl) T.g_l_words T.F_l_words.kp (b_l_words T) .nil pass0 (pa_cons (pv 0) pa_nil)))
      (pss_cons (ps_for PassesOwn.never rfl (pi_range1 (by rfl) T.n_range (pa_cons pe_int pa_nil)) (pg_name (i := 7) sc_l_value_right.nd rfl (Or.inl rfl)) (pss_cons (ps_set (i := 8) sc_l_value_right.nd rfl (Or.inl rfl) (pe_call (ok_split_words T) (hr.mono (by decide)) (by rfl) T.g_split_words T.F_split_words.kp (b_split_words T) .nil pass0 (pa_cons (pv 0) pa_nil)))
      (pss_cons (ps_if (PW.pt (pw_or (PW.pt (pw_and (pt_cmpR op_isN (pv 6) pe_non (nomark _)) (pw_and1 (pt_cmpR op_notN (pv 8) pe_non (nomark _))))) (pw_or (PW.pt (pw_and (pt_cmpR op_notN (pv 6) pe_non (nomark _)) (pw_and1 (pt_not (pt_val (pe_callB (show CallR _ _ (rIsi K) from call_isi) (by rfl) T.n_isinstance (by decide +kernel) (pa_cons (pv 8) (pa_cons (pe_bltn (v := .ty "list") (by rfl) T.n_list (by decide +kernel) rfl) pa_nil)))))))) (pw_or1 (pt_cmpR (show OpR _ (compareOp .NotEq) (rNeT K) from op_neT hr.units) (pv 8) (pv 6) (nomark _)))))) (pss_one (ps_ret pe_bl)) pss_nil)
      (pss_one (ps_if (pt_cmpR op_notN (pv 8) pe_non (nomark _)) (pss_one (ps_expr (pe_bm PySem.F.plainAttrs_list PySem.F.slot_list_append PySem.F.type_list_append mt_append (pv 8) (pa_cons pe_str pa_nil)))) pss_nil)))))
      (pss_one (ps_ret pe_bl))))))))))), ?_⟩
    refine ⟨fun σ' H' => H' = H ∧ σ' = [some v, some (.int lo), some (.int hi), some (.bl (rngV v lo hi)), none, none, none, none, none, none], ?_, ?_⟩
    · refine ⟨_, rfl, _, _, t, _, _, rfl, .ty _, ty, kk, _, rfl, ite2 (fun e => ?_) (fun e => ?_)⟩
      · refine ⟨_, rfl, _, _, t2, _, _, rfl, .ty _, ty2, kk2, _, rfl, _, rfl, ite2 (fun e2 => ?_) (fun e2 => ?_)⟩
        · obtain ⟨i, rfl⟩ : ∃ i, v = .int i := by cases v <;> first | exact ⟨_, rfl⟩ | exact absurd e Bool.false_ne_true | exact absurd e2 Bool.false_ne_true
          refine ⟨_, rfl, _, rfl, _, _, rfl, rfl, _, rfl, ite2 (fun e1 => ?_) (fun e1 => ?_)⟩
          · refine ⟨_, rfl, _, _, rfl, rfl, rfl, ?_⟩
            show _ = [_, _, _, some (V.bl (decide (lo ≤ i) && decide (i ≤ hi))), _, _, _, _, _, _]
            rw [e1, Bool.true_and]; rfl
          · refine ⟨rfl, ?_⟩
            show _ = [_, _, _, some (V.bl (decide (lo ≤ i) && decide (i ≤ hi))), _, _, _, _, _, _]
            rw [Bool.eq_false_iff.mpr e1, Bool.false_and]; rfl
        · refine ⟨rfl, ?_⟩
          have en : rngV v lo hi = false := by cases v <;> first | rfl | exact absurd e Bool.false_ne_true | exact absurd rfl e2
          rw [en]; rfl
      · refine ⟨rfl, ?_⟩
        have en : rngV v lo hi = false := by cases v <;> first | rfl | exact absurd rfl e
        rw [en]; rfl
    · rintro σ' H ⟨rfl, rfl⟩
      refine ⟨_, rfl, v, rfl, hv, fun H1 s1 => ?_⟩
      refine ⟨_, rfl, v, rfl, hv.same s1, fun H2 s2 => ?_⟩
      have S2 := s1.trans s2
      refine ⟨_, rfl, .inr (.inl ⟨_, rfl⟩), _, rfl, ?_⟩
      refine ⟨_, rfl, _, rfl, _, rfl, v, lo, hi, rfl, hv.same S2, fun H3 s3 => ?_⟩
      have S3 := S2.trans s3
      refine ⟨_, rfl, _, rfl, .inr (.inl ⟨_, rfl⟩), _, rfl, ?_⟩
      -- actual
      refine ⟨_, rfl, _, rfl, _, rfl, rfl, rfl, v, lo, hi, rfl, hv.same S3, fun H4 s4 => ?_⟩
      have S4 := S3.trans s4
      refine ⟨_, rfl, v, 0, 999999, rfl, hv.same S4, fun H5 s5 => ?_⟩
      have S5 := S4.trans s5
      refine ⟨_, rfl, _, rfl, rfl, rfl, v, 0, hi, rfl, hv.same S5, fun H6 s6 => ?_⟩
      have S6 := S5.trans s6
      refine ⟨lenk 3 rfl (by decide), fun p np => ?_⟩
      have S7 := S6.trans (Same.new (o := .lst [parV v lo hi, parV v 0 999999, parV v 0 hi]) np)
      refine ⟨_, rfl, .inl ⟨rfl, _, SqL.of upd_same⟩, ?_⟩
      refine ⟨_, rfl, _, rfl, rfl, rfl, v, lo, 999999, rfl, hv.same S7, fun H8 s8 => ?_⟩
      have S8 := S7.trans s8
      have n0 : H p = none := by
        cases e : H p with
        | none => rfl
        | some o => rw [S6 p o e] at np; cases np
      have hp8 := s8 p _ upd_same
      refine ⟨p, _, _, rfl, rfl, hp8, lenl 3 rfl (by decide), ?_⟩
      have S9 : Same H (upd H8 p (.lst [parV v lo hi, parV v 0 999999, parV v 0 hi, parV v lo 999999])) := Same.upd_p S8 n0
      have hp9 : (upd H8 p (.lst [parV v lo hi, parV v 0 999999, parV v 0 hi, parV v lo 999999])) p = _ := upd_same
      show tSeq _ _ _ _ (upd H8 p (.lst [parV v lo hi, parV v 0 999999, parV v 0 hi, parV v lo 999999]))
      generalize upd H8 p (.lst [parV v lo hi, parV v 0 999999, parV v 0 hi, parV v lo 999999]) = H9 at S9 hp9
      -- expected
      refine ⟨_, rfl, _, rfl, _, rfl, v, lo, hi, rfl, hv.same S9, fun H10 s10 => ?_⟩
      have S10 := S9.trans s10
      refine ⟨_, rfl, v, 0, 999999, rfl, hv.same S10, fun H11 s11 => ?_⟩
      have S11 := S10.trans s11
      refine ⟨_, rfl, _, rfl, v, 0, hi, rfl, hv.same S11, fun H12 s12 => ?_⟩
      have S12 := S11.trans s12
      refine ⟨lenk 3 rfl (by decide), fun r nr => ?_⟩
      have np0 : H9 r = none := by
        cases e : H9 r with
        | none => rfl
        | some o => rw [((s10.trans s11).trans s12) r o e] at nr; cases nr
      have T13 := ((s10.trans s11).trans s12).trans (Same.new (o := .lst [parV v lo hi, parV v 0 999999, parV v 0 hi]) nr)
      refine ⟨_, rfl, .inl ⟨rfl, _, SqL.of upd_same⟩, ?_⟩
      refine ⟨_, rfl, _, rfl, v, lo, 999999, rfl, hv.same (S9.trans T13), fun H14 s14 => ?_⟩
      have T14 := T13.trans s14
      have hr14 := s14 r _ upd_same
      refine ⟨r, _, _, rfl, rfl, hr14, lenl 3 rfl (by decide), ?_⟩
      have T15 : Same H9 (upd H14 r (.lst [parV v lo hi, parV v 0 999999, parV v 0 hi, parV v lo 999999])) := Same.upd_p T14 np0
      have hr15 : (upd H14 r (.lst [parV v lo hi, parV v 0 999999, parV v 0 hi, parV v lo 999999])) r = _ := upd_same
      show tSeq _ _ _ _ (upd H14 r (.lst [parV v lo hi, parV v 0 999999, parV v 0 hi, parV v lo 999999]))
      generalize upd H14 r (.lst [parV v lo hi, parV v 0 999999, parV v 0 hi, parV v lo 999999]) = H15 at T15 hr15
      have hp15 := T15 p _ hp9
      have S15 := S9.trans T15
      -- none of the four differ
      refine ⟨4, rfl, by decide, by decide, fun D nD => lc_range (fun i H' => H' D = some (.lst []) ∧ Same H15 H') ⟨upd_same, Same.new nD⟩ (fun i H' hi' p' => ?_) (fun H' p' => ?_)⟩
      · obtain ⟨hD, sm⟩ := p'
        obtain ⟨x, ex, ax⟩ := atI_in (xs := [parV v lo hi, parV v 0 999999, parV v 0 hi, parV v lo 999999]) (i := 0 + (i : Nat)) (by omega) (by show (0 : Int) + (i : Nat) < 4; omega)
        have hans : Ans x := by
          have hm := List.mem_of_getElem? ex
          simp only [List.mem_cons, List.not_mem_nil, or_false] at hm
          rcases hm with rfl | rfl | rfl | rfl <;> exact parV_ans _ _ _
        refine ⟨rfl, _, rfl, _, rfl, p, _, _, x, rfl, rfl, SqL.of (sm p _ hp15), ax, _, rfl, _, rfl, r, _, _, x, rfl, rfl, SqL.of (sm r _ hr15), ax, x, rfl, hans, _, rfl, hD, sm⟩
      · obtain ⟨hD, sm⟩ := p'
        refine ⟨Nat.zero_le _, fun p2 np2 => ?_⟩
        refine ⟨_, eqTop_nil (SqL.of (show upd H' p2 (.lst []) D = _ by rw [upd_ne (ne_of_none hD np2)]; exact hD)) (SqL.of upd_same), _, rfl, ?_⟩
        have S16 := S15.trans (sm.trans (Same.new (o := .lst []) np2))
        -- words
        cases hw : wrdV v with
        | none =>
          refine ⟨_, rfl, v, rfl, hv.same S16, fun _ H17 s17 => ?_, fun ws e => absurd (hw.symm.trans e) (by simp)⟩
          refine ⟨2, rfl, by decide, by decide, for_it walk_range (fun i σ H' => Same H H' ∧ ∃ a b, σ = [some v, some (.int lo), some (.int hi), some (.bl (rngV v lo hi)), some (.ref p), some (.ref r), some .non, a, b, none]) ⟨S16.trans s17, _, _, rfl⟩ (fun _ _ _ _ _ => trivial) (fun i x σ H' H'' hi' p y => ?_) (fun σ H' p => ?_)⟩
          · obtain ⟨sm, a, b, rfl⟩ := p
            obtain ⟨rfl, rfl⟩ := y
            refine ⟨_, rfl, v, rfl, hv.same sm, fun _ H18 s18 => ?_, fun ws e => absurd (hw.symm.trans e) (by simp)⟩
            refine ⟨_, rfl, rfl, _, rfl, ?_⟩
            refine ⟨_, rfl, rfl, _, rfl, ?_⟩
            refine ⟨_, rfl, rfl, _, rfl, ?_⟩
            refine ⟨_, rfl, _, rfl, ?_⟩
            refine ⟨_, .scal rfl, _, rfl, ?_⟩
            refine ⟨_, rfl, rfl, _, rfl, ?_⟩
            exact ⟨sm.trans s18, _, _, rfl⟩
          · obtain ⟨sm, a, b, rfl⟩ := p
            exact q _ sm
        | some ws =>
          refine ⟨_, rfl, v, rfl, hv.same S16, fun e => absurd (hw.symm.trans e) (by simp), fun ws' ew u H17 s17 nu hu => ?_⟩
          have ews : ws' = ws := by rw [hw] at ew; exact (Option.some.inj ew).symm
          subst ews
          refine ⟨2, rfl, by decide, by decide, for_it walk_range (fun i σ H' => (Same H H' ∧ H' u = some (.lst (ws'.map V.str))) ∧ ∃ a b, σ = [some v, some (.int lo), some (.int hi), some (.bl (rngV v lo hi)), some (.ref p), some (.ref r), some (.ref u), a, b, none]) ⟨⟨S16.trans s17, hu⟩, _, _, rfl⟩ (fun _ _ _ _ _ => trivial) (fun i x σ H' H'' hi' p y => ?_) (fun σ H' p => ?_)⟩
          · obtain ⟨⟨sm, hu'⟩, a, b, rfl⟩ := p
            obtain ⟨rfl, rfl⟩ := y
            refine ⟨_, rfl, v, rfl, hv.same sm, fun e => absurd (hw.symm.trans e) (by simp), fun ws2 ew2 g H18 s18 ng hg => ?_⟩
            have ews2 : ws2 = ws' := by rw [hw] at ew2; exact (Option.some.inj ew2).symm
            subst ews2
            have hu18 := s18 u _ hu'
            refine ⟨_, rfl, rfl, _, rfl, ?_⟩
            refine ⟨_, rfl, rfl, _, rfl, ?_⟩
            refine ⟨_, rfl, _, _, _, _, true, rfl, .ty _, .base (.lst hg), kit_ty (by decide +kernel), _, rfl, ?_⟩
            refine ⟨_, rfl, _, rfl, ?_⟩
            refine ⟨_, eqTop_flat (SqL.of hg) (SqL.of hu18) (all_flat _), _, rfl, ?_⟩
            refine ⟨_, rfl, rfl, _, rfl, ?_⟩
            have hug : u ≠ g := ne_of_none hu' ng
            refine ⟨_, rfl, .inl ⟨rfl, _, SqL.of hg⟩, g, _, _, rfl, rfl, hg, ?_, ⟨Same.upd_p (sm.trans s18) ?_, ?_⟩, _, _, rfl⟩
            · rw [List.length_map]
              have := wrd_len hv hw
              have : sizeLine = 16777216 := sizeLine_eq
              omega
            · cases e : H g with
              | none => rfl
              | some o => rw [sm g o e] at ng; cases ng
            · rw [upd_ne hug]; exact hu18
          · obtain ⟨⟨sm, hu'⟩, a, b, rfl⟩ := p
            exact q _ sm

end K01
namespace K01
open PySem PySem.Spec PyProof.Rows L2 TL
def sp_odd : Sp := fun vs H Q _ => ∃ (b : Addr) (n : Nat), vs = [.ref b] ∧ Bag H b n ∧ n + 1 ≤ 1000000 ∧ ∀ (v : V) H', Fr b H H' → Bag H' b (n + 1) → OkV H' v → Q v H'
theorem keep {b a : Addr} {H H' : Hp} {o : HO} (f : Fr b H H') (n : b ≠ a) (h : H a = some o) : H' a = some o := f a o n.symm h
theorem ok_l_odd {P : Program} {w : World} {K : PySem.W.Frag} {mg : Str → Option Value} {base : Heap} (T : Txt K mg) : FnOk P w K mg base CX0 2 T.f_l_odd T.fd_l_odd ["_law_bag_here"] (sp_odd) := by
  refine T.F_l_odd.ok sc_l_odd (fun vs H Q E h => ?_) (fun cdv A outer s H vs Q E hr h => ?_)
  · obtain ⟨_, _, rfl, _⟩ := h; rfl
  · obtain ⟨b, n, rfl, hB, hn, q⟩ := h
    refine ⟨_, PSs.nox (pss_cons (ps_set (i := 1) sc_l_odd.nd rfl (Or.inl rfl) (pe_lst (pa_cons pe_non (pa_cons pe_bl (pa_cons pe_bl (pa_cons pe_int (pa_cons (pe_un un_neg pe_int) (pa_cons (pe_op op_pow pe_int pe_int) (pa_cons (pe_op op_sub pe_int (pe_op op_pow pe_int pe_int)) (pa_cons (pe_tup pa_nil) (pa_cons (pe_lst pa_nil) (pa_cons pe_dnewK (pa_cons (pe_tup (pa_cons pe_str pa_nil)) (pa_cons (pe_lst (pa_cons pe_str pa_nil)) (pa_cons (pe_disp (pps_cons pe_str pe_int pps_nil) (by rfl) (by rfl) (fun z => by cases z) (by decide)) (pa_cons (pe_tup (pa_cons pe_str (pa_cons pe_str pa_nil))) pa_nil))))))))))))))))
      (pss_one (ps_ret (pe_ix (show IxR _ (rIxL K) from ix_list) (pe_op op_cat (pv 1) (pe_lst (pa_cons (pe_lst (pa_cons pe_int pa_nil)) (pa_cons (pe_tup (pa_cons pe_int pa_nil)) pa_nil)))) (pe_call (ok_l_take T) (hr.mono (by decide)) (by rfl) T.g_l_take T.F_l_take.kp (b_l_take T) .nil pass0 (pa_cons (pv 0) (pa_cons pe_int pa_nil))) (fun _ _ => rfl))))), ?_⟩
    refine ⟨1, rfl, _, _, rfl, rfl, ⟨by decide, by decide, by decide⟩, _, _, rfl, rfl, ⟨by decide, by decide, by decide⟩, _, _, rfl, rfl, Nat.zero_le _, fun a1 n1 => ?_⟩
    generalize e1 : upd H a1 (.tup []) = H1
    have s1 : Same H H1 := e1 ▸ Same.new n1
    have h1 : H1 a1 = some (.tup []) := e1 ▸ upd_same
    refine ⟨Nat.zero_le _, fun a2 n2 => ?_⟩
    generalize e2 : upd H1 a2 (.lst []) = H2
    have s2 : Same H1 H2 := e2 ▸ Same.new n2
    have h2 : H2 a2 = some (.lst []) := e2 ▸ upd_same
    refine fun a3 n3 => ?_
    generalize e3 : upd H2 a3 (.dK []) = H3
    have s3 : Same H2 H3 := e3 ▸ Same.new n3
    have h3 : H3 a3 = some (.dK []) := e3 ▸ upd_same
    refine ⟨lenk 1 rfl (by decide), fun a4 n4 => ?_⟩
    generalize e4 : upd H3 a4 (.tup [.str (Str.ofString "a")]) = H4
    have s4 : Same H3 H4 := e4 ▸ Same.new n4
    have h4 : H4 a4 = some (.tup [.str (Str.ofString "a")]) := e4 ▸ upd_same
    refine ⟨lenk 1 rfl (by decide), fun a5 n5 => ?_⟩
    generalize e5 : upd H4 a5 (.lst [.str (Str.ofString "a")]) = H5
    have s5 : Same H4 H5 := e5 ▸ Same.new n5
    have h5 : H5 a5 = some (.lst [.str (Str.ofString "a")]) := e5 ▸ upd_same
    refine fun a6 n6 => ⟨upd_same, [(Sum.inr (Str.ofString "a"), .int 1)], rfl, by decide, ?_⟩
    rw [upd_upd]
    generalize e6 : upd H5 a6 (.dK (mergeK [] [(Sum.inr (Str.ofString "a"), V.int 1)])) = H6
    have s6 : Same H5 H6 := e6 ▸ Same.new n6
    have h6 : H6 a6 = some (.dK (mergeK [] [(Sum.inr (Str.ofString "a"), V.int 1)])) := e6 ▸ upd_same
    refine ⟨lenk 2 rfl (by decide), fun a7 n7 => ?_⟩
    generalize e7 : upd H6 a7 (.tup [.str (Str.ofString "a"), .str (Str.ofString "b")]) = H7
    have s7 : Same H6 H7 := e7 ▸ Same.new n7
    have h7 : H7 a7 = some (.tup [.str (Str.ofString "a"), .str (Str.ofString "b")]) := e7 ▸ upd_same
    refine ⟨lenk 14 rfl (by decide), fun a8 n8 => ?_⟩
    have c8 : Same H (upd H7 a8 (.lst [V.non, .bl true, .bl false, .int 0, .int (-1), .int ((10 : Int) ^ (29 : Int).toNat), .int (0 - (10 : Int) ^ (29 : Int).toNat), .ref a1, .ref a2, .ref a3, .ref a4, .ref a5, .ref a6, .ref a7])) :=
      s1.trans (s2.trans (s3.trans (s4.trans (s5.trans (s6.trans (s7.trans (Same.new n8)))))))
    refine ⟨_, rfl, lenk 1 rfl (by decide), fun a9 n9 => ?_⟩
    refine ⟨lenk 1 rfl (by decide), fun a10 n10 => ?_⟩
    refine ⟨lenk 2 rfl (by decide), fun a11 n11 => ?_⟩
    have d9 : a8 ≠ a9 := ne_of_none upd_same n9
    have d10 : a8 ≠ a10 := ne_of_none ((upd_ne d9).trans upd_same) n10
    have d11 : a8 ≠ a11 := ne_of_none ((upd_ne d10).trans ((upd_ne d9).trans upd_same)) n11
    have e910 : a9 ≠ a10 := ne_of_none upd_same n10
    have e911 : a9 ≠ a11 := ne_of_none ((upd_ne e910).trans upd_same) n11
    have e1011 : a10 ≠ a11 := ne_of_none upd_same n11
    refine ⟨a8, a11, _, _, rfl, rfl, by rw [upd_ne d11, upd_ne d10, upd_ne d9]; exact upd_same, upd_same, by show 14 + 2 ≤ sizeLine; decide, fun a12 n12 => ?_⟩
    have hB12 : Bag H b n := hB
    have S11 := c8.trans ((Same.new (o := .lst [.int 0]) n9).trans ((Same.new (o := .tup [.int 1]) n10).trans (Same.new (o := .lst [.ref a9, .ref a10]) n11)))
    have S12 := S11.trans (Same.new (o := .lst [V.non, .bl true, .bl false, .int 0, .int (-1), .int ((10 : Int) ^ (29 : Int).toNat), .int (0 - (10 : Int) ^ (29 : Int).toNat), .ref a1, .ref a2, .ref a3, .ref a4, .ref a5, .ref a6, .ref a7, .ref a9, .ref a10]) n12)
    refine ⟨_, rfl, b, n, 16, rfl, hB.same S12, by omega, by decide, by decide, fun d H13 f13 b13 d0 d1 => ?_⟩
    have ad : ∀ {a : Addr} {Hk : Hp}, Same H Hk → Hk a = none → b ≠ a := fun s h => (hB.same s).ne h
    have k1 := ad (Same.refl H) n1
    have k2 := ad s1 n2
    have k3 := ad (s1.trans s2) n3
    have k4 := ad (s1.trans (s2.trans s3)) n4
    have k5 := ad (s1.trans (s2.trans (s3.trans s4))) n5
    have k6 := ad (s1.trans (s2.trans (s3.trans (s4.trans s5)))) n6
    have k7 := ad (s1.trans (s2.trans (s3.trans (s4.trans (s5.trans s6))))) n7
    have k9 := ad c8 n9
    have k10 := ad (c8.trans (Same.new n9)) n10
    have k12 := ad S11 n12
    have F7 : Fr b H7 H13 := (Fr.of_same (((Same.new n8).trans ((Same.new n9).trans ((Same.new n10).trans (Same.new n11)))).trans (Same.new n12))).trans f13
    have t7 := keep F7 k7 h7
    have t6 := keep F7 k6 (s7 _ _ h6)
    have t5 := keep F7 k5 ((s6.trans s7) _ _ h5)
    have t4 := keep F7 k4 ((s5.trans (s6.trans s7)) _ _ h4)
    have t3 := keep F7 k3 ((s4.trans (s5.trans (s6.trans s7))) _ _ h3)
    have t2 := keep F7 k2 ((s3.trans (s4.trans (s5.trans (s6.trans s7)))) _ _ h2)
    have t1 := keep F7 k1 ((s2.trans (s3.trans (s4.trans (s5.trans (s6.trans s7))))) _ _ h1)
    have t9 : H13 a9 = some (.lst [.int 0]) := keep f13 k9 ((upd_ne (ne_of_none ((upd_ne e911).trans ((upd_ne e910).trans upd_same)) n12)).trans ((upd_ne e911).trans ((upd_ne e910).trans upd_same)))
    have t10 : H13 a10 = some (.tup [.int 1]) := keep f13 k10 ((upd_ne (ne_of_none ((upd_ne e1011).trans upd_same) n12)).trans ((upd_ne e1011).trans upd_same))
    have t12 : H13 a12 = some (.lst [V.non, .bl true, .bl false, .int 0, .int (-1), .int ((10 : Int) ^ (29 : Int).toNat), .int (0 - (10 : Int) ^ (29 : Int).toNat), .ref a1, .ref a2, .ref a3, .ref a4, .ref a5, .ref a6, .ref a7, .ref a9, .ref a10]) := keep f13 k12 upd_same
    obtain ⟨v, ev, av⟩ := atI_in (xs := [V.non, .bl true, .bl false, .int 0, .int (-1), .int ((10 : Int) ^ (29 : Int).toNat), .int (0 - (10 : Int) ^ (29 : Int).toNat), .ref a1, .ref a2, .ref a3, .ref a4, .ref a5, .ref a6, .ref a7, .ref a9, .ref a10]) d0 (by show d < 16; exact d1)
    refine ⟨a12, _, _, v, rfl, rfl, SqL.of t12, av, q v H13 ((Fr.of_same S12).trans f13) b13 ?_⟩
    have hm := List.mem_of_getElem? ev
    simp only [List.mem_cons, List.not_mem_nil, or_false] at hm
    rcases hm with rfl | rfl | rfl | rfl | rfl | rfl | rfl | rfl | rfl | rfl | rfl | rfl | rfl | rfl | rfl | rfl
    · exact .non
    · exact .bl _
    · exact .bl _
    · exact .int _
    · exact .int _
    · exact .int _
    · exact .int _
    · exact .tup t1
    · exact .lst t2
    · exact .dK t3
    · exact .tup t4
    · exact .lst t5
    · exact .dK t6
    · exact .tup t7
    · exact .lst t9
    · exact .tup t10

end K01
namespace K01
open PySem PySem.Spec PyProof.Rows L2 TL
theorem Same.fr {b : Addr} {H H1 H2 : Hp} (s : Same H H1) (n : H b = none) (f : Fr b H1 H2) : Same H H2 := fun a o e => f a o (ne_of_none e n) (s a o e)
theorem Same.free' {H H' : Hp} {p : Addr} (s : Same H H') (h : H' p = none) : H p = none := by
  cases q : H p with
  | none => rfl
  | some o => rw [s p o q] at h; cases h
def OkL (H : Hp) (xs : List V) : Prop := ∀ v ∈ xs, OkV H v
theorem okl_nil {H : Hp} : OkL H [] := fun _ h => (nomatch h)
theorem okl_cons {H : Hp} {v : V} {xs : List V} (h : OkV H v) (r : OkL H xs) : OkL H (v :: xs) := fun u hu => by
  rcases List.mem_cons.mp hu with rfl | hu
  · exact h
  · exact r u hu
theorem okl_app {H : Hp} {xs ys : List V} (h : OkL H xs) (r : OkL H ys) : OkL H (xs ++ ys) := fun u hu => by
  rcases List.mem_append.mp hu with hu | hu
  · exact h u hu
  · exact r u hu
theorem OkL.same {H H' : Hp} {xs : List V} (h : OkL H xs) (s : Same H H') : OkL H' xs := fun u hu => (h u hu).same s
theorem okc {H : Hp} {s : Str} (n : Nat) (h : s.length ≤ n) (hn : n ≤ 1000) : OkV H (.str s) := .str s (Nat.le_trans h hn)
theorem num_len {i : Int} (h0 : 0 ≤ i) (h1 : i < 10 ^ 40) : (Str.ofString (toString i)).length ≤ 40 := toString_length_le h0 (by decide) h1
theorem num_log {i : Int} (h0 : -(10 ^ 40) < i) (h1 : i < 10 ^ 40) : i.natAbs.log2 < 1920 := by
  have := PySem.Flt.log2_lt_of (n := i.natAbs) (k := 200) (by decide) (by omega)
  omega
theorem small_len {i : Int} (h0 : -4 ≤ i) (h1 : i ≤ 4) : (Str.ofString (toString i)).length ≤ 40 := by
  have h : i = -4 ∨ i = -3 ∨ i = -2 ∨ i = -1 ∨ i = 0 ∨ i = 1 ∨ i = 2 ∨ i = 3 ∨ i = 4 := by omega
  rcases h with rfl | rfl | rfl | rfl | rfl | rfl | rfl | rfl | rfl <;> decide +kernel
theorem most_at {k i : Int} (k0 : -2 ≤ k) (k1 : k ≤ 6) (h0 : 0 ≤ i) (h1 : i < 3) : ∃ m : Int, atI [V.int k, .int ((10 : Int) ^ (9 : Int).toNat), .int ((10 : Int) ^ (29 : Int).toNat)] i = some (.int m) ∧ -2 ≤ m ∧ m ≤ 10 ^ 29 := by
  obtain ⟨v, e, a⟩ := atI_in (xs := [V.int k, .int ((10 : Int) ^ (9 : Int).toNat), .int ((10 : Int) ^ (29 : Int).toNat)]) h0 (by exact h1)
  have hm := List.mem_of_getElem? e
  simp only [List.mem_cons, List.not_mem_nil, or_false] at hm
  rcases hm with rfl | rfl | rfl
  · exact ⟨_, a, k0, by omega⟩
  · exact ⟨_, a, by decide, by decide⟩
  · exact ⟨_, a, by decide, by decide⟩
theorem ok_law {P : Program} {w : World} {K : PySem.W.Frag} {mg : Str → Option Value} {base : Heap} (T : Txt K mg) : FnOk P w K mg base CX0 5 T.f_law T.fd_law ["_law_script"] (sp_law K) := by
  refine T.F_law.ok sc_law (fun vs H Q E h => ?_) (fun cdv A outer s H vs Q E hr h => ?_)
  · obtain ⟨_, _, rfl, _⟩ := h; rfl
  · obtain ⟨l, ns, rfl, hS, hlen, q⟩ := h
    refine ⟨_, PSs.nox (pss_cons (ps_for PassesOwn.never rfl (pi_range1 (by rfl) T.n_range (pa_cons (pe_callB (call_max2 rfl) (by rfl) T.n_max (by decide +kernel) (pa_cons pe_int (pa_cons (pe_callB (call_min2 rfl) (by rfl) T.n_min (by decide +kernel) (pa_cons pe_int (pa_cons (pe_callB call_len_seq (by rfl) T.n_len (by decide +kernel) (pa_cons (pv 0) pa_nil)) pa_nil))) pa_nil))) pa_nil)) (pg_name (i := 1) sc_law.nd rfl (Or.inl rfl)) (pss_cons (ps_set (i := 2) sc_law.nd rfl (Or.inl rfl) (pe_call (ok_l_bag T) (hr.mono (by decide)) (by rfl) T.g_l_bag T.F_l_bag.kp (b_l_bag T) .nil pass0 (pa_cons (pe_call (ok_l_cell T) (hr.mono (by decide)) (by rfl) T.g_l_cell T.F_l_cell.kp (b_l_cell T) .nil pass0 (pa_cons (pv 0) (pa_cons (pv 1) pa_nil))) pa_nil)))
      (pss_cons (ps_par (i := 3) (j := 4) (by rfl) sc_law.nd rfl rfl (by decide) rfl rfl (pa_cons (pe_op op_sub (pe_call (ok_l_take T) (hr.mono (by decide)) (by rfl) T.g_l_take T.F_l_take.kp (b_l_take T) .nil pass0 (pa_cons (pv 2) (pa_cons pe_int pa_nil))) pe_int) (pa_cons (pe_ix (show IxR _ (rIxL K) from ix_list) (pe_lst (pa_cons (pe_op op_sub (pe_call (ok_l_take T) (hr.mono (by decide)) (by rfl) T.g_l_take T.F_l_take.kp (b_l_take T) .nil pass0 (pa_cons (pv 2) (pa_cons pe_int pa_nil))) pe_int) (pa_cons (pe_op op_pow pe_int pe_int) (pa_cons (pe_op op_pow pe_int pe_int) pa_nil)))) (pe_call (ok_l_take T) (hr.mono (by decide)) (by rfl) T.g_l_take T.F_l_take.kp (b_l_take T) .nil pass0 (pa_cons (pv 2) (pa_cons pe_int pa_nil))) (fun _ _ => rfl)) pa_nil)) (by rfl))
      (pss_cons (ps_set (i := 5) sc_law.nd rfl (Or.inl rfl) (pe_lst (pa_cons (pe_call (ok_l_text T) (hr.mono (by decide)) (by rfl) T.g_l_text T.F_l_text.kp (b_l_text T) .nil pass0 (pa_cons (pv 2) pa_nil)) (pa_cons (pe_call (ok_l_text T) (hr.mono (by decide)) (by rfl) T.g_l_text T.F_l_text.kp (b_l_text T) .nil pass0 (pa_cons (pv 2) pa_nil)) (pa_cons (pe_call (ok_l_digits T) (hr.mono (by decide)) (by rfl) T.g_l_digits T.F_l_digits.kp (b_l_digits T) .nil pass0 (pa_cons (pv 2) pa_nil)) (pa_cons (pe_call (ok_l_digits T) (hr.mono (by decide)) (by rfl) T.g_l_digits T.F_l_digits.kp (b_l_digits T) .nil pass0 (pa_cons (pv 2) pa_nil)) (pa_cons (pe_call (ok_l_words_text T) (hr.mono (by decide)) (by rfl) T.g_l_words_text T.F_l_words_text.kp (b_l_words_text T) .nil pass0 (pa_cons (pv 2) pa_nil)) pa_nil)))))))
      (pss_cons (ps_set (i := 5) sc_law.nd rfl (Or.inl rfl) (pe_op op_cat (pv 5) (pe_lst (pa_cons (pe_call (ok_l_odd T) (hr.mono (by decide)) (by rfl) T.g_l_odd T.F_l_odd.kp (b_l_odd T) .nil pass0 (pa_cons (pv 2) pa_nil)) (pa_cons (pv 3) (pa_cons (pv 4) (pa_cons (pe_op op_sub (pv 3) pe_int) (pa_cons (pe_op op_add (pv 4) pe_int) (pa_cons (pe_callTy call_str_int (by rfl) T.n_str (by decide +kernel) (pa_cons (pe_callB call_abs (by rfl) T.n_abs (by decide +kernel) (pa_cons (pv 3) pa_nil)) pa_nil)) (pa_cons (pe_callTy call_str_int (by rfl) T.n_str (by decide +kernel) (pa_cons (pe_callB call_abs (by rfl) T.n_abs (by decide +kernel) (pa_cons (pv 4) pa_nil)) pa_nil)) (pa_cons (pe_op op_repS pe_str pe_int) pa_nil)))))))))))
      (pss_cons (ps_set (i := 5) sc_law.nd rfl (Or.inl rfl) (pe_op op_cat (pv 5) (pe_lst (pa_cons (pe_callTy call_str_int (by rfl) T.n_str (by decide +kernel) (pa_cons (pe_op op_add (pe_callB call_abs (by rfl) T.n_abs (by decide +kernel) (pa_cons (pv 4) pa_nil)) pe_int) pa_nil)) (pa_cons (pe_op op_repS pe_str pe_int) (pa_cons (pe_callTy call_str_int (by rfl) T.n_str (by decide +kernel) (pa_cons (pv 3) pa_nil)) (pa_cons pe_str (pa_cons pe_str (pa_cons pe_str (pa_cons pe_str (pa_cons pe_str (pa_cons pe_str (pa_cons pe_str pa_nil)))))))))))))
      (pss_cons (ps_set (i := 5) sc_law.nd rfl (Or.inl rfl) (pe_op op_cat (pv 5) (pe_lst (pa_cons pe_str (pa_cons pe_str (pa_cons (pe_op op_add_str (pe_op op_add_str (pe_op op_repS pe_str pe_int) pe_str) (pe_op op_repS pe_str pe_int)) (pa_cons (pe_join pe_str (pe_op op_rep (pe_lst (pa_cons pe_str pa_nil)) pe_int)) pa_nil)))))))
      (pss_cons (ps_set (i := 5) sc_law.nd rfl (Or.inl rfl) (pe_op op_cat (pv 5) (pe_lst (pa_cons pe_str (pa_cons pe_str (pa_cons pe_str (pa_cons pe_str (pa_cons pe_str (pa_cons pe_str (pa_cons pe_str (pa_cons pe_str (pa_cons pe_str (pa_cons pe_str (pa_cons pe_str pa_nil))))))))))))))
      (pss_one (ps_for PassesOwn.never rfl (pi_list (pv 5)) (pg_name (i := 6) sc_law.nd rfl (Or.inl rfl)) (pss_one (ps_if (pt_not (pt_val (pe_call (ok_l_value_right T) (hr.mono (by decide)) (by rfl) T.g_l_value_right T.F_l_value_right.kp (b_l_value_right T) .nil pass0 (pa_cons (pv 6) (pa_cons (pv 3) (pa_cons (pv 4) pa_nil)))))) (pss_one (ps_ret pe_bl)) pss_nil))))))))))))
      (pss_one (ps_ret pe_bl))), ?_⟩
    refine ⟨_, rfl, l, _, rfl, .inl hS, _, _, rfl, _, _, rfl, _, rfl, ?_, ?_, for_it walk_range (fun i σ H' => Same H H' ∧ ∃ a b c d e f, σ = [some (.ref l), a, b, c, d, e, f]) ⟨Same.refl H, _, _, _, _, _, _, rfl⟩ (fun _ _ _ _ _ => trivial) (fun i x σ H' H'' hi' p y => ?_) (fun σ H' p => q H')⟩
    · split <;> omega
    · rw [List.length_map]; split <;> split <;> omega
    obtain ⟨S0, xa, xb, xc, xd, xe, xf, rfl⟩ := p
    obtain ⟨rfl, rfl⟩ := y
    refine ⟨_, rfl, _, rfl, l, ns, _, rfl, S0.seq hS, by omega, fun cv => ?_⟩
    refine ⟨_, rfl, fun p H1 s1 np hB => ?_⟩
    have nH : H p = none := Same.free' S0 np
    have S1 := S0.trans s1
    refine ⟨_, rfl, p, 0, 9, rfl, hB, by omega, by decide, by decide, fun d1 H2 f2 b2 d10 d11 => ?_⟩
    refine ⟨_, _, rfl, rfl, ?_⟩
    refine ⟨_, rfl, p, _, 9, rfl, b2, by omega, by decide, by decide, fun d2 H3 f3 b3 d20 d21 => ?_⟩
    refine ⟨_, _, rfl, rfl, _, _, rfl, rfl, ⟨by decide, by decide, by decide⟩, _, _, rfl, rfl, ⟨by decide, by decide, by decide⟩, lenk 3 rfl (by decide), fun a1 n1 => ?_⟩
    refine ⟨_, rfl, p, _, 3, rfl, b3.upd (b3.ne n1), by omega, by decide, by decide, fun d3 H5 f5 b5 d30 d31 => ?_⟩
    obtain ⟨most, hmost, m0, m1⟩ := most_at (k := d2 - 2) (by omega) (by omega) d30 d31
    refine ⟨a1, _, _, _, rfl, rfl, SqL.of (f5 a1 _ (b3.ne n1).symm upd_same), hmost, _, _, rfl, ?_⟩
    have F5 : Fr p H1 H5 := (f2.trans f3).trans ((Fr.new n1).trans f5)
    have hl0 : -4 ≤ d1 - 4 := by omega
    have hl1 : d1 - 4 ≤ 4 := by omega
    refine ⟨_, rfl, p, _, rfl, b5, by omega, fun t1 H6 f6 b6 q1 => ?_⟩
    refine ⟨_, rfl, p, _, rfl, b6, by omega, fun t2 H7 f7 b7 q2 => ?_⟩
    refine ⟨_, rfl, p, _, rfl, b7, by omega, fun t3 H8 f8 b8 q3 => ?_⟩
    refine ⟨_, rfl, p, _, rfl, b8, by omega, fun t4 H9 f9 b9 q4 => ?_⟩
    refine ⟨_, rfl, p, _, rfl, b9, by omega, fun t5 H10 f10 b10 q5 => ?_⟩
    refine ⟨lenk 5 rfl (by decide), fun a2 n2 => ?_⟩
    have p2 := b10.ne n2
    refine ⟨_, rfl, _, rfl, p, _, rfl, b10.upd p2, by omega, fun v H11 f11 b11 hv => ?_⟩
    have h2 := f11 a2 _ p2.symm upd_same
    have F11 : Fr p H1 H11 := F5.trans (f6.trans (f7.trans (f8.trans (f9.trans (f10.trans ((Fr.new n2).trans f11))))))
    have S11 : Same H H11 := Same.fr S1 nH F11
    have lA : 0 ≤ (if (d1 - 4) < 0 then -(d1 - 4) else (d1 - 4)) ∧ (if (d1 - 4) < 0 then -(d1 - 4) else (d1 - 4)) ≤ 4 := by split <;> omega
    have mA : 0 ≤ (if most < 0 then -most else most) ∧ (if most < 0 then -most else most) ≤ 10 ^ 29 := by split <;> omega
    refine ⟨_, rfl, _, rfl, _, rfl, _, _, rfl, rfl, _, rfl, _, _, rfl, rfl, _, rfl, _, rfl, _, rfl, num_log (by omega) (by omega), _, rfl, _, rfl, _, rfl, num_log (by omega) (by omega), _, _, rfl, rfl, by decide +kernel, by decide, by decide, fun u8 hu8 => ?_⟩
    refine ⟨lenk 8 rfl (by decide), fun a3 n3 => ?_⟩
    refine ⟨a2, a3, _, _, rfl, rfl, (upd_ne (ne_of_none h2 n3)).trans h2, upd_same, (by show 5 + 8 ≤ sizeLine; decide), fun a4 n4 => ?_⟩
    refine ⟨_, rfl, _, rfl, _, rfl, _, _, rfl, rfl, _, rfl, num_log (by omega) (by omega), _, _, rfl, rfl, by decide +kernel, by decide, by decide, fun u9 hu9 => ?_⟩
    refine ⟨_, rfl, _, rfl, num_log (by omega) (by omega), lenk 10 rfl (by decide), fun a5 n5 => ?_⟩
    refine ⟨a4, a5, _, _, rfl, rfl, (upd_ne (ne_of_none upd_same n5)).trans upd_same, upd_same, (by show 13 + 10 ≤ sizeLine; decide), fun a6 n6 => ?_⟩
    refine ⟨_, rfl, _, _, rfl, rfl, by decide +kernel, by decide, by decide, fun u40 hu40 => ?_⟩
    have e1 : (Str.ofString "a").length = 1 := by decide +kernel
    have e2 : (Str.ofString "b").length = 1 := by decide +kernel
    have e3 : (Str.ofString " ").length = 1 := by decide +kernel
    rw [e1] at hu8 hu9 hu40
    have hu8' : u8.length ≤ 8 := hu8
    have hu9' : u9.length ≤ 9 := hu9
    have hu40' : u40.length ≤ 40 := hu40
    refine ⟨_, _, rfl, rfl, slen (by omega), _, _, rfl, rfl, by decide +kernel, by decide, by decide, fun u150 hu150 => ?_⟩
    rw [e2] at hu150
    have hu150' : u150.length ≤ 150 := hu150
    refine ⟨_, _, rfl, rfl, by rw [app_len]; exact slen (by omega), ⟨_, rfl⟩, lenk 1 rfl (by decide), fun a7 n7 => ?_⟩
    refine ⟨a7, 60, _, rfl, rfl, upd_same, by decide, by decide, by show 1 * 60 ≤ sizeLine; decide, fun a8 n8 => ?_⟩
    have hj := join_size (a := Str.ofString " ") (ys := List.replicate 60 (Str.ofString "ab")) (L := 2) (n := 60) (A := 1) (fun s hs => by rw [List.eq_of_mem_replicate hs]; decide +kernel) (by simp) (by decide +kernel)
    refine ⟨_, a8, List.replicate 60 (Str.ofString "ab"), rfl, rfl, .inl (SqL.of upd_same), by omega, ?_⟩
    have hjl := join_len (Str.ofString " ") (List.replicate 60 (Str.ofString "ab"))
    generalize Txt.join (Str.ofString " ") (List.replicate 60 (Str.ofString "ab")) = jj at hjl
    refine ⟨lenk 4 rfl (by decide), fun a9 n9 => ?_⟩
    have m67 : a6 ≠ a7 := ne_of_none upd_same n7
    have m68 : a6 ≠ a8 := ne_of_none ((upd_ne m67).trans upd_same) n8
    have m69 : a6 ≠ a9 := ne_of_none ((upd_ne m68).trans ((upd_ne m67).trans upd_same)) n9
    refine ⟨a6, a9, _, _, rfl, rfl, (upd_ne m69).trans ((upd_ne m68).trans ((upd_ne m67).trans upd_same)), upd_same, (by show 23 + 4 ≤ sizeLine; decide), fun a10 n10 => ?_⟩
    refine ⟨_, rfl, lenk 11 rfl (by decide), fun a11 n11 => ?_⟩
    refine ⟨a10, a11, _, _, rfl, rfl, (upd_ne (ne_of_none upd_same n11)).trans upd_same, upd_same, (by show 27 + 11 ≤ sizeLine; decide), fun a12 n12 => ?_⟩
    have hok : OkL H11 (((([V.str t1, .str t2, .str t3, .str t4, .str t5] ++ [v, V.int (d1 - 4), .int most, .int ((d1 - 4) - 1), .int (most + 1), .str (Str.ofString (toString (if (d1 - 4) < 0 then -(d1 - 4) else (d1 - 4)))), .str (Str.ofString (toString (if most < 0 then -most else most))), .str u8]) ++ [V.str (Str.ofString (toString ((if most < 0 then -most else most) + 1))), .str u9, .str (Str.ofString (toString (d1 - 4))), .str (Str.ofString "-5"), .str (Str.ofString "+5"), .str (Str.ofString " 5"), .str (Str.ofString "5 "), .str (Str.ofString "5\n"), .str (Str.ofString "\n5"), .str (Str.ofString "1_0")]) ++ [V.str (Str.ofString "00"), .str (Str.ofString "5.0"), .str (u40 ++ Str.ofString " " ++ u150), .str jj]) ++ [V.str (Str.ofString "0"), .str (Str.ofString ""), .str (Str.ofString "05"), .str (Str.ofString "a\n"), .str (Str.ofString "a b\n"), .str (Str.ofString "\na b"), .str (Str.ofString "a  b"), .str (Str.ofString "A"), .str (Str.ofString "a1"), .str (Str.ofString "0x1"), .str (Str.ofString "5\n5")]) :=
      okl_app (okl_app (okl_app (okl_app (okl_cons (okc 24 q1 (by decide)) (okl_cons (okc 24 q2 (by decide)) (okl_cons (okc 64 q3 (by decide)) (okl_cons (okc 64 q4 (by decide)) (okl_cons (okc 400 q5 (by decide)) okl_nil)))))
        (okl_cons hv (okl_cons (.int _) (okl_cons (.int _) (okl_cons (.int _) (okl_cons (.int _) (okl_cons (okc 40 (num_len (by omega) (by omega)) (by decide)) (okl_cons (okc 40 (num_len (by omega) (by omega)) (by decide)) (okl_cons (okc 8 hu8' (by decide)) okl_nil)))))))))
        (okl_cons (okc 40 (num_len (by omega) (by omega)) (by decide)) (okl_cons (okc 9 hu9' (by decide)) (okl_cons (okc 40 (small_len hl0 hl1) (by decide)) (okl_cons (okc 10 (by decide +kernel) (by decide)) (okl_cons (okc 10 (by decide +kernel) (by decide)) (okl_cons (okc 10 (by decide +kernel) (by decide)) (okl_cons (okc 10 (by decide +kernel) (by decide)) (okl_cons (okc 10 (by decide +kernel) (by decide)) (okl_cons (okc 10 (by decide +kernel) (by decide)) (okl_cons (okc 10 (by decide +kernel) (by decide)) okl_nil)))))))))))
        (okl_cons (okc 10 (by decide +kernel) (by decide)) (okl_cons (okc 10 (by decide +kernel) (by decide)) (okl_cons (okc 200 (by rw [app_len, app_len, e3]; omega) (by decide)) (okl_cons (okc 200 (by omega) (by decide)) okl_nil)))))
        (okl_cons (okc 10 (by decide +kernel) (by decide)) (okl_cons (okc 10 (by decide +kernel) (by decide)) (okl_cons (okc 10 (by decide +kernel) (by decide)) (okl_cons (okc 10 (by decide +kernel) (by decide)) (okl_cons (okc 10 (by decide +kernel) (by decide)) (okl_cons (okc 10 (by decide +kernel) (by decide)) (okl_cons (okc 10 (by decide +kernel) (by decide)) (okl_cons (okc 10 (by decide +kernel) (by decide)) (okl_cons (okc 10 (by decide +kernel) (by decide)) (okl_cons (okc 10 (by decide +kernel) (by decide)) (okl_cons (okc 10 (by decide +kernel) (by decide)) okl_nil)))))))))))
    refine ⟨_, rfl, a12, rfl, ⟨_, SqL.of upd_same⟩, for_it (walk_list (xs := ((([V.str t1, .str t2, .str t3, .str t4, .str t5] ++ [v, V.int (d1 - 4), .int most, .int ((d1 - 4) - 1), .int (most + 1), .str (Str.ofString (toString (if (d1 - 4) < 0 then -(d1 - 4) else (d1 - 4)))), .str (Str.ofString (toString (if most < 0 then -most else most))), .str u8]) ++ [V.str (Str.ofString (toString ((if most < 0 then -most else most) + 1))), .str u9, .str (Str.ofString (toString (d1 - 4))), .str (Str.ofString "-5"), .str (Str.ofString "+5"), .str (Str.ofString " 5"), .str (Str.ofString "5 "), .str (Str.ofString "5\n"), .str (Str.ofString "\n5"), .str (Str.ofString "1_0")]) ++ [V.str (Str.ofString "00"), .str (Str.ofString "5.0"), .str (u40 ++ Str.ofString " " ++ u150), .str jj]) ++ [V.str (Str.ofString "0"), .str (Str.ofString ""), .str (Str.ofString "05"), .str (Str.ofString "a\n"), .str (Str.ofString "a b\n"), .str (Str.ofString "\na b"), .str (Str.ofString "a  b"), .str (Str.ofString "A"), .str (Str.ofString "a1"), .str (Str.ofString "0x1"), .str (Str.ofString "5\n5")])) (fun j σ H' => (Same H H' ∧ SqL K H' a12 (((([V.str t1, .str t2, .str t3, .str t4, .str t5] ++ [v, V.int (d1 - 4), .int most, .int ((d1 - 4) - 1), .int (most + 1), .str (Str.ofString (toString (if (d1 - 4) < 0 then -(d1 - 4) else (d1 - 4)))), .str (Str.ofString (toString (if most < 0 then -most else most))), .str u8]) ++ [V.str (Str.ofString (toString ((if most < 0 then -most else most) + 1))), .str u9, .str (Str.ofString (toString (d1 - 4))), .str (Str.ofString "-5"), .str (Str.ofString "+5"), .str (Str.ofString " 5"), .str (Str.ofString "5 "), .str (Str.ofString "5\n"), .str (Str.ofString "\n5"), .str (Str.ofString "1_0")]) ++ [V.str (Str.ofString "00"), .str (Str.ofString "5.0"), .str (u40 ++ Str.ofString " " ++ u150), .str jj]) ++ [V.str (Str.ofString "0"), .str (Str.ofString ""), .str (Str.ofString "05"), .str (Str.ofString "a\n"), .str (Str.ofString "a b\n"), .str (Str.ofString "\na b"), .str (Str.ofString "a  b"), .str (Str.ofString "A"), .str (Str.ofString "a1"), .str (Str.ofString "0x1"), .str (Str.ofString "5\n5")]) ∧ OkL H' (((([V.str t1, .str t2, .str t3, .str t4, .str t5] ++ [v, V.int (d1 - 4), .int most, .int ((d1 - 4) - 1), .int (most + 1), .str (Str.ofString (toString (if (d1 - 4) < 0 then -(d1 - 4) else (d1 - 4)))), .str (Str.ofString (toString (if most < 0 then -most else most))), .str u8]) ++ [V.str (Str.ofString (toString ((if most < 0 then -most else most) + 1))), .str u9, .str (Str.ofString (toString (d1 - 4))), .str (Str.ofString "-5"), .str (Str.ofString "+5"), .str (Str.ofString " 5"), .str (Str.ofString "5 "), .str (Str.ofString "5\n"), .str (Str.ofString "\n5"), .str (Str.ofString "1_0")]) ++ [V.str (Str.ofString "00"), .str (Str.ofString "5.0"), .str (u40 ++ Str.ofString " " ++ u150), .str jj]) ++ [V.str (Str.ofString "0"), .str (Str.ofString ""), .str (Str.ofString "05"), .str (Str.ofString "a\n"), .str (Str.ofString "a b\n"), .str (Str.ofString "\na b"), .str (Str.ofString "a  b"), .str (Str.ofString "A"), .str (Str.ofString "a1"), .str (Str.ofString "0x1"), .str (Str.ofString "5\n5")])) ∧ ∃ x6, σ = [some (.ref l), some (.int (0 + (i : Nat))), some (.ref p), some (.int (d1 - 4)), some (.int most), some (.ref a12), x6])
      ⟨⟨?_, SqL.of upd_same, hok.same ?_⟩, _, rfl⟩ (fun _ _ _ _ pv => pv.1.2.1) (fun j x σ H' H'' hj pv y => ?_) (fun σ H' pv => ?_)⟩
    rotate_left 1
    · exact (Same.new n3).trans ((Same.new n4).trans ((Same.new n5).trans ((Same.new n6).trans ((Same.new n7).trans ((Same.new n8).trans ((Same.new n9).trans ((Same.new n10).trans ((Same.new n11).trans (Same.new n12)))))))))
    · obtain ⟨⟨sm, hq, ho⟩, x6, rfl⟩ := pv
      obtain ⟨rfl, ey⟩ := y
      refine ⟨_, rfl, _, rfl, _, rfl, x, (d1 - 4), most, rfl, ho x (List.mem_of_getElem? ey), fun H20 s20 => ?_⟩
      exact ⟨_, rfl, ⟨sm.trans s20, s20.seq hq, OkL.same ho s20⟩, _, rfl⟩
    · obtain ⟨⟨sm, hq, ho⟩, x6, rfl⟩ := pv
      exact ⟨sm, _, _, _, _, _, _, rfl⟩
    · exact S11.trans ((Same.new n3).trans ((Same.new n4).trans ((Same.new n5).trans ((Same.new n6).trans ((Same.new n7).trans ((Same.new n8).trans ((Same.new n9).trans ((Same.new n10).trans ((Same.new n11).trans (Same.new n12))))))))))

end K01
namespace K01
open PySem PySem.Spec PyProof.Rows L2 TL
def d_is_name : He.DefD := ⟨("is_name", none), "is_name", "is_name", defArgs s_is_name, defBody s_is_name, defScope s_is_name, [], []⟩
def d_is_any_integer : He.DefD := ⟨("is_any_integer", none), "is_any_integer", "is_any_integer", defArgs s_is_any_integer, defBody s_is_any_integer, defScope s_is_any_integer, [], []⟩
def d_is_integer : He.DefD := ⟨("is_integer", none), "is_integer", "is_integer", defArgs s_is_integer, defBody s_is_integer, defScope s_is_integer, [], []⟩
def d_is_numeral : He.DefD := ⟨("is_numeral", none), "is_numeral", "is_numeral", defArgs s_is_numeral, defBody s_is_numeral, defScope s_is_numeral, [], []⟩
def d_parse_integer : He.DefD := ⟨("parse_integer", none), "parse_integer", "parse_integer", defArgs s_parse_integer, defBody s_parse_integer, defScope s_parse_integer, [], [("low", .int 0), ("high", .int 999999)]⟩
def d_split_words : He.DefD := ⟨("split_words", none), "split_words", "split_words", defArgs s_split_words, defBody s_split_words, defScope s_split_words, [], []⟩
def d_l_cell : He.DefD := ⟨("_law_cell", none), "_law_cell", "_law_cell", defArgs s_l_cell, defBody s_l_cell, defScope s_l_cell, [], []⟩
def d_l_bag : He.DefD := ⟨("_law_bag", none), "_law_bag", "_law_bag", defArgs s_l_bag, defBody s_l_bag, defScope s_l_bag, [], []⟩
def d_l_take : He.DefD := ⟨("_law_take", none), "_law_take", "_law_take", defArgs s_l_take, defBody s_l_take, defScope s_l_take, [], []⟩
def d_l_any_character : He.DefD := ⟨("_law_any_character", none), "_law_any_character", "_law_any_character", defArgs s_l_any_character, defBody s_l_any_character, defScope s_l_any_character, [], []⟩
def d_l_text : He.DefD := ⟨("_law_text", none), "_law_text", "_law_text", defArgs s_l_text, defBody s_l_text, defScope s_l_text, [], []⟩
def d_l_digits : He.DefD := ⟨("_law_digits", none), "_law_digits", "_law_digits", defArgs s_l_digits, defBody s_l_digits, defScope s_l_digits, [], []⟩
def d_l_words_text : He.DefD := ⟨("_law_words_text", none), "_law_words_text", "_law_words_text", defArgs s_l_words_text, defBody s_l_words_text, defScope s_l_words_text, [], []⟩
def d_l_odd : He.DefD := ⟨("_law_odd", none), "_law_odd", "_law_odd", defArgs s_l_odd, defBody s_l_odd, defScope s_l_odd, [], []⟩
def d_l_is_name : He.DefD := ⟨("_law_is_name", none), "_law_is_name", "_law_is_name", defArgs s_l_is_name, defBody s_l_is_name, defScope s_l_is_name, [], []⟩
def d_l_parsed : He.DefD := ⟨("_law_parsed", none), "_law_parsed", "_law_parsed", defArgs s_l_parsed, defBody s_l_parsed, defScope s_l_parsed, [], []⟩
def d_l_words : He.DefD := ⟨("_law_words", none), "_law_words", "_law_words", defArgs s_l_words, defBody s_l_words, defScope s_l_words, [], []⟩
def d_l_same : He.DefD := ⟨("_law_same", none), "_law_same", "_law_same", defArgs s_l_same, defBody s_l_same, defScope s_l_same, [], []⟩
def d_l_value_right : He.DefD := ⟨("_law_value_right", none), "_law_value_right", "_law_value_right", defArgs s_l_value_right, defBody s_l_value_right, defScope s_l_value_right, [], []⟩
def d_law : He.DefD := ⟨("law", none), "law", "law", defArgs s_law, defBody s_law, defScope s_law, [], []⟩
def fn : List He.DefD := [d_is_name, d_is_any_integer, d_is_integer, d_is_numeral, d_parse_integer, d_split_words, d_l_cell, d_l_bag, d_l_take, d_l_any_character, d_l_text, d_l_digits, d_l_words_text, d_l_odd, d_l_is_name, d_l_parsed, d_l_words, d_l_same, d_l_value_right, d_law]
def fa : List He.Fa := [.glo "is_name", .glo "is_any_integer", .glo "is_integer", .glo "is_numeral", .glo "parse_integer", .glo "split_words", .glo "_law_cell", .glo "_law_bag", .glo "_law_take", .glo "_law_any_character", .glo "_law_text", .glo "_law_digits", .glo "_law_words_text", .glo "_law_odd", .glo "_law_is_name", .glo "_law_parsed", .glo "_law_words", .glo "_law_same", .glo "_law_value_right", .glo "law", .free "abs", .free "all", .free "bool", .free "int", .free "isinstance", .free "len", .free "list", .free "max", .free "min", .free "range", .free "str"]
abbrev R : PySem.W.OpenRow := PySem.W.OpenLaw.row PySem.Challenge.rw_resampler_k01_names_integers_words
abbrev hk : PySem.W.Hook := He.hookD 4 fa fn
def ob (s : PySem.W.SharedT) : He.AlD := He.obsDG 4 fa fn (HandSHeadRun.getT s)
theorem ob_eq (s : PySem.W.SharedT) : ob s = hk.obs s.abs := He.obsDG_eq (HandSHeadRun.getT_eq s)
def loose : List Str := ["is_name", "is_any_integer", "is_integer", "is_numeral", "parse_integer", "split_words", "_law_cell", "_law_bag", "_law_take", "_law_any_character", "_law_text", "_law_digits", "_law_words_text", "_law_odd", "_law_is_name", "_law_parsed", "_law_words", "_law_same", "_law_value_right"]
theorem run (w : World) : HandSHeadRun.RunEq R (PySem.W.view R.prog [21]) hk ob 6000 loose w := by
  intro os
  kernel_rfl
theorem facts {P : Program} {w : World} {K : PySem.W.Frag} {h : Heap} {mg : Str → Option Value} {f : Addr} (X : K.In h) (G : h.Ns mainGlobals mg) (hfa : mg ("law" : Str) = some (.ref f)) (c : He.SaysD fa fn K) :
    ∃ fd : FuncData, (∀ (s : Shared) (v : Value), BindsTo s fd ⟨[v], []⟩ [("_law_script", v)]) ∧ ∀ base : Heap, K.In base → base.Ns mainGlobals mg → FnOk P w K mg base CX0 5 f fd ["_law_script"] (sp_law K) := by
  obtain ⟨fd0, F0⟩ := c.def_ 0 (d := d_is_name) rfl
  obtain ⟨fd1, F1⟩ := c.def_ 1 (d := d_is_any_integer) rfl
  obtain ⟨fd2, F2⟩ := c.def_ 2 (d := d_is_integer) rfl
  obtain ⟨fd3, F3⟩ := c.def_ 3 (d := d_is_numeral) rfl
  obtain ⟨fd4, F4⟩ := c.def_ 4 (d := d_parse_integer) rfl
  obtain ⟨fd5, F5⟩ := c.def_ 5 (d := d_split_words) rfl
  obtain ⟨fd6, F6⟩ := c.def_ 6 (d := d_l_cell) rfl
  obtain ⟨fd7, F7⟩ := c.def_ 7 (d := d_l_bag) rfl
  obtain ⟨fd8, F8⟩ := c.def_ 8 (d := d_l_take) rfl
  obtain ⟨fd9, F9⟩ := c.def_ 9 (d := d_l_any_character) rfl
  obtain ⟨fd10, F10⟩ := c.def_ 10 (d := d_l_text) rfl
  obtain ⟨fd11, F11⟩ := c.def_ 11 (d := d_l_digits) rfl
  obtain ⟨fd12, F12⟩ := c.def_ 12 (d := d_l_words_text) rfl
  obtain ⟨fd13, F13⟩ := c.def_ 13 (d := d_l_odd) rfl
  obtain ⟨fd14, F14⟩ := c.def_ 14 (d := d_l_is_name) rfl
  obtain ⟨fd15, F15⟩ := c.def_ 15 (d := d_l_parsed) rfl
  obtain ⟨fd16, F16⟩ := c.def_ 16 (d := d_l_words) rfl
  obtain ⟨fd17, F17⟩ := c.def_ 17 (d := d_l_same) rfl
  obtain ⟨fd18, F18⟩ := c.def_ 18 (d := d_l_value_right) rfl
  obtain ⟨fd19, F19⟩ := c.def_ 19 (d := d_law) rfl
  have e := hfa.symm.trans (He.glo_ok X G (c.fact 19 (f := .glo "law") rfl))
  cases e
  have b := FunD.bindsA (ps := ["_law_script"]) F19 fun _ _ _ _ _ _ us hl => match us, hl with | [_], _ => rfl
  let T : Txt K mg := {
    f_is_name := _, fd_is_name := fd0, F_is_name := F0, g_is_name := He.glo_ok X G (c.fact 0 (f := .glo "is_name") rfl),
    f_is_any_integer := _, fd_is_any_integer := fd1, F_is_any_integer := F1, g_is_any_integer := He.glo_ok X G (c.fact 1 (f := .glo "is_any_integer") rfl),
    f_is_integer := _, fd_is_integer := fd2, F_is_integer := F2, g_is_integer := He.glo_ok X G (c.fact 2 (f := .glo "is_integer") rfl),
    f_is_numeral := _, fd_is_numeral := fd3, F_is_numeral := F3, g_is_numeral := He.glo_ok X G (c.fact 3 (f := .glo "is_numeral") rfl),
    f_parse_integer := _, fd_parse_integer := fd4, F_parse_integer := F4, g_parse_integer := He.glo_ok X G (c.fact 4 (f := .glo "parse_integer") rfl),
    f_split_words := _, fd_split_words := fd5, F_split_words := F5, g_split_words := He.glo_ok X G (c.fact 5 (f := .glo "split_words") rfl),
    f_l_cell := _, fd_l_cell := fd6, F_l_cell := F6, g_l_cell := He.glo_ok X G (c.fact 6 (f := .glo "_law_cell") rfl),
    f_l_bag := _, fd_l_bag := fd7, F_l_bag := F7, g_l_bag := He.glo_ok X G (c.fact 7 (f := .glo "_law_bag") rfl),
    f_l_take := _, fd_l_take := fd8, F_l_take := F8, g_l_take := He.glo_ok X G (c.fact 8 (f := .glo "_law_take") rfl),
    f_l_any_character := _, fd_l_any_character := fd9, F_l_any_character := F9, g_l_any_character := He.glo_ok X G (c.fact 9 (f := .glo "_law_any_character") rfl),
    f_l_text := _, fd_l_text := fd10, F_l_text := F10, g_l_text := He.glo_ok X G (c.fact 10 (f := .glo "_law_text") rfl),
    f_l_digits := _, fd_l_digits := fd11, F_l_digits := F11, g_l_digits := He.glo_ok X G (c.fact 11 (f := .glo "_law_digits") rfl),
    f_l_words_text := _, fd_l_words_text := fd12, F_l_words_text := F12, g_l_words_text := He.glo_ok X G (c.fact 12 (f := .glo "_law_words_text") rfl),
    f_l_odd := _, fd_l_odd := fd13, F_l_odd := F13, g_l_odd := He.glo_ok X G (c.fact 13 (f := .glo "_law_odd") rfl),
    f_l_is_name := _, fd_l_is_name := fd14, F_l_is_name := F14, g_l_is_name := He.glo_ok X G (c.fact 14 (f := .glo "_law_is_name") rfl),
    f_l_parsed := _, fd_l_parsed := fd15, F_l_parsed := F15, g_l_parsed := He.glo_ok X G (c.fact 15 (f := .glo "_law_parsed") rfl),
    f_l_words := _, fd_l_words := fd16, F_l_words := F16, g_l_words := He.glo_ok X G (c.fact 16 (f := .glo "_law_words") rfl),
    f_l_same := _, fd_l_same := fd17, F_l_same := F17, g_l_same := He.glo_ok X G (c.fact 17 (f := .glo "_law_same") rfl),
    f_l_value_right := _, fd_l_value_right := fd18, F_l_value_right := F18, g_l_value_right := He.glo_ok X G (c.fact 18 (f := .glo "_law_value_right") rfl),
    f_law := _, fd_law := fd19, F_law := F19, g_law := He.glo_ok X G (c.fact 19 (f := .glo "law") rfl),
    n_abs := He.free_ok X G (c.fact 20 (f := .free "abs") rfl),
    n_all := He.free_ok X G (c.fact 21 (f := .free "all") rfl),
    n_bool := He.free_ok X G (c.fact 22 (f := .free "bool") rfl),
    n_int := He.free_ok X G (c.fact 23 (f := .free "int") rfl),
    n_isinstance := He.free_ok X G (c.fact 24 (f := .free "isinstance") rfl),
    n_len := He.free_ok X G (c.fact 25 (f := .free "len") rfl),
    n_list := He.free_ok X G (c.fact 26 (f := .free "list") rfl),
    n_max := He.free_ok X G (c.fact 27 (f := .free "max") rfl),
    n_min := He.free_ok X G (c.fact 28 (f := .free "min") rfl),
    n_range := He.free_ok X G (c.fact 29 (f := .free "range") rfl),
    n_str := He.free_ok X G (c.fact 30 (f := .free "str") rfl) }
  exact ⟨fd19, fun s v => b s [v] rfl, fun base _ _ => ok_law T⟩

end K01
open PySem PySem.W PySem.Calls PyProof.Rows
set_option maxRecDepth 100000 in
set_option maxHeartbeats 0 in
theorem PySem.Challenge.cw_resampler_k01_names_integers_words_holds : PySem.Challenge.rw_resampler_k01_names_integers_words.Holds := by
  w_on; o_law
  refine HandSHeadRun.head_any (r := OpenLaw.row PySem.Challenge.rw_resampler_k01_names_integers_words) (q := view (OpenLaw.row PySem.Challenge.rw_resampler_k01_names_integers_words).prog [21]) (H := K01.hk) (ob := K01.ob) (M := 6000) (loose := K01.loose) (d := HandSHeadRun.topDef (OpenLaw.row PySem.Challenge.rw_resampler_k01_names_integers_words).prog 21) (kwd := []) K01.ob_eq
    (by kernel_rfl) (fun s => by kernel_rfl) K01.run (by kernel_rfl) (by kernel_rfl) (by kernel_rfl) (by rfl) (by first | assumption | decide +kernel) (by decide +kernel) ⟨rfl, rfl, rfl, rfl, rfl, by decide +kernel⟩ ?hw ?hc
  case hw => w_witness2
  case hc =>
    refine L2.walk_ofE (l := PySem.Challenge.rw_resampler_k01_names_integers_words) (n := 63) (k := 5) (x := "_law_script") (CX := L2.CX0) rfl (by decide) (by kernel_rfl) ⟨rfl, by decide, by decide⟩ ?F (fun _ _ _ _ z => z)
    intro w mg fa h Y G hmg0
    obtain ⟨K, KX, c⟩ := Y
    have hmg : mg ("law" : PySem.Str) = some (.ref fa) := by
      have e : (HandSHeadRun.topDef (OpenLaw.row PySem.Challenge.rw_resampler_k01_names_integers_words).prog 21).name = ("law" : PySem.Str) := by kernel_rfl
      rw [← e]
      exact hmg0
    obtain ⟨fd, hb, hF⟩ := K01.facts (P := (PySem.Challenge.rw_resampler_k01_names_integers_words).prog) (w := w) KX G hmg c
    exact ⟨K, fd, K01.sp_law K, KX, hb, fun H a ns hl _ hS => ⟨a, ns, rfl, hS, hl, fun _ => rfl⟩, hF⟩

