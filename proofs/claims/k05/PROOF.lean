import PyProof.Rows.All
import Wide.All
import OpenK.AllK
import Wide.FinOn
import HandS.ForMost
import HandS.Wide
import HandS.IsInst
import HandS.Defaults
import HandS.WideBits

import HandS.ForExc
import HandS.ExcIs
import PySem.Challenge.RW_restbodies_k05_spots_and_ways

set_option Elab.async false
set_option linter.all false
set_option maxRecDepth 100000
set_option maxHeartbeats 2000000
set_option synthInstance.maxSize 100000
set_option synthInstance.maxHeartbeats 2000000
namespace R
open PySem PySem.Spec PyProof.Rows L2
/-! ### the text -/
def topS (i : Nat) : Stmt := PySem.Challenge.pw_restbodies_k05_spots_and_ways.main.body.getD i (.Pass ⟨0, 0, 0, 0⟩)
abbrev s_p_is_whole : Stmt := topS 8
theorem sc_p_is_whole : FnScope ["thing"] ["thing"] (defScope s_p_is_whole) := ⟨rfl, rfl, rfl, by decide +kernel, rfl, by decide +kernel, by decide +kernel⟩
abbrev s_p_common_divisor : Stmt := topS 11
theorem sc_p_common_divisor : FnScope ["one", "other"] ["one", "other"] (defScope s_p_common_divisor) := ⟨rfl, rfl, rfl, by decide +kernel, rfl, by decide +kernel, by decide +kernel⟩
abbrev s_p_is_share : Stmt := topS 13
theorem sc_p_is_share : FnScope ["thing", "top", "bottom"] ["thing"] (defScope s_p_is_share) := ⟨rfl, rfl, rfl, by decide +kernel, rfl, by decide +kernel, by decide +kernel⟩
abbrev s_p_plus : Stmt := topS 14
theorem sc_p_plus : FnScope ["one", "other", "top", "bottom", "more", "part", "divisor", "total", "again"] ["one", "other"] (defScope s_p_plus) := ⟨rfl, rfl, rfl, by decide +kernel, rfl, by decide +kernel, by decide +kernel⟩
abbrev s_p_minus : Stmt := topS 15
theorem sc_p_minus : FnScope ["one", "other", "top", "bottom"] ["one", "other"] (defScope s_p_minus) := ⟨rfl, rfl, rfl, by decide +kernel, rfl, by decide +kernel, by decide +kernel⟩
abbrev s_p_times : Stmt := topS 16
theorem sc_p_times : FnScope ["one", "other", "top", "bottom", "more", "part", "divisor", "again"] ["one", "other"] (defScope s_p_times) := ⟨rfl, rfl, rfl, by decide +kernel, rfl, by decide +kernel, by decide +kernel⟩
abbrev s_p_is_spot : Stmt := topS 19
theorem sc_p_is_spot : FnScope ["thing"] ["thing"] (defScope s_p_is_spot) := ⟨rfl, rfl, rfl, by decide +kernel, rfl, by decide +kernel, by decide +kernel⟩
abbrev s_p_is_way : Stmt := topS 20
theorem sc_p_is_way : FnScope ["thing", "p", "q"] ["thing"] (defScope s_p_is_way) := ⟨rfl, rfl, rfl, by decide +kernel, rfl, by decide +kernel, by decide +kernel⟩
abbrev s_p_way_of : Stmt := topS 21
theorem sc_p_way_of : FnScope ["p", "q", "divisor"] ["p", "q"] (defScope s_p_way_of) := ⟨rfl, rfl, rfl, by decide +kernel, rfl, by decide +kernel, by decide +kernel⟩
abbrev s_p_along : Stmt := topS 22
theorem sc_p_along : FnScope ["way", "spot", "p", "q", "x", "y"] ["way", "spot"] (defScope s_p_along) := ⟨rfl, rfl, rfl, by decide +kernel, rfl, by decide +kernel, by decide +kernel⟩
abbrev s_p_across : Stmt := topS 23
theorem sc_p_across : FnScope ["way", "spot", "p", "q", "x", "y"] ["way", "spot"] (defScope s_p_across) := ⟨rfl, rfl, rfl, by decide +kernel, rfl, by decide +kernel, by decide +kernel⟩
abbrev s_p_spot_plus : Stmt := topS 24
theorem sc_p_spot_plus : FnScope ["one", "other"] ["one", "other"] (defScope s_p_spot_plus) := ⟨rfl, rfl, rfl, by decide +kernel, rfl, by decide +kernel, by decide +kernel⟩
abbrev s_p_spot_minus : Stmt := topS 25
theorem sc_p_spot_minus : FnScope ["one", "other"] ["one", "other"] (defScope s_p_spot_minus) := ⟨rfl, rfl, rfl, by decide +kernel, rfl, by decide +kernel, by decide +kernel⟩
abbrev s_p_spot_times : Stmt := topS 26
theorem sc_p_spot_times : FnScope ["spot", "share"] ["spot", "share"] (defScope s_p_spot_times) := ⟨rfl, rfl, rfl, by decide +kernel, rfl, by decide +kernel, by decide +kernel⟩
abbrev s_l_cell : Stmt := topS 28
theorem sc_l_cell : FnScope ["_law_script", "_law_k"] ["_law_script", "_law_k"] (defScope s_l_cell) := ⟨rfl, rfl, rfl, by decide +kernel, rfl, by decide +kernel, by decide +kernel⟩
abbrev s_l_mixed : Stmt := topS 29
theorem sc_l_mixed : FnScope ["_law_script", "_law_k", "_law_many", "_law_number_here"] ["_law_script", "_law_k", "_law_many"] (defScope s_l_mixed) := ⟨rfl, rfl, rfl, by decide +kernel, rfl, by decide +kernel, by decide +kernel⟩
abbrev s_l_deck : Stmt := topS 30
theorem sc_l_deck : FnScope ["_law_script", "_law_cell_here"] ["_law_script"] (defScope s_l_deck) := ⟨rfl, rfl, rfl, by decide +kernel, rfl, by decide +kernel, by decide +kernel⟩
abbrev s_l_take : Stmt := topS 31
theorem sc_l_take : FnScope ["_law_deck_here", "_law_many", "_law_cell_here"] ["_law_deck_here", "_law_many"] (defScope s_l_take) := ⟨rfl, rfl, rfl, by decide +kernel, rfl, by decide +kernel, by decide +kernel⟩
abbrev s_l_gcd : Stmt := topS 32
theorem sc_l_gcd : FnScope ["_law_one", "_law_other", "_law_rest"] ["_law_one", "_law_other"] (defScope s_l_gcd) := ⟨rfl, rfl, rfl, by decide +kernel, rfl, by decide +kernel, by decide +kernel⟩
abbrev s_l_share : Stmt := topS 33
theorem sc_l_share : FnScope ["_law_top", "_law_bottom", "_law_found"] ["_law_top", "_law_bottom"] (defScope s_l_share) := ⟨rfl, rfl, rfl, by decide +kernel, rfl, by decide +kernel, by decide +kernel⟩
abbrev s_l_is_share : Stmt := topS 34
theorem sc_l_is_share : FnScope ["_law_thing", "_law_number_here"] ["_law_thing"] (defScope s_l_is_share) := ⟨rfl, rfl, rfl, by decide +kernel, rfl, by decide +kernel, by decide +kernel⟩
abbrev s_l_truth : Stmt := topS 35
theorem sc_l_truth : FnScope ["_law_found", "_law_due"] ["_law_found", "_law_due"] (defScope s_l_truth) := ⟨rfl, rfl, rfl, by decide +kernel, rfl, by decide +kernel, by decide +kernel⟩
abbrev s_l_number : Stmt := topS 36
theorem sc_l_number : FnScope ["_law_deck_here", "_law_number_here", "_law_turn"] ["_law_deck_here"] (defScope s_l_number) := ⟨rfl, rfl, rfl, by decide +kernel, rfl, by decide +kernel, by decide +kernel⟩
abbrev s_l_part : Stmt := topS 37
theorem sc_l_part : FnScope ["_law_deck_here"] ["_law_deck_here"] (defScope s_l_part) := ⟨rfl, rfl, rfl, by decide +kernel, rfl, by decide +kernel, by decide +kernel⟩
abbrev s_l_drawn_spot : Stmt := topS 38
theorem sc_l_drawn_spot : FnScope ["_law_deck_here"] ["_law_deck_here"] (defScope s_l_drawn_spot) := ⟨rfl, rfl, rfl, by decide +kernel, rfl, by decide +kernel, by decide +kernel⟩
abbrev s_l_sum : Stmt := topS 39
theorem sc_l_sum : FnScope ["_law_one", "_law_other", "_law_sign"] ["_law_one", "_law_other", "_law_sign"] (defScope s_l_sum) := ⟨rfl, rfl, rfl, by decide +kernel, rfl, by decide +kernel, by decide +kernel⟩
abbrev s_l_is_spot : Stmt := topS 40
theorem sc_l_is_spot : FnScope ["_law_thing", "_law_part_here"] ["_law_thing"] (defScope s_l_is_spot) := ⟨rfl, rfl, rfl, by decide +kernel, rfl, by decide +kernel, by decide +kernel⟩
abbrev s_l_is_way : Stmt := topS 41
theorem sc_l_is_way : FnScope ["_law_thing", "_law_number_here"] ["_law_thing"] (defScope s_l_is_way) := ⟨rfl, rfl, rfl, by decide +kernel, rfl, by decide +kernel, by decide +kernel⟩
abbrev s_l_refused : Stmt := topS 42
theorem sc_l_refused : FnScope ["_law_found", "e"] [] (defScope s_l_refused) := ⟨rfl, rfl, rfl, by decide +kernel, rfl, by decide +kernel, by decide +kernel⟩
abbrev s_l_way : Stmt := topS 43
theorem sc_l_way : FnScope ["_law_p", "_law_q", "_law_part_here"] ["_law_p", "_law_q"] (defScope s_l_way) := ⟨rfl, rfl, rfl, by decide +kernel, rfl, by decide +kernel, by decide +kernel⟩
abbrev s_l_ways : Stmt := topS 44
theorem sc_l_ways : FnScope ["_law_deck_here", "_law_part_here", "_law_p", "_law_q", "_law_found"] ["_law_deck_here"] (defScope s_l_ways) := ⟨rfl, rfl, rfl, by decide +kernel, rfl, by decide +kernel, by decide +kernel⟩
abbrev s_l_things : Stmt := topS 45
theorem sc_l_things : FnScope ["_law_one", "_law_way_here", "_law_part_here", "_law_x", "_law_y", "_law_more", "_law_some"] ["_law_one", "_law_way_here", "_law_part_here"] (defScope s_l_things) := ⟨rfl, rfl, rfl, by decide +kernel, rfl, by decide +kernel, by decide +kernel⟩
abbrev s_l_sums : Stmt := topS 46
theorem sc_l_sums : FnScope ["_law_one", "_law_other", "_law_way_here", "_law_part_here", "_law_a", "_law_b", "_law_c", "_law_d", "_law_due", "_law_found", "_law_sign"] ["_law_one", "_law_other", "_law_way_here", "_law_part_here"] (defScope s_l_sums) := ⟨rfl, rfl, rfl, by decide +kernel, rfl, by decide +kernel, by decide +kernel⟩
abbrev s_law : Stmt := topS 47
theorem sc_law : FnScope ["_law_script", "_law_deck_here", "_law_turn", "_law_at", "_law_way_here", "_law_one", "_law_other", "_law_things_here", "_law_thing"] ["_law_script"] (defScope s_law) := ⟨rfl, rfl, rfl, by decide +kernel, rfl, by decide +kernel, by decide +kernel⟩
/-! ### heaps -/
theorem upd_some {H : Hp} {p x : Addr} {o u : HO} (hp : H p = none) (h : H x = some u) : (upd H p o) x = some u := by
  rw [upd_ne (ne_of_none h hp)]
  exact h
theorem same_upd {H : Hp} {p : Addr} {o : HO} (h : H p = none) : Same H (upd H p o) := fun b x e => upd_some h e
theorem alloc {H G : Hp} {p : Addr} {o : HO} (e : upd H p o = G) (hp : H p = none) : Same H G ∧ G p = some o := by
  subst e
  exact ⟨same_upd hp, upd_same⟩
theorem Same.seqT {K : PySem.W.Frag} {H H' : Hp} {a : Addr} {xs : List V} (e : Same H H') (h : SqT K H a xs) : SqT K H' a xs := by
  rcases h with (h | ⟨o, h⟩) | h
  · exact .inl (.inl (e _ _ h))
  · exact .inl (.inr ⟨o, e _ _ h⟩)
  · exact .inr h
/-- all but what stands at d and b is as it was -/
def Kp (d b : Addr) (H H' : Hp) : Prop := ∀ x o, x ≠ d → x ≠ b → H x = some o → H' x = some o
theorem Kp.refl {d b : Addr} {H : Hp} : Kp d b H H := fun _ _ _ _ h => h
theorem Kp.trans {d b : Addr} {H H1 H2 : Hp} (u : Kp d b H H1) (v : Kp d b H1 H2) : Kp d b H H2 := fun x o h1 h2 h => v x o h1 h2 (u x o h1 h2 h)
theorem Kp.same {d b : Addr} {H H' : Hp} (s : Same H H') : Kp d b H H' := fun x o _ _ h => s x o h
theorem Kp.free {d b : Addr} {H H' : Hp} (u : Kp d b H H') {x : Addr} (hd : H d ≠ none) (hb : H b ≠ none) (h : H' x = none) (h1 : H' d ≠ none) (h2 : H' b ≠ none) : H x = none := by
  cases e : H x with
  | none => rfl
  | some o =>
    by_cases e1 : x = d
    · subst e1; exact absurd h h1
    by_cases e2 : x = b
    · subst e2; exact absurd h h2
    rw [u x o e1 e2 e] at h
    cases h
/-- the law's script -/
def Sc (K : PySem.W.Frag) (H : Hp) (s : Addr) (ns : List Int) : Prop := (∃ o, H s = some (.frz o (.lst (ns.map V.int)))) ∨ ∀ H', SqL K H' s (ns.map V.int)
theorem Sc.seq {K : PySem.W.Frag} {H : Hp} {s : Addr} {ns : List Int} (h : Sc K H s ns) : SqL K H s (ns.map V.int) := by
  rcases h with ⟨o, h⟩ | h
  · exact .inl (.inr ⟨o, h⟩)
  · exact h H
theorem Sc.mk {K : PySem.W.Frag} {H : Hp} {s : Addr} {ns : List Int} (hO : Only H) (h : SqL K H s (ns.map V.int)) : Sc K H s ns := by
  rcases h with (h | ⟨o, h⟩) | h
  · rcases hO s with e | ⟨o, xs, e⟩
    · rw [e] at h; cases h
    · rw [e] at h; cases h
  · exact .inl ⟨o, h⟩
  · exact .inr fun H' => .inr h
theorem Sc.upd {K : PySem.W.Frag} {H : Hp} {s b : Addr} {ns : List Int} {u : HO} (h : Sc K H s ns) (hb : H b = none ∨ ∃ xs, H b = some (.lst xs)) : Sc K (upd H b u) s ns := by
  rcases h with ⟨o, h⟩ | h
  · refine .inl ⟨o, ?_⟩
    have n : s ≠ b := fun e => by
      subst e
      rcases hb with e | ⟨xs, e⟩ <;> rw [e] at h <;> cases h
    rw [upd_ne n]
    exact h
  · exact .inr h
theorem Sc.keep {K : PySem.W.Frag} {H H' : Hp} {s : Addr} {ns : List Int} (h : Sc K H s ns) (k : Same H H') : Sc K H' s ns := by
  rcases h with ⟨o, h⟩ | h
  · exact .inl ⟨o, k _ _ h⟩
  · exact .inr h
/-- the deck at d, its cells at b, drawn at most c times -/
structure Deck (K : PySem.W.Frag) (H : Hp) (d b : Addr) (c : Int) : Prop where
  ex : ∃ (s : Addr) (ns cs : List Int) (i k : Int), H d = some (.lst [.ref s, .ref b, .int i, .int k]) ∧ H b = some (.lst (cs.map V.int)) ∧ Sc K H s ns ∧ 0 ≤ i ∧ 0 ≤ k ∧ k ≤ c
  ne : b ≠ d
theorem Deck.keep {K : PySem.W.Frag} {H H' : Hp} {d b : Addr} {c : Int} (D : Deck K H d b c) (k : Same H H') : Deck K H' d b c := by
  obtain ⟨⟨s, ns, cs, i, j, h1, h2, h3, h4⟩, n⟩ := D
  exact ⟨⟨s, ns, cs, i, j, k _ _ h1, k _ _ h2, h3.keep k, h4⟩, n⟩
theorem Deck.le {K : PySem.W.Frag} {H : Hp} {d b : Addr} {c c' : Int} (D : Deck K H d b c) (h : c ≤ c') : Deck K H d b c' := by
  obtain ⟨⟨s, ns, cs, i, j, h1, h2, h3, h4, h5, h6⟩, n⟩ := D
  exact ⟨⟨s, ns, cs, i, j, h1, h2, h3, h4, h5, by omega⟩, n⟩
/-- an object beside the deck stands -/
theorem Deck.tup {K : PySem.W.Frag} {H H' : Hp} {d b x : Addr} {c : Int} {xs : List V} (D : Deck K H d b c) (k : Kp d b H H') (h : H x = some (.tup xs)) : H' x = some (.tup xs) := by
  obtain ⟨⟨s, ns, cs, i, j, h1, h2, _⟩, n⟩ := D
  exact k x _ (fun e => by rw [e, h1] at h; cases h) (fun e => by rw [e, h2] at h; cases h) h
theorem Deck.seqT {K : PySem.W.Frag} {H H' : Hp} {d b x : Addr} {c : Int} {xs : List V} (D : Deck K H d b c) (k : Kp d b H H') (h : SqT K H x xs) : SqT K H' x xs := by
  obtain ⟨⟨s, ns, cs, i, j, h1, h2, _⟩, n⟩ := D
  rcases h with (h | ⟨o, h⟩) | h
  · exact .inl (.inl (k x _ (fun e => by rw [e, h1] at h; cases h) (fun e => by rw [e, h2] at h; cases h) h))
  · exact .inl (.inr ⟨o, k x _ (fun e => by rw [e, h1] at h; cases h) (fun e => by rw [e, h2] at h; cases h) h⟩)
  · exact .inr h
theorem Deck.hd {K : PySem.W.Frag} {H : Hp} {d b : Addr} {c : Int} (D : Deck K H d b c) : H d ≠ none := by
  obtain ⟨⟨s, ns, cs, i, j, h1, _⟩, n⟩ := D
  rw [h1]; exact fun e => nomatch e
theorem Deck.hb {K : PySem.W.Frag} {H : Hp} {d b : Addr} {c : Int} (D : Deck K H d b c) : H b ≠ none := by
  obtain ⟨⟨s, ns, cs, i, j, _, h1, _⟩, n⟩ := D
  rw [h1]; exact fun e => nomatch e
theorem Deck.free {K : PySem.W.Frag} {H H' : Hp} {d b x : Addr} {c c' : Int} (D : Deck K H d b c) (D' : Deck K H' d b c') (k : Kp d b H H') (h : H' x = none) : H x = none := k.free D.hd D.hb h D'.hd D'.hb
theorem Deck.ne_d {K : PySem.W.Frag} {H : Hp} {d b x : Addr} {c : Int} (D : Deck K H d b c) (h : H x = none) : x ≠ d := fun e => D.hd (e ▸ h)
theorem Deck.ne_b {K : PySem.W.Frag} {H : Hp} {d b x : Addr} {c : Int} (D : Deck K H d b c) (h : H x = none) : x ≠ b := fun e => D.hb (e ▸ h)
/-! ### numbers -/
theorem log2_lt {n k : Nat} (h : n < 2 ^ k) (h0 : 0 < k) : n.log2 < k := PySem.Flt.log2_lt_of h0 h
theorem size63 {n : Nat} (h : n ≤ 1000) : n ≤ sizeLine := Nat.le_of_lt (small1000 h)
theorem abs_nn (i : Int) : 0 ≤ (if i < 0 then -i else i) := by
  split <;> omega
theorem abs_nat (i : Int) : (if i < 0 then -i else i) = (i.natAbs : Int) := by
  split <;> omega
/-! ### the facts of the text -/
structure Ad where
  f_p_is_whole : Addr
  fd_p_is_whole : FuncData
  f_p_common_divisor : Addr
  fd_p_common_divisor : FuncData
  f_p_is_share : Addr
  fd_p_is_share : FuncData
  f_p_plus : Addr
  fd_p_plus : FuncData
  f_p_minus : Addr
  fd_p_minus : FuncData
  f_p_times : Addr
  fd_p_times : FuncData
  f_p_is_spot : Addr
  fd_p_is_spot : FuncData
  f_p_is_way : Addr
  fd_p_is_way : FuncData
  f_p_way_of : Addr
  fd_p_way_of : FuncData
  f_p_along : Addr
  fd_p_along : FuncData
  f_p_across : Addr
  fd_p_across : FuncData
  f_p_spot_plus : Addr
  fd_p_spot_plus : FuncData
  f_p_spot_minus : Addr
  fd_p_spot_minus : FuncData
  f_p_spot_times : Addr
  fd_p_spot_times : FuncData
  f_l_cell : Addr
  fd_l_cell : FuncData
  f_l_mixed : Addr
  fd_l_mixed : FuncData
  f_l_deck : Addr
  fd_l_deck : FuncData
  f_l_take : Addr
  fd_l_take : FuncData
  f_l_gcd : Addr
  fd_l_gcd : FuncData
  f_l_share : Addr
  fd_l_share : FuncData
  f_l_is_share : Addr
  fd_l_is_share : FuncData
  f_l_truth : Addr
  fd_l_truth : FuncData
  f_l_number : Addr
  fd_l_number : FuncData
  f_l_part : Addr
  fd_l_part : FuncData
  f_l_drawn_spot : Addr
  fd_l_drawn_spot : FuncData
  f_l_sum : Addr
  fd_l_sum : FuncData
  f_l_is_spot : Addr
  fd_l_is_spot : FuncData
  f_l_is_way : Addr
  fd_l_is_way : FuncData
  f_l_refused : Addr
  fd_l_refused : FuncData
  f_l_way : Addr
  fd_l_way : FuncData
  f_l_ways : Addr
  fd_l_ways : FuncData
  f_l_things : Addr
  fd_l_things : FuncData
  f_l_sums : Addr
  fd_l_sums : FuncData
  f_law : Addr
  fd_law : FuncData
  c_BodyError : Addr
  c_NoShare : Addr
  c_NoWay : Addr
  c_BadShape : Addr
  k_LENGTHY : Tok
  n_STILL : Addr
structure Tx (K : PySem.W.Frag) (mg : Str → Option Value) (A : Ad) : Prop where
  F_p_is_whole : Fun K "is_whole" "is_whole" s_p_is_whole A.f_p_is_whole A.fd_p_is_whole
  b_p_is_whole : Binds K A.fd_p_is_whole ["thing"] []
  g_p_is_whole : mg "is_whole" = some (.ref A.f_p_is_whole)
  F_p_common_divisor : Fun K "common_divisor" "common_divisor" s_p_common_divisor A.f_p_common_divisor A.fd_p_common_divisor
  b_p_common_divisor : Binds K A.fd_p_common_divisor ["one", "other"] []
  g_p_common_divisor : mg "common_divisor" = some (.ref A.f_p_common_divisor)
  F_p_is_share : Fun K "is_share" "is_share" s_p_is_share A.f_p_is_share A.fd_p_is_share
  b_p_is_share : Binds K A.fd_p_is_share ["thing"] []
  g_p_is_share : mg "is_share" = some (.ref A.f_p_is_share)
  F_p_plus : Fun K "plus" "plus" s_p_plus A.f_p_plus A.fd_p_plus
  b_p_plus : Binds K A.fd_p_plus ["one", "other"] []
  g_p_plus : mg "plus" = some (.ref A.f_p_plus)
  F_p_minus : Fun K "minus" "minus" s_p_minus A.f_p_minus A.fd_p_minus
  b_p_minus : Binds K A.fd_p_minus ["one", "other"] []
  g_p_minus : mg "minus" = some (.ref A.f_p_minus)
  F_p_times : Fun K "times" "times" s_p_times A.f_p_times A.fd_p_times
  b_p_times : Binds K A.fd_p_times ["one", "other"] []
  g_p_times : mg "times" = some (.ref A.f_p_times)
  F_p_is_spot : Fun K "is_spot" "is_spot" s_p_is_spot A.f_p_is_spot A.fd_p_is_spot
  b_p_is_spot : Binds K A.fd_p_is_spot ["thing"] []
  g_p_is_spot : mg "is_spot" = some (.ref A.f_p_is_spot)
  F_p_is_way : Fun K "is_way" "is_way" s_p_is_way A.f_p_is_way A.fd_p_is_way
  b_p_is_way : Binds K A.fd_p_is_way ["thing"] []
  g_p_is_way : mg "is_way" = some (.ref A.f_p_is_way)
  F_p_way_of : Fun K "way_of" "way_of" s_p_way_of A.f_p_way_of A.fd_p_way_of
  b_p_way_of : Binds K A.fd_p_way_of ["p", "q"] []
  g_p_way_of : mg "way_of" = some (.ref A.f_p_way_of)
  F_p_along : Fun K "along" "along" s_p_along A.f_p_along A.fd_p_along
  b_p_along : Binds K A.fd_p_along ["way", "spot"] []
  g_p_along : mg "along" = some (.ref A.f_p_along)
  F_p_across : Fun K "across" "across" s_p_across A.f_p_across A.fd_p_across
  b_p_across : Binds K A.fd_p_across ["way", "spot"] []
  g_p_across : mg "across" = some (.ref A.f_p_across)
  F_p_spot_plus : Fun K "spot_plus" "spot_plus" s_p_spot_plus A.f_p_spot_plus A.fd_p_spot_plus
  b_p_spot_plus : Binds K A.fd_p_spot_plus ["one", "other"] []
  g_p_spot_plus : mg "spot_plus" = some (.ref A.f_p_spot_plus)
  F_p_spot_minus : Fun K "spot_minus" "spot_minus" s_p_spot_minus A.f_p_spot_minus A.fd_p_spot_minus
  b_p_spot_minus : Binds K A.fd_p_spot_minus ["one", "other"] []
  g_p_spot_minus : mg "spot_minus" = some (.ref A.f_p_spot_minus)
  F_p_spot_times : Fun K "spot_times" "spot_times" s_p_spot_times A.f_p_spot_times A.fd_p_spot_times
  b_p_spot_times : Binds K A.fd_p_spot_times ["spot", "share"] []
  g_p_spot_times : mg "spot_times" = some (.ref A.f_p_spot_times)
  F_l_cell : Fun K "_law_cell" "_law_cell" s_l_cell A.f_l_cell A.fd_l_cell
  b_l_cell : Binds K A.fd_l_cell ["_law_script", "_law_k"] []
  g_l_cell : mg "_law_cell" = some (.ref A.f_l_cell)
  F_l_mixed : Fun K "_law_mixed" "_law_mixed" s_l_mixed A.f_l_mixed A.fd_l_mixed
  b_l_mixed : Binds K A.fd_l_mixed ["_law_script", "_law_k", "_law_many"] []
  g_l_mixed : mg "_law_mixed" = some (.ref A.f_l_mixed)
  F_l_deck : Fun K "_law_deck" "_law_deck" s_l_deck A.f_l_deck A.fd_l_deck
  b_l_deck : Binds K A.fd_l_deck ["_law_script"] []
  g_l_deck : mg "_law_deck" = some (.ref A.f_l_deck)
  F_l_take : Fun K "_law_take" "_law_take" s_l_take A.f_l_take A.fd_l_take
  b_l_take : Binds K A.fd_l_take ["_law_deck_here", "_law_many"] []
  g_l_take : mg "_law_take" = some (.ref A.f_l_take)
  F_l_gcd : Fun K "_law_gcd" "_law_gcd" s_l_gcd A.f_l_gcd A.fd_l_gcd
  b_l_gcd : Binds K A.fd_l_gcd ["_law_one", "_law_other"] []
  g_l_gcd : mg "_law_gcd" = some (.ref A.f_l_gcd)
  F_l_share : Fun K "_law_share" "_law_share" s_l_share A.f_l_share A.fd_l_share
  b_l_share : Binds K A.fd_l_share ["_law_top", "_law_bottom"] []
  g_l_share : mg "_law_share" = some (.ref A.f_l_share)
  F_l_is_share : Fun K "_law_is_share" "_law_is_share" s_l_is_share A.f_l_is_share A.fd_l_is_share
  b_l_is_share : Binds K A.fd_l_is_share ["_law_thing"] []
  g_l_is_share : mg "_law_is_share" = some (.ref A.f_l_is_share)
  F_l_truth : Fun K "_law_truth" "_law_truth" s_l_truth A.f_l_truth A.fd_l_truth
  b_l_truth : Binds K A.fd_l_truth ["_law_found", "_law_due"] []
  g_l_truth : mg "_law_truth" = some (.ref A.f_l_truth)
  F_l_number : Fun K "_law_number" "_law_number" s_l_number A.f_l_number A.fd_l_number
  b_l_number : Binds K A.fd_l_number ["_law_deck_here"] []
  g_l_number : mg "_law_number" = some (.ref A.f_l_number)
  F_l_part : Fun K "_law_part" "_law_part" s_l_part A.f_l_part A.fd_l_part
  b_l_part : Binds K A.fd_l_part ["_law_deck_here"] []
  g_l_part : mg "_law_part" = some (.ref A.f_l_part)
  F_l_drawn_spot : Fun K "_law_drawn_spot" "_law_drawn_spot" s_l_drawn_spot A.f_l_drawn_spot A.fd_l_drawn_spot
  b_l_drawn_spot : Binds K A.fd_l_drawn_spot ["_law_deck_here"] []
  g_l_drawn_spot : mg "_law_drawn_spot" = some (.ref A.f_l_drawn_spot)
  F_l_sum : Fun K "_law_sum" "_law_sum" s_l_sum A.f_l_sum A.fd_l_sum
  b_l_sum : Binds K A.fd_l_sum ["_law_one", "_law_other", "_law_sign"] []
  g_l_sum : mg "_law_sum" = some (.ref A.f_l_sum)
  F_l_is_spot : Fun K "_law_is_spot" "_law_is_spot" s_l_is_spot A.f_l_is_spot A.fd_l_is_spot
  b_l_is_spot : Binds K A.fd_l_is_spot ["_law_thing"] []
  g_l_is_spot : mg "_law_is_spot" = some (.ref A.f_l_is_spot)
  F_l_is_way : Fun K "_law_is_way" "_law_is_way" s_l_is_way A.f_l_is_way A.fd_l_is_way
  b_l_is_way : Binds K A.fd_l_is_way ["_law_thing"] []
  g_l_is_way : mg "_law_is_way" = some (.ref A.f_l_is_way)
  F_l_refused : Fun K "_law_refused" "_law_refused" s_l_refused A.f_l_refused A.fd_l_refused
  b_l_refused : Binds K A.fd_l_refused [] []
  g_l_refused : mg "_law_refused" = some (.ref A.f_l_refused)
  F_l_way : Fun K "_law_way" "_law_way" s_l_way A.f_l_way A.fd_l_way
  b_l_way : Binds K A.fd_l_way ["_law_p", "_law_q"] []
  g_l_way : mg "_law_way" = some (.ref A.f_l_way)
  F_l_ways : Fun K "_law_ways" "_law_ways" s_l_ways A.f_l_ways A.fd_l_ways
  b_l_ways : Binds K A.fd_l_ways ["_law_deck_here"] []
  g_l_ways : mg "_law_ways" = some (.ref A.f_l_ways)
  F_l_things : Fun K "_law_things" "_law_things" s_l_things A.f_l_things A.fd_l_things
  b_l_things : Binds K A.fd_l_things ["_law_one", "_law_way_here", "_law_part_here"] []
  g_l_things : mg "_law_things" = some (.ref A.f_l_things)
  F_l_sums : Fun K "_law_sums" "_law_sums" s_l_sums A.f_l_sums A.fd_l_sums
  b_l_sums : Binds K A.fd_l_sums ["_law_one", "_law_other", "_law_way_here", "_law_part_here"] []
  g_l_sums : mg "_law_sums" = some (.ref A.f_l_sums)
  F_law : Fun K "law" "law" s_law A.f_law A.fd_law
  b_law : Binds K A.fd_law ["_law_script"] []
  g_law : mg "law" = some (.ref A.f_law)
  m_ValueError : mg "ValueError" = none
  m_abs : mg "abs" = none
  m_all : mg "all" = none
  m_bool : mg "bool" = none
  m_int : mg "int" = none
  m_isinstance : mg "isinstance" = none
  m_len : mg "len" = none
  m_list : mg "list" = none
  m_max : mg "max" = none
  m_min : mg "min" = none
  m_range : mg "range" = none
  m_str : mg "str" = none
  m_tuple : mg "tuple" = none
  g_LENGTHY : mg "LENGTHY" = some (.int 4000 A.k_LENGTHY)
  g_STILL : mg "STILL" = some (.ref A.n_STILL)
  g_BodyError : mg "BodyError" = some (.ref A.c_BodyError)
  g_NoShare : mg "NoShare" = some (.ref A.c_NoShare)
  g_NoWay : mg "NoWay" = some (.ref A.c_NoWay)
  g_BadShape : mg "BadShape" = some (.ref A.c_BadShape)
  x_NoWay : PySem.W.excIn K A.c_NoWay [.type "ValueError", .type "Exception", .type "BaseException", .type "object"] "ValueError.__new__" = true
  k_NoWay : PySem.W.keepIn K (.ref A.c_NoWay) = true
  b_NoWay : PySem.W.subIn K (.ref A.c_NoWay) (.type "BaseException") = some true
  t_NoWay : PySem.W.typeIn K (.ref A.c_NoWay) = some (.type "type")
  e_NoWay : PySem.W.exmOne K (.ref A.c_NoWay) (.ref A.c_NoWay) = some true
  E_NoWay : ExcC K A.c_NoWay
  i_NoWay_BodyError : PySem.W.kitOne K (.ref A.c_NoWay) (.ref A.c_BodyError) = some true
  i_NoWay_ValueError : PySem.W.kitOne K (.ref A.c_NoWay) (.type "ValueError") = some true
  i_NoWay_NoShare : PySem.W.kitOne K (.ref A.c_NoWay) (.ref A.c_NoShare) = some false
  i_NoWay_BadShape : PySem.W.kitOne K (.ref A.c_NoWay) (.ref A.c_BadShape) = some false
  t_STILL : ∃ a1 a2, (∀ H, SqT K H A.n_STILL [.ref a1, .ref a2]) ∧ (∀ H, SqT K H a1 [.int 0, .int 1]) ∧ (∀ H, SqT K H a2 [.int 0, .int 1])
section
variable {P : Program} {w : World} {K : PySem.W.Frag} {mg : Str → Option Value} {base : Heap} {A : Ad}
theorem ixN_nat {n j : Nat} (h : j < n) : ixN n (j : Int) = some j := by
  unfold ixN
  rw [if_pos (by omega), if_pos (by omega)]
  rfl
theorem ty_tup {H : Hp} {a : Addr} {xs : List V} (h : SqT K H a xs) : TyX K H (.ref a) (.type "tuple") := by
  rcases h with (h | ⟨o, h⟩) | ⟨o, its, n, h, hc, _⟩
  · exact .base (.tup h)
  · exact .fTuple h
  · exact .kTuple h hc

/-! ### an except suite whose error is of a known class -/
def tOwn (D : Addr) (cls : Value) (d : Option Addr) (t : TS) : TS := fun e σ H => cls = .ref D ∧ d = none ∧ t e σ H
theorem suite_own {X : Cx} {ss : List Stmt} {t : TS} {D : Addr} {oe : Obj} {cls : Value} {d : Option Addr} (hz : Zc cls d oe) (h : Zc (.ref D) none oe → PSs X ss t) : PSs X ss (tOwn D cls d t) := ⟨fun pins s σ H E I q => by
  obtain ⟨rfl, rfl, q⟩ := q
  exact (h hz).run pins s σ H E I q⟩
theorem kit_ref {K : PySem.W.Frag} {D C : Addr} {b : Bool} (hc : PySem.W.isClsIn K C = true) (ht : PySem.W.typeIn K (.ref C) = some (.type "type")) (hs : PySem.W.subIn K (.ref D) (.ref C) = some b) (hd : PySem.W.subIn K (.ref D) (.ref D) = some true) : PySem.W.kitOne K (.ref D) (.ref C) = some b := by
  unfold PySem.W.kitOne
  by_cases e : D = C
  · subst e
    rw [hd] at hs
    cases hs
    rw [if_pos (beq_self_eq_true _)]
  · have hne : ¬ ((Value.ref D == Value.ref C) = true) := fun z => e (Value.ref.inj (beq_iff_eq.mp z))
    rw [if_neg hne]
    have h2 : ((PySem.W.clsIn K C).isSome && PySem.W.typeIn K (.ref C) == some (.type "type")) = true := by
      have h2' : (PySem.W.clsIn K C).isSome = true := hc
      rw [h2', ht] <;> rfl
    show (if ((PySem.W.clsIn K C).isSome && PySem.W.typeIn K (.ref C) == some (.type "type")) = true then PySem.W.subIn K (.ref D) (.ref C) else none) = some b
    rw [if_pos h2]
    exact hs
theorem kit_type {K : PySem.W.Frag} {D : Addr} {n : String} {b : Bool} (hm : PySem.W.kitMeta n = true) (hs : PySem.W.subIn K (.ref D) (.type n) = some b) : PySem.W.kitOne K (.ref D) (.type n) = some b := by
  unfold PySem.W.kitOne
  have hne : ¬ ((Value.ref D == Value.type n) = true) := fun z => nomatch (beq_iff_eq.mp z)
  rw [if_neg hne]
  show (if PySem.W.kitMeta n = true then PySem.W.subIn K (.ref D) (.type n) else none) = some b
  rw [if_pos hm]
  exact hs

/-! ### a cell of the script -/
def sp_l_cell (K : PySem.W.Frag) : Sp := fun vs H Q _ => ∃ (s : Addr) (ns : List Int) (k : Int), vs = [.ref s, .int k] ∧ SqL K H s (ns.map V.int) ∧ 0 ≤ k ∧ k ≤ 1000000 ∧ ∀ r, 0 ≤ r → Q (.int r) H
theorem ok_l_cell (T : Tx K mg A) : FnOk P w K mg base CX0 1 A.f_l_cell A.fd_l_cell ["_law_script", "_law_k"] (sp_l_cell K) := by
  refine T.F_l_cell.ok sc_l_cell (fun vs H Q E h => ?_) (fun cdv Ar outer s H vs Q E hr h => ?_)
  · obtain ⟨s, ns, k, rfl, _⟩ := h
    rfl
  · obtain ⟨s, ns, k, rfl, hS, h0, h1, q⟩ := h
    refine ⟨_, (pss_cons (ps_if (pt_cmpR op_eq (pe_callB call_len_seq (by rfl) T.m_len (by decide +kernel) (pa_cons (pv 0) pa_nil)) pe_int (nomark _))
      (pss_one (ps_ret (pe_op op_add (pe_op op_mul pe_int (pv 1)) pe_int)))
      pss_nil)
    (pss_one (ps_ret (pe_callB call_abs (by rfl) T.m_abs (by decide +kernel) (pa_cons (pe_ix ix_list (pv 0) (pe_op op_mod (pv 1) (pe_callB call_len_seq (by rfl) T.m_len (by decide +kernel) (pa_cons (pv 0) pa_nil))) (fun _ _ => rfl)) pa_nil))))), ?_⟩
    refine ⟨.ref s, rfl, s, ns.map V.int, rfl, .inl hS, rfl, _, rfl, ite2 (fun e => ?_) (fun e => ?_)⟩
    · exact ⟨_, rfl, 7, k, rfl, rfl, .inl (by decide), _, _, rfl, rfl, q _ (by omega)⟩
    · have hl : ns.length ≠ 0 := fun z => e (decide_eq_true (by rw [List.length_map, z]; rfl))
      have hp : (0 : Int) < ((ns.map V.int).length : Int) := by
        rw [List.length_map]
        omega
      have hm0 : 0 ≤ k % ((ns.map V.int).length : Int) := Int.emod_nonneg _ (by omega)
      have hm1 : k % ((ns.map V.int).length : Int) < ((ns.map V.int).length : Int) := Int.emod_lt_of_pos _ hp
      obtain ⟨j, hj⟩ : ∃ j : Nat, (j : Int) = k % ((ns.map V.int).length : Int) := ⟨_, Int.toNat_of_nonneg hm0⟩
      have hj2 : j < ns.length := by
        rw [List.length_map] at hj hm1
        omega
      have ha : atI (ns.map V.int) (k % ((ns.map V.int).length : Int)) = some (.int ns[j]) := by
        rw [← hj]
        exact atI_nat (by rw [List.getElem?_map, List.getElem?_eq_getElem hj2]; rfl)
      exact ⟨_, rfl, _, rfl, _, rfl, s, _, rfl, .inl hS, k, _, rfl, rfl, hp, s, _, _, _, rfl, rfl, hS, ha, _, rfl, q _ (abs_nn _)⟩
/-! ### a mixed number -/
def sp_l_mixed (K : PySem.W.Frag) : Sp := fun vs H Q _ => ∃ (s : Addr) (ns : List Int) (k m : Int), vs = [.ref s, .int k, .int m] ∧ SqL K H s (ns.map V.int) ∧ 0 ≤ k ∧ k ≤ 1000000 ∧ 0 < m ∧ ∀ r, 0 ≤ r → r < m → Q (.int r) H
theorem mixed_bound {r k : Int} (h0 : 0 ≤ r) (h1 : r < 1000003) (k0 : 0 ≤ k) (k1 : k ≤ 1000000) : ((r + 5) * (k + 2) + 7919 * k).natAbs < 2 ^ 64 := by
  have e1 : (r + 5) * (k + 2) ≤ 1000008 * 1000002 := Int.mul_le_mul (by omega) (by omega) (by omega) (by omega)
  have e0 : 0 ≤ (r + 5) * (k + 2) := Int.mul_nonneg (by omega) (by omega)
  omega
theorem ok_l_mixed (T : Tx K mg A) : FnOk P w K mg base CX0 2 A.f_l_mixed A.fd_l_mixed ["_law_script", "_law_k", "_law_many"] (sp_l_mixed K) := by
  refine T.F_l_mixed.ok sc_l_mixed (fun vs H Q E h => ?_) (fun cdv Ar outer s H vs Q E hr h => ?_)
  · obtain ⟨s, ns, k, m, rfl, _⟩ := h
    rfl
  · obtain ⟨s, ns, k, m, rfl, hS, h0, h1, hm, q⟩ := h
    refine ⟨_, (pss_cons (ps_set (i := 3) sc_l_mixed.nd rfl (.inl rfl) (pe_op op_mod (pe_op op_pow (pe_op op_add (pe_op op_mul (pe_op op_add (pe_op op_mod (pe_call (ok_l_cell T) (hr.mono (by decide)) (by rfl) T.g_l_cell T.F_l_cell.kp T.b_l_cell .nil pass0 (pa_cons (pv 0) (pa_cons (pv 1) pa_nil))) pe_int) pe_int) (pe_op op_add (pv 1) pe_int)) (pe_op op_mul pe_int (pv 1))) pe_int) pe_int))
    (pss_one (ps_ret (pe_op op_mod (pe_op op_fdivW (pv 3) pe_int) (pv 2))))), ?_⟩
    refine ⟨_, rfl, _, rfl, s, ns, k, rfl, hS, h0, h1, fun r hr0 => ?_⟩
    have c0 : 0 ≤ r % 1000003 := Int.emod_nonneg _ (by decide)
    have c1 : r % 1000003 < 1000003 := Int.emod_lt_of_pos _ (by decide)
    refine ⟨r, 1000003, rfl, rfl, (show (0 : Int) < 1000003 by decide), _, _, rfl, rfl, _, rfl, _, _, rfl, rfl, _, _, rfl, rfl, ?_, _, rfl, _, _, rfl, rfl, .inl (by decide), _, _, rfl, rfl, _, _, rfl, rfl, ⟨by decide, by decide, ?_⟩, _, _, rfl, rfl, (show (0 : Int) < 2147483647 by decide), ?_⟩
    · exact .inl ⟨by omega, by omega⟩
    · exact mixed_bound c0 c1 h0 h1
    · refine ⟨_, rfl, _, _, rfl, rfl, ⟨by decide, by decide⟩, _, rfl, _, _, rfl, rfl, hm, ?_⟩
      exact q _ (Int.emod_nonneg _ (by omega)) (Int.emod_lt_of_pos _ hm)
/-! ### the deck is made -/
def sp_l_deck (K : PySem.W.Frag) : Sp := fun vs H Q _ => ∃ (s : Addr) (ns : List Int), vs = [.ref s] ∧ Sc K H s ns ∧ ns.length ≤ 63 ∧ ∀ H' d b, H d = none → H b = none → Deck K H' d b 0 → Same H H' → Q (.ref d) H'
theorem ok_l_deck (T : Tx K mg A) : FnOk P w K mg base CX0 1 A.f_l_deck A.fd_l_deck ["_law_script"] (sp_l_deck K) := by
  refine T.F_l_deck.ok sc_l_deck (fun vs H Q E h => ?_) (fun cdv Ar outer s H vs Q E hr h => ?_)
  · obtain ⟨s, ns, rfl, _⟩ := h
    rfl
  · obtain ⟨s, ns, rfl, hS, hlen, q⟩ := h
    refine ⟨_, (pss_one (ps_ret (pe_lst (pa_cons (pv 0) (pa_cons (pe_lc (own := [("_law_cell_here", 1)]) rfl sc_l_deck.nd (pi_list (pv 0)) (blkOk_by (own := [("_law_cell_here", 1)]) (N := ["_law_script", "_law_cell_here"]) (sc := defScope s_l_deck) (by decide +kernel)) (fun _ _ _ _ _ => (pg_name (i := 1) sc_l_deck.nd rfl (Or.inl rfl))) (fun _ _ _ _ _ => (pts_one (pt_cmpR op_ge (pe_callB call_abs (by rfl) T.m_abs (by decide +kernel) (pa_cons (pv 1) pa_nil)) (pe_op op_pow pe_int pe_int) (nomark _)))) (fun _ _ _ _ _ => (pe_callB call_abs (by rfl) T.m_abs (by decide +kernel) (pa_cons (pv 1) pa_nil)))) (pa_cons pe_int (pa_cons pe_int pa_nil))))))), ?_⟩
    refine ⟨_, rfl, _, rfl, s, rfl, ⟨_, hS.seq⟩, fun D hD => lc_list (K := K) (a := s) (xs := ns.map V.int) (fun i H' => ∃ cs : List Int, Same H H' ∧ Sc K H' s ns ∧ H' D = some (.lst (cs.map V.int)) ∧ cs.length ≤ i) ?_ ?_ ?_ ?_⟩
    · exact ⟨[], same_upd hD, hS.upd (.inl hD), upd_same, Nat.le_refl _⟩
    · rintro i H' _ ⟨cs, _, h, _⟩
      exact h.seq
    · rintro i x H' hx ⟨cs, sm, hs, hd, hc⟩
      obtain ⟨n, rfl⟩ : ∃ n : Int, x = .int n := by
        rw [List.getElem?_map] at hx
        cases e : ns[i]? with
        | none => rw [e] at hx; cases hx
        | some n => rw [e] at hx; exact ⟨n, (Option.some.inj hx).symm⟩
      have hi : i < ns.length := by
        have := (List.getElem?_eq_some_iff.mp hx).1
        rw [List.length_map] at this
        exact this
      refine ⟨rfl, _, rfl, n, rfl, 10, 18, rfl, rfl, ⟨by decide, by decide, by decide⟩, _, _, rfl, rfl, _, rfl, ite2 (fun e => ?_) (fun e => ?_)⟩
      · refine ⟨_, rfl, n, rfl, cs.map V.int, hd, small1000 (by rw [List.length_map]; omega), cs ++ [(if n < 0 then -n else n)], ?_, ?_, ?_, ?_⟩
        · exact fun x o h => by
            rw [upd_ne (ne_of_none h hD)]
            exact sm _ _ h
        · exact hs.upd (.inr ⟨_, hd⟩)
        · rw [upd_same, List.map_append]
          rfl
        · rw [List.length_append]
          exact Nat.succ_le_succ hc
      · exact ⟨cs, sm, hs, hd, Nat.le_succ_of_le hc⟩
    · rintro H' ⟨cs, sm, hs, hd, hc⟩
      refine ⟨size63 (show 4 ≤ 1000 by decide), fun d hn => ?_⟩
      have ne : D ≠ d := ne_of_none hd hn
      refine q _ d D (sm.free hn) hD ⟨⟨s, ns, cs, 0, 0, upd_same, ?_, hs.upd (.inl hn), by omega, by omega, by omega⟩, ne⟩ (sm.trans (same_upd hn))
      rw [upd_ne ne]
      exact hd
/-! ### a number is taken -/
def sp_l_take (K : PySem.W.Frag) : Sp := fun vs H Q _ => ∃ (d b : Addr) (c m : Int), vs = [.ref d, .int m] ∧ Deck K H d b c ∧ c < 1000000 ∧ 0 < m ∧ m.natAbs.log2 < 9000 ∧ ∀ H' r, Deck K H' d b (c + 1) → Kp d b H H' → 0 ≤ r → r < m → Q (.int r) H'
theorem ok_l_take (T : Tx K mg A) : FnOk P w K mg base CX0 3 A.f_l_take A.fd_l_take ["_law_deck_here", "_law_many"] (sp_l_take K) := by
  refine T.F_l_take.ok sc_l_take (fun vs H Q E h => ?_) (fun cdv Ar outer s H vs Q E hr h => ?_)
  · obtain ⟨d, b, c, m, rfl, _⟩ := h
    rfl
  · obtain ⟨d, b, c, m, rfl, ⟨⟨s, ns, cs, i0, k, hd, hb, hS, hi0, hk0, hk1⟩, ne⟩, hc, hm, hm2, q⟩ := h
    refine ⟨_, (pss_cons (ps_while PassesOwn.never (pt_cmpR op_lt (pe_ix ix_list (pv 0) pe_int (fun _ _ => rfl)) (pe_callB call_len_seq (by rfl) T.m_len (by decide +kernel) (pa_cons (pe_ix ix_list (pv 0) pe_int (fun _ _ => rfl)) pa_nil)) (nomark _))
      (pss_cons (ps_set (i := 2) sc_l_take.nd rfl (.inl rfl) (pe_ix ix_list (pe_ix ix_list (pv 0) pe_int (fun _ _ => rfl)) (pe_ix ix_list (pv 0) pe_int (fun _ _ => rfl)) (fun _ _ => rfl)))
    (pss_cons (ps_if (pt_cmpR op_gt (pv 2) pe_int (nomark _))
      (pss_cons (ps_asg (pe_op op_fdivW (pv 2) (pv 1)) (pg_sub (pe_ix ix_list (pv 0) pe_int (fun _ _ => rfl)) (pe_ix ix_list (pv 0) pe_int (fun _ _ => rfl)) set_list))
    (pss_one (ps_ret (pe_op op_mod (pv 2) (pv 1)))))
      pss_nil)
    (pss_one (ps_asg (pe_op op_add (pe_ix ix_list (pv 0) pe_int (fun _ _ => rfl)) pe_int) (pg_sub (pv 0) pe_int set_list))))))
    (pss_cons (ps_asg (pe_op op_add (pe_ix ix_list (pv 0) pe_int (fun _ _ => rfl)) pe_int) (pg_sub (pv 0) pe_int set_list))
    (pss_one (ps_ret (pe_call (ok_l_mixed T) (hr.mono (by decide)) (by rfl) T.g_l_mixed T.F_l_mixed.kp T.b_l_mixed .nil pass0 (pa_cons (pe_ix ix_list (pv 0) pe_int (fun _ _ => rfl)) (pa_cons (pe_ix ix_list (pv 0) pe_int (fun _ _ => rfl)) (pa_cons (pv 1) pa_nil)))))))), ?_⟩
    refine ⟨fun n σ H' => ∃ (y : Option V) (i : Int), σ = [some (.ref d), some (.int m), y] ∧ 0 ≤ i ∧ n = cs.length - i.toNat ∧ H' d = some (.lst [.ref s, .ref b, .int i, .int k]) ∧ H' b = some (.lst (cs.map V.int)) ∧ Sc K H' s ns ∧ Kp d b H H', ⟨_, none, i0, rfl, hi0, rfl, hd, hb, hS, Kp.refl⟩, fun n σ H' hW => ?_⟩
    obtain ⟨y, i, rfl, hi, hn, hd', hb', hS', kp⟩ := hW
    refine ⟨_, rfl, d, _, 2, .int i, rfl, rfl, SqL.of hd', rfl, _, rfl, d, _, 1, .ref b, rfl, rfl, SqL.of hd', rfl, b, _, rfl, .inl (SqL.of hb'), i, _, rfl, rfl, _, rfl, ite2 (fun e => ?_) (fun e => ?_)⟩
    · -- a turn
      have hlt : i < ((cs.map V.int).length : Int) := of_decide_eq_true e
      rw [List.length_map] at hlt
      obtain ⟨j, rfl⟩ : ∃ j : Nat, i = (j : Int) := ⟨_, (Int.toNat_of_nonneg hi).symm⟩
      have hj : j < cs.length := by omega
      have ha : atI (cs.map V.int) (j : Int) = some (.int cs[j]) := atI_nat (by rw [List.getElem?_map, List.getElem?_eq_getElem hj]; rfl)
      refine ⟨fun σ' H'' => ∃ (y : Option V), σ' = [some (.ref d), some (.int m), y] ∧ H'' d = some (.lst [.ref s, .ref b, .int ((j : Int) + 1), .int k]) ∧ H'' b = some (.lst (cs.map V.int)) ∧ Sc K H'' s ns ∧ Kp d b H H'', ?_, ?_⟩
      · rintro σ' H'' ⟨y, e1, e2, e3, e4, e5⟩
        exact ⟨cs.length - ((j : Int) + 1).toNat, by omega, y, _, e1, by omega, rfl, e2, e3, e4, e5⟩
      · refine ⟨_, rfl, d, _, 1, .ref b, rfl, rfl, SqL.of hd', rfl, _, rfl, d, _, 2, .int (j : Int), rfl, rfl, SqL.of hd', rfl, b, _, (j : Int), .int cs[j], rfl, rfl, SqL.of hb', ha, ?_⟩
        refine ⟨_, rfl, cs[j], 0, rfl, rfl, _, rfl, ite2 (fun e2 => ?_) (fun e2 => ?_)⟩
        · -- the cell is drawn from
          refine ⟨_, rfl, _, rfl, cs[j], m, rfl, rfl, ⟨hm, hm2⟩, _, rfl, d, _, 1, .ref b, rfl, rfl, SqL.of hd', rfl, _, rfl, d, _, 2, .int (j : Int), rfl, rfl, SqL.of hd', rfl, b, _, (j : Int), j, rfl, rfl, hb', ?_, ?_⟩
          · exact ixN_nat (by rw [List.length_map]; exact hj)
          · refine ⟨_, rfl, _, rfl, cs[j], m, rfl, rfl, hm, ?_⟩
            refine q _ _ ⟨⟨s, ns, cs.set j (cs[j] / m), (j : Int), k, ?_, ?_, hS'.upd (.inr ⟨_, hb'⟩), by omega, hk0, by omega⟩, ne⟩ ?_ (Int.emod_nonneg _ (by omega)) (Int.emod_lt_of_pos _ hm)
            · rw [upd_ne (Ne.symm ne)]
              exact hd'
            · rw [upd_same, List.map_set]
            · intro x o h1 h2 h
              rw [upd_ne h2]
              exact kp x o h1 h2 h
        · -- the next cell
          refine ⟨_, rfl, d, _, 2, .int (j : Int), rfl, rfl, SqL.of hd', rfl, _, _, rfl, rfl, _, rfl, d, _, 2, 2, rfl, rfl, hd', rfl, ?_⟩
          refine ⟨_, rfl, ?_, ?_, hS'.upd (.inr ⟨_, hd'⟩), ?_⟩
          · rw [upd_same]; rfl
          · rw [upd_ne ne]; exact hb'
          · intro x o h1 h2 h
            rw [upd_ne h1]
            exact kp x o h1 h2 h
    · -- no cell is left
      refine ⟨_, rfl, d, _, 3, .int k, rfl, rfl, SqL.of hd', rfl, _, _, rfl, rfl, _, rfl, d, _, 3, 3, rfl, rfl, hd', rfl, ?_⟩
      have hd2 : (upd H' d (.lst ([V.ref s, V.ref b, V.int i, V.int k].set 3 (V.int (k + 1))))) d = some (.lst [.ref s, .ref b, .int i, .int (k + 1)]) := upd_same
      have hS2 : Sc K (upd H' d (.lst ([V.ref s, V.ref b, V.int i, V.int k].set 3 (V.int (k + 1))))) s ns := hS'.upd (.inr ⟨_, hd'⟩)
      refine ⟨_, rfl, d, _, 0, .ref s, rfl, rfl, SqL.of hd2, rfl, _, rfl, d, _, 3, .int (k + 1), rfl, rfl, SqL.of hd2, rfl, _, rfl, s, ns, k + 1, m, rfl, hS2.seq, by omega, by omega, hm, fun r h0 h1 => ?_⟩
      refine q _ r ⟨⟨s, ns, cs, i, k + 1, hd2, ?_, hS2, hi, by omega, by omega⟩, ne⟩ ?_ h0 h1
      · rw [upd_ne ne]; exact hb'
      · intro x o h1 h2 h
        rw [upd_ne h1]
        exact kp x o h1 h2 h

/-! ### divisors -/
def gcdI (a b : Int) : Int := ((Nat.gcd a.natAbs b.natAbs : Nat) : Int)
/-- a share's two numbers -/
def IsSh (t u : Int) : Prop := 1 ≤ u ∧ gcdI t u = 1
instance (t u : Int) : Decidable (IsSh t u) := inferInstanceAs (Decidable (_ ∧ _))
theorem gcdI_nn (a b : Int) : 0 ≤ gcdI a b := Int.natCast_nonneg _
theorem gcdI_pos {a b : Int} (h : b ≠ 0) : 0 < gcdI a b := by
  have : 0 < Nat.gcd a.natAbs b.natAbs := Nat.gcd_pos_of_pos_right _ (by omega)
  unfold gcdI
  omega
theorem gcdI_neg_l (a b : Int) : gcdI (-a) b = gcdI a b := by
  unfold gcdI
  rw [Int.natAbs_neg]
theorem gcdI_neg_r (a b : Int) : gcdI a (-b) = gcdI a b := by
  unfold gcdI
  rw [Int.natAbs_neg]
theorem gcdI_dvd_l (a b : Int) : gcdI a b ∣ a := by
  unfold gcdI
  exact Int.ofNat_dvd_left.mpr (Nat.gcd_dvd_left _ _)
theorem gcdI_dvd_r (a b : Int) : gcdI a b ∣ b := by
  unfold gcdI
  exact Int.ofNat_dvd_left.mpr (Nat.gcd_dvd_right _ _)
/-- a share is told by what it is worth -/
theorem share_uniq {t u t' u' : Int} (h : IsSh t u) (h' : IsSh t' u') (e : t * u' = t' * u) : t = t' ∧ u = u' := by
  obtain ⟨u1, g1⟩ := h
  obtain ⟨u2, g2⟩ := h'
  have c1 : Nat.gcd t.natAbs u.natAbs = 1 := by unfold gcdI at g1; omega
  have c2 : Nat.gcd t'.natAbs u'.natAbs = 1 := by unfold gcdI at g2; omega
  have en : t.natAbs * u'.natAbs = t'.natAbs * u.natAbs := by
    rw [← Int.natAbs_mul, ← Int.natAbs_mul, e]
  have d1 : u.natAbs ∣ u'.natAbs := (Nat.Coprime.symm c1).dvd_of_dvd_mul_left (by rw [en]; exact Nat.dvd_mul_left _ _)
  have d2 : u'.natAbs ∣ u.natAbs := (Nat.Coprime.symm c2).dvd_of_dvd_mul_left (by rw [← en]; exact Nat.dvd_mul_left _ _)
  have eu : u = u' := by
    have := Nat.dvd_antisymm d1 d2
    omega
  subst eu
  exact ⟨Int.eq_of_mul_eq_mul_right (by omega) e, rfl⟩
theorem dvd_le_natAbs {g a : Int} (h : g ∣ a) (ha : a ≠ 0) : g.natAbs ≤ a.natAbs := Nat.le_of_dvd (by omega) (Int.natAbs_dvd_natAbs.mpr h)
theorem div_natAbs_le {a g : Int} (hg : 0 < g) (h : g ∣ a) : (a / g).natAbs ≤ a.natAbs := by
  obtain ⟨q, rfl⟩ := h
  rw [Int.mul_ediv_cancel_left _ (by omega), Int.natAbs_mul]
  exact Nat.le_mul_of_pos_left _ (by omega)
/-- a over b (b above nought) in lowest terms -/
theorem low_is {a b : Int} (hb : 0 < b) : IsSh (a / gcdI a b) (b / gcdI a b) ∧ (a / gcdI a b) * b = (b / gcdI a b) * a ∧ (a / gcdI a b).natAbs ≤ a.natAbs ∧ (b / gcdI a b).natAbs ≤ b.natAbs := by
  have hg : 0 < gcdI a b := gcdI_pos (by omega)
  have d1 := gcdI_dvd_l a b
  have d2 := gcdI_dvd_r a b
  refine ⟨⟨?_, ?_⟩, ?_, div_natAbs_le hg d1, div_natAbs_le hg d2⟩
  · have : 0 < b / gcdI a b := Int.ediv_pos_of_pos_of_dvd hb (by omega) d2
    omega
  · unfold gcdI at hg d1 d2 ⊢
    have e1 : (a / ((Nat.gcd a.natAbs b.natAbs : Nat) : Int)).natAbs = a.natAbs / Nat.gcd a.natAbs b.natAbs := by
      rw [Int.natAbs_ediv_of_dvd d1]
      rfl
    have e2 : (b / ((Nat.gcd a.natAbs b.natAbs : Nat) : Int)).natAbs = b.natAbs / Nat.gcd a.natAbs b.natAbs := by
      rw [Int.natAbs_ediv_of_dvd d2]
      rfl
    rw [e1, e2, Nat.gcd_div_gcd_div_gcd_of_pos_right (by omega)]
    rfl
  · obtain ⟨x, hx⟩ := d1
    obtain ⟨y, hy⟩ := d2
    have q1 : a / gcdI a b = x := (Int.eq_ediv_of_mul_eq_right (by omega) hx.symm).symm
    have q2 : b / gcdI a b = y := (Int.eq_ediv_of_mul_eq_right (by omega) hy.symm).symm
    rw [q1, q2]
    conv => lhs; rw [hy]
    conv => rhs; rw [hx]
    rw [Int.mul_left_comm, Int.mul_left_comm y, Int.mul_comm x y]
theorem log_le {m n k : Nat} (h : m ≤ n) (hn : n < 2 ^ k) (h0 : 0 < k) : m.log2 < k := log2_lt (Nat.lt_of_le_of_lt h hn) h0
/-! ### the law's gcd -/
def sp_gcd : Sp := fun vs H Q _ => ∃ a b : Int, vs = [.int a, .int b] ∧ Q (.int (gcdI a b)) H
theorem ok_l_gcd (T : Tx K mg A) : FnOk P w K mg base CX0 1 A.f_l_gcd A.fd_l_gcd ["_law_one", "_law_other"] sp_gcd := by
  refine T.F_l_gcd.ok sc_l_gcd (fun vs H Q E h => ?_) (fun cdv Ar outer s H vs Q E hr h => ?_)
  · obtain ⟨a, b, rfl, _⟩ := h
    rfl
  · obtain ⟨a, b, rfl, q⟩ := h
    refine ⟨_, (pss_cons (ps_set (i := 0) sc_l_gcd.nd rfl (.inl rfl) (pe_callB call_abs (by rfl) T.m_abs (by decide +kernel) (pa_cons (pv 0) pa_nil)))
    (pss_cons (ps_set (i := 1) sc_l_gcd.nd rfl (.inl rfl) (pe_callB call_abs (by rfl) T.m_abs (by decide +kernel) (pa_cons (pv 1) pa_nil)))
    (pss_cons (ps_while PassesOwn.never (pt_cmpR op_gt (pv 1) pe_int (nomark _))
      (pss_cons (ps_set (i := 2) sc_l_gcd.nd rfl (.inl rfl) (pe_op op_mod (pv 0) (pv 1)))
    (pss_cons (ps_set (i := 0) sc_l_gcd.nd rfl (.inl rfl) (pv 1))
    (pss_one (ps_set (i := 1) sc_l_gcd.nd rfl (.inl rfl) (pv 2))))))
    (pss_one (ps_ret (pv 0)))))), ?_⟩
    refine ⟨_, rfl, a, rfl, _, rfl, b, rfl, ?_⟩
    refine ⟨fun n σ H' => ∃ (x y : Nat) (r : Option V), σ = [some (.int (x : Int)), some (.int (y : Int)), r] ∧ n = y ∧ H' = H ∧ Nat.gcd x y = Nat.gcd a.natAbs b.natAbs, ⟨_, a.natAbs, b.natAbs, none, ?_, rfl, rfl, rfl⟩, fun n σ H' hW => ?_⟩
    · rw [abs_nat, abs_nat]
      rfl
    · obtain ⟨x, y, r, rfl, rfl, rfl, g⟩ := hW
      refine ⟨_, rfl, (n : Int), 0, rfl, rfl, _, rfl, ite2 (fun e => ?_) (fun e => ?_)⟩
      · have hy : 0 < n := by
          have := of_decide_eq_true e
          omega
        refine ⟨fun σ' H'' => ∃ r, σ' = [some (.int (n : Int)), some (.int ((x % n : Nat) : Int)), r] ∧ H'' = H', ?_, ?_⟩
        · rintro σ' H'' ⟨r, e1, rfl⟩
          exact ⟨x % n, Nat.mod_lt _ hy, n, x % n, r, e1, rfl, rfl, by rw [← g, Nat.gcd_comm x n, Nat.gcd_rec n x, Nat.gcd_comm]⟩
        · refine ⟨_, rfl, _, rfl, (x : Int), (n : Int), rfl, rfl, by omega, _, rfl, _, rfl, _, rfl, rfl⟩
      · have hy : n = 0 := by
          have : ¬ (0 < (n : Int)) := fun z => e (decide_eq_true z)
          omega
        subst hy
        refine ⟨_, rfl, ?_⟩
        have : (x : Int) = gcdI a b := by
          unfold gcdI
          rw [← g, Nat.gcd_zero_right]
        rw [this]
        exact q

/-! ### the law's own share -/
def Bd (n : Nat) (x : Int) : Prop := x.natAbs < 2 ^ n
theorem Bd.le {n m : Nat} {x : Int} (h : Bd n x) (l : n ≤ m) : Bd m x := Nat.lt_of_lt_of_le h (Nat.pow_le_pow_right (by decide) l)
theorem Bd.mul {n m : Nat} {x y : Int} (h : Bd n x) (g : Bd m y) : Bd (n + m) (x * y) := wide_lt h g
theorem Bd.of_le {n : Nat} {x y : Int} (h : Bd n x) (l : y.natAbs ≤ x.natAbs) : Bd n y := Nat.lt_of_le_of_lt l h
theorem Bd.neg {n : Nat} {x : Int} (h : Bd n x) : Bd n (-x) := by
  unfold Bd
  rw [Int.natAbs_neg]
  exact h
theorem Bd.add {n : Nat} {x y : Int} (h : Bd n x) (g : Bd n y) : Bd (n + 1) (x + y) := by
  unfold Bd at *
  rw [Nat.pow_succ]
  omega
theorem Bd.mulW {n m : Nat} {x y : Int} (h : Bd n x) (g : Bd m y) (hn : n ≤ 400000) (hm : m ≤ 400000) : CMulW x y := wide_mul (a := n + 1) (b := m + 1) (h.le (Nat.le_succ _)) (g.le (Nat.le_succ _)) (by omega) (by omega) (by omega)
theorem Bd.divW {n : Nat} {x y : Int} (h : Bd n y) (h0 : 0 < y) (hn : n < 9000) : CDivW x y := wide_div (b := n + 1) h0 (h.le (Nat.le_succ _)) (by omega) (by omega)
theorem gcdI_bd {n : Nat} {a b : Int} (h : Bd n b) (hb : b ≠ 0) : Bd n (gcdI a b) := h.of_le (by
  unfold gcdI
  exact Nat.le_of_dvd (by omega) (Nat.gcd_dvd_right _ _))
def sp_l_share : Sp := fun vs H Q _ => ∃ (a b : Int) (n : Nat), vs = [.int a, .int b] ∧ b ≠ 0 ∧ Bd n b ∧ n < 9000 ∧ ∀ p t u, H p = none → IsSh t u → t * b = u * a → t.natAbs ≤ a.natAbs → u.natAbs ≤ b.natAbs → Q (.ref p) (upd H p (.tup [.int t, .int u]))
theorem ok_l_share (T : Tx K mg A) : FnOk P w K mg base CX0 2 A.f_l_share A.fd_l_share ["_law_top", "_law_bottom"] sp_l_share := by
  refine T.F_l_share.ok sc_l_share (fun vs H Q E h => ?_) (fun cdv Ar outer s H vs Q E hr h => ?_)
  · obtain ⟨a, b, n, rfl, _⟩ := h
    rfl
  · obtain ⟨a, b, n, rfl, hb, hbd, hn, q⟩ := h
    refine ⟨_, (pss_cons (ps_if (pt_cmpR op_lt (pv 1) pe_int (nomark _))
      (pss_cons (ps_set (i := 0) sc_l_share.nd rfl (.inl rfl) (pe_un un_neg (pv 0)))
    (pss_one (ps_set (i := 1) sc_l_share.nd rfl (.inl rfl) (pe_un un_neg (pv 1)))))
      pss_nil)
    (pss_cons (ps_set (i := 2) sc_l_share.nd rfl (.inl rfl) (pe_call (ok_l_gcd T) (hr.mono (by decide)) (by rfl) T.g_l_gcd T.F_l_gcd.kp T.b_l_gcd .nil pass0 (pa_cons (pv 0) (pa_cons (pv 1) pa_nil))))
    (pss_one (ps_ret (pe_tup (pa_cons (pe_op op_fdivW (pv 0) (pv 2)) (pa_cons (pe_op op_fdivW (pv 1) (pv 2)) pa_nil))))))), ?_⟩
    refine ⟨_, rfl, b, 0, rfl, rfl, _, rfl, ite2 (fun e => ?_) (fun e => ?_)⟩
    · have hb0 : b < 0 := of_decide_eq_true e
      obtain ⟨h1, h2, h3, h4⟩ := low_is (a := -a) (b := -b) (by omega)
      have hg : Bd n (gcdI (-a) (-b)) := gcdI_bd hbd.neg (by omega)
      have hg0 : 0 < gcdI (-a) (-b) := gcdI_pos (by omega)
      refine ⟨_, rfl, a, rfl, _, rfl, b, rfl, ?_⟩
      refine ⟨_, rfl, _, rfl, -a, -b, rfl, ?_⟩
      refine ⟨_, rfl, _, rfl, _, _, rfl, rfl, hg.divW hg0 hn, _, rfl, _, rfl, _, _, rfl, rfl, hg.divW hg0 hn, size63 (show 2 ≤ 1000 by decide), fun p hp => ?_⟩
      refine q p _ _ hp h1 ?_ (by rw [Int.natAbs_neg] at h3; exact h3) (by rw [Int.natAbs_neg b] at h4; exact h4)
      rw [Int.mul_neg, Int.mul_neg] at h2
      omega
    · have hb0 : 0 < b := by
        have : ¬ b < 0 := fun z => e (decide_eq_true z)
        omega
      obtain ⟨h1, h2, h3, h4⟩ := low_is (a := a) (b := b) hb0
      have hg : Bd n (gcdI a b) := gcdI_bd hbd (by omega)
      have hg0 : 0 < gcdI a b := gcdI_pos (by omega)
      refine ⟨_, rfl, _, rfl, a, b, rfl, ?_⟩
      refine ⟨_, rfl, _, rfl, _, _, rfl, rfl, hg.divW hg0 hn, _, rfl, _, rfl, _, _, rfl, rfl, hg.divW hg0 hn, size63 (show 2 ≤ 1000 by decide), fun p hp => ?_⟩
      exact q p _ _ hp h1 h2 h3 h4

/-! ### data -/
def shD (x : Int × Int) : PyData := .tuple [.int x.1, .int x.2]
theorem lay_shs : ∀ xs : List (Int × Int), PyData.canLayAll0 (xs.map shD) = true
  | [] => rfl
  | x :: r => by
    rw [List.map_cons, PyData.canLayAll0, lay_shs r]
    rfl
theorem depth_shs : ∀ xs : List (Int × Int), PyData.depthAll (xs.map shD) ≤ 1
  | [] => Nat.zero_le _
  | x :: r => by
    rw [List.map_cons, PyData.depthAll]
    exact Nat.max_le.mpr ⟨Nat.le_refl 1, depth_shs r⟩
theorem shaped_shs (xs : List (Int × Int)) : SeqAt.shaped (.list (xs.map shD)) = true := by
  unfold SeqAt.shaped
  rw [PyData.canLay0, lay_shs, PyData.depth, Bool.true_and]
  have := depth_shs xs
  exact decide_eq_true (by omega)
theorem shaped_sh (x : Int × Int) : SeqAt.shaped (shD x) = true := rfl
theorem eqv_shs (xs : List (Int × Int)) : PyData.eqv (.list (xs.map shD)) (.list (xs.map shD)) = true := SeqAt.eqv_refl _ (by rw [PyData.canLay0, lay_shs])
theorem eqv_sh (x : Int × Int) : PyData.eqv (shD x) (shD x) = true := SeqAt.eqv_refl _ rfl
/-- a share lies at v -/
def ShAt (K : PySem.W.Frag) (H : Hp) (v : V) (x : Int × Int) : Prop := ∃ a, v = .ref a ∧ SqT K H a [.int x.1, .int x.2]
theorem ShAt.keep {K : PySem.W.Frag} {H H' : Hp} {v : V} {x : Int × Int} (h : ShAt K H v x) (k : Same H H') : ShAt K H' v x := by
  obtain ⟨a, e, h⟩ := h
  exact ⟨a, e, Same.seqT k h⟩
theorem ShAt.deck {K : PySem.W.Frag} {H H' : Hp} {v : V} {x : Int × Int} {d b : Addr} {c : Int} (h : ShAt K H v x) (D : Deck K H d b c) (k : Kp d b H H') : ShAt K H' v x := by
  obtain ⟨a, e, h⟩ := h
  exact ⟨a, e, D.seqT k h⟩
theorem ShAt.dp {K : PySem.W.Frag} {H : Hp} {v : V} {x : Int × Int} (h : ShAt K H v x) : Dp K H v (shD x) := by
  obtain ⟨a, rfl, h⟩ := h
  exact .tup h (.cons (.int _) (.cons (.int _) .nil))
abbrev RowAt (K : PySem.W.Frag) (H : Hp) : List V → List (Int × Int) → Prop := Paired (ShAt K H)
theorem paired_imp {α β : Type} {F G : α → β → Prop} (h : ∀ a b, F a b → G a b) : ∀ {l : List α} {m : List β}, Paired F l m → Paired G l m
  | _, _, .nil => .nil
  | _, _, .cons a r => .cons (h _ _ a) (paired_imp h r)
theorem paired_get {α β : Type} {F : α → β → Prop} : ∀ {l : List α} {m : List β} {i : Nat} {a : α}, Paired F l m → l[i]? = some a → ∃ b, m[i]? = some b ∧ F a b
  | _, _, _, _, .nil, e => by cases e
  | _, _, 0, _, .cons a _, e => by
    cases e
    exact ⟨_, rfl, a⟩
  | _, _, i + 1, _, .cons _ r, e => paired_get (i := i) r e
theorem paired_get' {α β : Type} {F : α → β → Prop} : ∀ {l : List α} {m : List β} {i : Nat} {b : β}, Paired F l m → m[i]? = some b → ∃ a, l[i]? = some a ∧ F a b
  | _, _, _, _, .nil, e => by cases e
  | _, _, 0, _, .cons a _, e => by
    cases e
    exact ⟨_, rfl, a⟩
  | _, _, i + 1, _, .cons _ r, e => paired_get' (i := i) r e
theorem RowAt.keep {K : PySem.W.Frag} {H H' : Hp} {vs : List V} {xs : List (Int × Int)} (h : RowAt K H vs xs) (k : Same H H') : RowAt K H' vs xs := paired_imp (fun _ _ s => s.keep k) h
theorem RowAt.deck {K : PySem.W.Frag} {H H' : Hp} {vs : List V} {xs : List (Int × Int)} {d b : Addr} {c : Int} (h : RowAt K H vs xs) (D : Deck K H d b c) (k : Kp d b H H') : RowAt K H' vs xs := paired_imp (fun _ _ s => s.deck D k) h
theorem RowAt.dp {K : PySem.W.Frag} {H : Hp} : ∀ {vs : List V} {xs : List (Int × Int)}, RowAt K H vs xs → DpAll K H vs (xs.map shD)
  | _, _, .nil => .nil
  | _, _, .cons a r => .cons a.dp (RowAt.dp r)
/-- what changes an object other than a tuple leaves the tuples -/
theorem SqT.upd_lst {K : PySem.W.Frag} {H : Hp} {a p : Addr} {xs ys : List V} {o : HO} (h : SqT K H a xs) (hp : H p = some (.lst ys)) : SqT K (upd H p o) a xs := by
  rcases h with (h | ⟨o', h⟩) | h
  · refine .inl (.inl ?_)
    rw [upd_ne (fun e => by rw [e, hp] at h; cases h)]
    exact h
  · refine .inl (.inr ⟨o', ?_⟩)
    rw [upd_ne (fun e => by rw [e, hp] at h; cases h)]
    exact h
  · exact .inr h
theorem RowAt.upd_lst {K : PySem.W.Frag} {H : Hp} {p : Addr} {vs ys : List V} {xs : List (Int × Int)} {o : HO} (h : RowAt K H vs xs) (hp : H p = some (.lst ys)) : RowAt K (upd H p o) vs xs := paired_imp (fun _ _ ⟨a, e, s⟩ => ⟨a, e, SqT.upd_lst s hp⟩) h
theorem Deck.upd {K : PySem.W.Frag} {H : Hp} {d b p : Addr} {c : Int} {ys : List V} {o : HO} (D : Deck K H d b c) (hp : H p = some (.lst ys)) (n1 : p ≠ d) (n2 : p ≠ b) : Deck K (upd H p o) d b c := by
  obtain ⟨⟨s, ns, cs, i, k, h1, h2, h3, h4⟩, n⟩ := D
  refine ⟨⟨s, ns, cs, i, k, ?_, ?_, h3.upd (.inr ⟨_, hp⟩), h4⟩, n⟩
  · rw [upd_ne (Ne.symm n1)]; exact h1
  · rw [upd_ne (Ne.symm n2)]; exact h2
theorem for_enum {K : PySem.W.Frag} {a : Addr} {xs : List V} {g : TG} {tb : TS} {D : Ends} {σ : L2.St} {H : Hp} (Pv : Nat → L2.St → Hp → Prop) (h0 : Pv 0 σ H) (hl : ∀ i σ H, i ≤ xs.length → Pv i σ H → SqL K H a xs)
    (hs : ∀ i x σ H p, xs[i]? = some x → Pv i σ H → H p = none → g (.ref p) σ (upd H p (.tup [.int (i : Nat), x])) fun σ2 H2 => tb { D with nx := Pv (i + 1), ct := Pv (i + 1), bk := D.nx } σ2 H2) (hd : ∀ σ H, Pv xs.length σ H → D.nx σ H) :
    ∃ W : Nat → Nat → L2.St → Hp → Prop, (∃ m, W 0 m σ H) ∧ ∀ i m σ H, W i m σ H →
      ((Ite K a).stop i H ∧ D.nx σ H) ∨ ((Ite K a).go i H ∧ ∃ N : L2.St → Hp → Prop, (∀ σ' H', N σ' H' → ∃ m', m' < m ∧ W (i + 1) m' σ' H') ∧ ∀ x H', (Ite K a).yld i H x H' → g x σ H' fun σ2 H2 => tb { D with nx := N, ct := N, bk := D.nx } σ2 H2) := by
  refine ⟨fun i m σ H => m = xs.length - i ∧ i ≤ xs.length ∧ Pv i σ H, ⟨xs.length, by simp, Nat.zero_le _, h0⟩, ?_⟩
  rintro i m σ H ⟨rfl, hi, p⟩
  have q := hl i σ H hi p
  by_cases hlt : i < xs.length
  · refine .inr ⟨⟨xs, xs[i], q, by simp [hlt]⟩, Pv (i + 1), fun σ' H' p' => ⟨xs.length - (i + 1), by omega, rfl, hlt, p'⟩, fun x H' y => ?_⟩
    obtain ⟨t, z, rfl, ht, rfl, y⟩ := y
    exact hs i z σ H t (y xs q) p ht
  · have e : i = xs.length := by omega
    subst e
    exact .inl ⟨⟨xs, q, Nat.le_refl _⟩, hd σ H p⟩

/-! ### fractions -/
theorem isSh_q (q : Rat) : IsSh q.num q.den := by
  refine ⟨by have := q.den_pos; omega, ?_⟩
  unfold gcdI
  rw [Int.natAbs_natCast]
  exact congrArg Int.ofNat q.reduced
theorem divInt_cross {a b : Int} (hb : b ≠ 0) : a * ((Rat.divInt a b).den : Int) = (Rat.divInt a b).num * b := by
  have h : Rat.divInt a b = Rat.divInt (Rat.divInt a b).num ((Rat.divInt a b).den : Int) := (Rat.num_divInt_den _).symm
  exact (Rat.divInt_eq_divInt_iff hb (by have := (Rat.divInt a b).den_pos; omega)).mp h
theorem rep_of {t u : Int} {q : Rat} (h : IsSh t u) (e : t * (q.den : Int) = q.num * u) : t = q.num ∧ u = (q.den : Int) := share_uniq h (isSh_q q) e
theorem rep_divInt {t u a b : Int} (h : IsSh t u) (hb : b ≠ 0) (e : t * b = u * a) : t = (Rat.divInt a b).num ∧ u = ((Rat.divInt a b).den : Int) := by
  have hu : u ≠ 0 := by have := h.1; omega
  have eq : Rat.divInt t u = Rat.divInt a b := (Rat.divInt_eq_divInt_iff hu hb).mpr (by rw [e, Int.mul_comm])
  rw [← eq]
  exact rep_of h (divInt_cross hu)
theorem low_bd {t u a b : Int} (h : IsSh t u) (hb : 0 < b) (e : t * b = u * a) : t.natAbs ≤ a.natAbs ∧ u.natAbs ≤ b.natAbs := by
  obtain ⟨h1, h2, h3, h4⟩ := low_is (a := a) (b := b) hb
  have hu : u ≠ 0 := by have := h.1; omega
  have e1 := rep_divInt h (by omega) e
  have e2 := rep_divInt h1 (by omega) h2
  rw [e1.1, e1.2, ← e2.1, ← e2.2]
  exact ⟨h3, h4⟩
def BdQ (n : Nat) (q : Rat) : Prop := Bd n q.num ∧ Bd n (q.den : Int)
theorem BdQ.le {n m : Nat} {q : Rat} (h : BdQ n q) (l : n ≤ m) : BdQ m q := ⟨h.1.le l, h.2.le l⟩
theorem divInt_bd {a b : Int} {n : Nat} (hb : 0 < b) (ha : Bd n a) (hn : Bd n b) : BdQ n (Rat.divInt a b) := by
  have h := low_bd (isSh_q (Rat.divInt a b)) hb (by rw [← divInt_cross (by omega), Int.mul_comm])
  exact ⟨ha.of_le h.1, hn.of_le h.2⟩
theorem den_pos (q : Rat) : (0 : Int) < (q.den : Int) := by have := q.den_pos; omega
theorem add_divInt (p q : Rat) : p + q = Rat.divInt (p.num * q.den + q.num * p.den) (p.den * q.den) := by
  have h := Rat.divInt_add_divInt p.num q.num (d₁ := p.den) (d₂ := q.den) (by have := den_pos p; omega) (by have := den_pos q; omega)
  rw [Rat.num_divInt_den, Rat.num_divInt_den] at h
  exact h
theorem mul_divInt (p q : Rat) : p * q = Rat.divInt (p.num * q.num) (p.den * q.den) := by
  have h := Rat.divInt_mul_divInt p.num q.num (d₁ := p.den) (d₂ := q.den)
  rw [Rat.num_divInt_den, Rat.num_divInt_den] at h
  exact h
theorem BdQ.add {n m : Nat} {p q : Rat} (h : BdQ n p) (g : BdQ m q) : BdQ (n + m + 1) (p + q) := by
  rw [add_divInt]
  refine divInt_bd (Int.mul_pos (den_pos p) (den_pos q)) ?_ ((h.2.mul g.2).le (Nat.le_succ _))
  exact (h.1.mul g.2).add ((g.1.mul h.2).le (by omega))
theorem BdQ.mul {n m : Nat} {p q : Rat} (h : BdQ n p) (g : BdQ m q) : BdQ (n + m) (p * q) := by
  rw [mul_divInt]
  exact divInt_bd (Int.mul_pos (den_pos p) (den_pos q)) (h.1.mul g.1) (h.2.mul g.2)
theorem BdQ.neg {n : Nat} {q : Rat} (h : BdQ n q) : BdQ n (-q) := by
  refine ⟨?_, h.2⟩
  rw [Rat.neg_num]
  exact h.1.neg
theorem BdQ.sub {n m : Nat} {p q : Rat} (h : BdQ n p) (g : BdQ m q) : BdQ (n + m + 1) (p - q) := by
  rw [Rat.sub_eq_add_neg]
  exact h.add g.neg
theorem neg_num (q : Rat) : (-q).num = -q.num := Rat.neg_num q
theorem neg_den (q : Rat) : (-q).den = q.den := rfl
/-- one over a fraction -/
theorem inv_rep {q : Rat} (h : 0 < q.num) : (q⁻¹).num = q.den ∧ ((q⁻¹).den : Int) = q.num := by
  have hs := isSh_q q
  have e := rep_divInt (t := (q.den : Int)) (u := q.num) (a := (q.den : Int)) (b := q.num) ⟨by omega, by
    have := hs.2
    unfold gcdI at this ⊢
    rw [Nat.gcd_comm]
    exact this⟩ (by omega) (Int.mul_comm _ _)
  rw [Rat.inv_def]
  exact ⟨e.1.symm, e.2.symm⟩
theorem inv_rep_neg {q : Rat} (h : q.num < 0) : (q⁻¹).num = -(q.den : Int) ∧ ((q⁻¹).den : Int) = -q.num := by
  have hs := isSh_q q
  have e := rep_divInt (t := -(q.den : Int)) (u := -q.num) (a := (q.den : Int)) (b := q.num) ⟨by omega, by
    rw [gcdI_neg_l, gcdI_neg_r]
    have := hs.2
    unfold gcdI at this ⊢
    rw [Nat.gcd_comm]
    exact this⟩ (by omega) (by rw [Int.neg_mul, Int.neg_mul, Int.mul_comm])
  rw [Rat.inv_def]
  exact ⟨e.1.symm, e.2.symm⟩
/-! ### divisors, further -/
theorem cop_iff {a b : Int} : gcdI a b = 1 ↔ ∀ k : Nat, (k : Int) ∣ a → (k : Int) ∣ b → k = 1 := by
  constructor
  · intro h k h1 h2
    have h3 : k ∣ Nat.gcd a.natAbs b.natAbs := Nat.dvd_gcd (Int.ofNat_dvd_left.mp h1) (Int.ofNat_dvd_left.mp h2)
    have h4 : Nat.gcd a.natAbs b.natAbs = 1 := by unfold gcdI at h; omega
    rw [h4] at h3
    exact Nat.dvd_one.mp h3
  · intro h
    have := h (Nat.gcd a.natAbs b.natAbs) (gcdI_dvd_l a b) (gcdI_dvd_r a b)
    unfold gcdI
    rw [this]
    rfl
theorem cop_comm {a b : Int} (h : gcdI a b = 1) : gcdI b a = 1 := cop_iff.mpr fun k h1 h2 => cop_iff.mp h k h2 h1
theorem cop_dvd_l {a a' b : Int} (h : gcdI a b = 1) (d : a' ∣ a) : gcdI a' b = 1 := cop_iff.mpr fun k h1 h2 => cop_iff.mp h k (Int.dvd_trans h1 d) h2
theorem cop_dvd_r {a b b' : Int} (h : gcdI a b = 1) (d : b' ∣ b) : gcdI a b' = 1 := cop_iff.mpr fun k h1 h2 => cop_iff.mp h k h1 (Int.dvd_trans h2 d)
theorem cop_mul_r {a b c : Int} (h : gcdI a b = 1) (g : gcdI a c = 1) : gcdI a (b * c) = 1 := by
  unfold gcdI at *
  rw [Int.natAbs_mul]
  have h1 : Nat.Coprime a.natAbs b.natAbs := by unfold Nat.Coprime; omega
  have h2 : Nat.Coprime a.natAbs c.natAbs := by unfold Nat.Coprime; omega
  have h3 : Nat.Coprime a.natAbs (b.natAbs * c.natAbs) := Nat.Coprime.mul_right h1 h2
  unfold Nat.Coprime at h3
  omega
theorem cop_mul_l {a b c : Int} (h : gcdI a c = 1) (g : gcdI b c = 1) : gcdI (a * b) c = 1 := cop_comm (cop_mul_r (cop_comm h) (cop_comm g))
theorem cop_add {x y a : Int} (h : gcdI x a = 1) (d : a ∣ y) : gcdI (x + y) a = 1 := cop_iff.mpr fun k h1 h2 => cop_iff.mp h k ((Int.dvd_add_left (Int.dvd_trans h2 d)).mp h1) h2
theorem cop_div {a b : Int} (h : b ≠ 0) : gcdI (a / gcdI a b) (b / gcdI a b) = 1 := by
  rcases Int.lt_or_gt_of_ne h with h | h
  · have := (low_is (a := a) (b := -b) (by omega)).1.2
    rw [gcdI_neg_r, Int.neg_ediv_of_dvd (gcdI_dvd_r a b), gcdI_neg_r] at this
    exact this
  · exact (low_is h).1.2
theorem div_mul {g a : Int} (h : g ∣ a) : g * (a / g) = a := Int.mul_ediv_cancel' h
theorem div_dvd {g a : Int} (h : g ∣ a) : a / g ∣ a := ⟨g, by rw [Int.mul_comm]; exact (div_mul h).symm⟩
/-! ### sums and products of shares, as the program reckons them -/
theorem plus_one {t u t' u' : Int} (h : IsSh t u) (h' : IsSh t' u') (e : gcdI u u' = 1) : IsSh (t * u' + t' * u) (u * u') := by
  have hu : 0 < u * u' := Int.mul_pos (by have := h.1; omega) (by have := h'.1; omega)
  refine ⟨by omega, cop_mul_r ?_ ?_⟩
  · exact cop_add (cop_mul_l h.2 (cop_comm e)) (Int.dvd_mul_left ..)
  · rw [Int.add_comm]
    exact cop_add (cop_mul_l h'.2 e) (Int.dvd_mul_left ..)
theorem plus_two {t u t' u' d tot g : Int} (h : IsSh t u) (h' : IsSh t' u') (ed : gcdI u u' = d) (et : t * (u' / d) + t' * (u / d) = tot) (eg : gcdI tot d = g) :
    IsSh (tot / g) (u / d * (u' / g)) ∧ (tot / g) * (u * u') = (u / d * (u' / g)) * (t * u' + t' * u) := by
  have hu1 := h.1
  have hu2 := h'.1
  have d0 : 0 < d := by rw [← ed]; exact gcdI_pos (by omega)
  have g0 : 0 < g := by rw [← eg]; exact gcdI_pos (by omega)
  have da : d ∣ u := by rw [← ed]; exact gcdI_dvd_l _ _
  have db : d ∣ u' := by rw [← ed]; exact gcdI_dvd_r _ _
  have gt : g ∣ tot := by rw [← eg]; exact gcdI_dvd_l _ _
  have gd : g ∣ d := by rw [← eg]; exact gcdI_dvd_r _ _
  have hab : gcdI (u / d) (u' / d) = 1 := by rw [← ed]; exact cop_div (by omega)
  have hgd : gcdI (tot / g) (d / g) = 1 := by rw [← eg]; exact cop_div (by omega)
  obtain ⟨a, rfl⟩ := da
  obtain ⟨b, rfl⟩ := db
  obtain ⟨e, rfl⟩ := gd
  obtain ⟨f, rfl⟩ := gt
  have g1 : g ≠ 0 := by omega
  have d1 : g * e ≠ 0 := by omega
  rw [Int.mul_ediv_cancel_left _ d1] at et hab ⊢
  rw [Int.mul_ediv_cancel_left _ d1] at et hab
  rw [Int.mul_ediv_cancel_left _ g1] at hgd ⊢
  rw [Int.mul_ediv_cancel_left _ g1] at hgd
  have eb : g * e * b / g = e * b := by rw [Int.mul_assoc, Int.mul_ediv_cancel_left _ g1]
  rw [eb]
  have e0 : 0 < e := by
    rcases Int.lt_trichotomy e 0 with z | z | z
    · have := Int.mul_neg_of_pos_of_neg g0 z
      omega
    · rw [z] at d0; simp at d0
    · exact z
  have a0 : 0 < a := Int.pos_of_mul_pos_right (a := g * e) (by omega) d0
  have b0 : 0 < b := Int.pos_of_mul_pos_right (a := g * e) (by omega) d0
  have c1 : gcdI f a = 1 := by
    refine cop_dvd_l (a := g * f) ?_ (Int.dvd_mul_left ..)
    rw [← et]
    exact cop_add (cop_mul_l (cop_dvd_r h.2 (Int.dvd_mul_left ..)) (cop_comm hab)) (Int.dvd_mul_left ..)
  have c2 : gcdI f b = 1 := by
    refine cop_dvd_l (a := g * f) ?_ (Int.dvd_mul_left ..)
    rw [← et, Int.add_comm]
    exact cop_add (cop_mul_l (cop_dvd_r h'.2 (Int.dvd_mul_left ..)) hab) (Int.dvd_mul_left ..)
  refine ⟨⟨?_, cop_mul_r c1 (cop_mul_r hgd c2)⟩, ?_⟩
  · have := Int.mul_pos a0 (Int.mul_pos e0 b0)
    omega
  · have : a * (e * b) * (t * (g * e * b) + t' * (g * e * a)) = a * (e * b) * (g * e) * (t * b + t' * a) := by grind
    rw [this, et]
    grind
theorem times_one {t u t' u' d e : Int} (h : IsSh t u) (h' : IsSh t' u') (ed : gcdI t u' = d) (ee : gcdI t' u = e) :
    IsSh ((t / d) * (t' / e)) ((u / e) * (u' / d)) ∧ ((t / d) * (t' / e)) * (u * u') = ((u / e) * (u' / d)) * (t * t') := by
  have hu1 := h.1
  have hu2 := h'.1
  have d0 : 0 < d := by rw [← ed]; exact gcdI_pos (by omega)
  have e0 : 0 < e := by rw [← ee]; exact gcdI_pos (by omega)
  have d1 : d ∣ t := by rw [← ed]; exact gcdI_dvd_l _ _
  have d2 : d ∣ u' := by rw [← ed]; exact gcdI_dvd_r _ _
  have d3 : e ∣ t' := by rw [← ee]; exact gcdI_dvd_l _ _
  have d4 : e ∣ u := by rw [← ee]; exact gcdI_dvd_r _ _
  have c1 : gcdI (t / d) (u' / d) = 1 := by rw [← ed]; exact cop_div (by omega)
  have c2 : gcdI (t' / e) (u / e) = 1 := by rw [← ee]; exact cop_div (by omega)
  have c3 : gcdI (t / d) (u / e) = 1 := cop_dvd_l (cop_dvd_r h.2 (div_dvd d4)) (div_dvd d1)
  have c4 : gcdI (t' / e) (u' / d) = 1 := cop_dvd_l (cop_dvd_r h'.2 (div_dvd d2)) (div_dvd d3)
  refine ⟨⟨?_, cop_mul_l (cop_mul_r c3 c1) (cop_mul_r c2 c4)⟩, ?_⟩
  · have := Int.mul_pos (Int.ediv_pos_of_pos_of_dvd (show 0 < u by omega) (by omega) d4) (Int.ediv_pos_of_pos_of_dvd (show 0 < u' by omega) (by omega) d2)
    omega
  · have m1 := div_mul d1
    have m2 := div_mul d2
    have m3 := div_mul d3
    have m4 := div_mul d4
    generalize t / d = x at *
    generalize u' / d = y at *
    generalize t' / e = v at *
    generalize u / e = z at *
    subst m1 m2 m3 m4
    grind
theorem gcdI_bd2 {n : Nat} {p q : Int} (h : Bd n p) (g : Bd n q) (h0 : ¬ (p = 0 ∧ q = 0)) : Bd n (gcdI p q) := by
  by_cases hq : q = 0
  · have hp : p ≠ 0 := fun z => h0 ⟨z, hq⟩
    refine h.of_le ?_
    unfold gcdI
    exact Nat.le_of_dvd (by omega) (Nat.gcd_dvd_left _ _)
  · exact gcdI_bd g hq
theorem gcdI_comm (p q : Int) : gcdI p q = gcdI q p := by
  unfold gcdI
  rw [Nat.gcd_comm]
theorem gcdI_pos2 {p q : Int} (h0 : ¬ (p = 0 ∧ q = 0)) : 0 < gcdI p q := by
  by_cases hq : q = 0
  · rw [gcdI_comm]
    exact gcdI_pos fun z => h0 ⟨z, hq⟩
  · exact gcdI_pos hq
theorem cop_div2 {p q : Int} (h0 : ¬ (p = 0 ∧ q = 0)) : gcdI (p / gcdI p q) (q / gcdI p q) = 1 := by
  by_cases hq : q = 0
  · have hp : p ≠ 0 := fun z => h0 ⟨z, hq⟩
    rw [gcdI_comm p q]
    exact cop_comm (cop_div hp)
  · exact cop_div hq
/-- a fraction by what it is worth -/
theorem eq_divInt {q : Rat} {a b : Int} (hb : b ≠ 0) (h : q * (b : Rat) = (a : Rat)) : q = Rat.divInt a b := by
  rw [Rat.divInt_eq_div, ← h]
  have : (b : Rat) ≠ 0 := fun z => hb (by exact_mod_cast z)
  grind
theorem num_eq (x : Rat) : (x.num : Rat) = x * ((x.den : Int) : Rat) := by
  have h : (((x.den : Int)) : Rat) ≠ 0 := fun z => by
    have hp := den_pos x
    have : ((x.den : Int)) = 0 := by exact_mod_cast z
    omega
  have e := Rat.num_divInt_den x
  rw [Rat.divInt_eq_div] at e
  have e2 := Rat.div_mul_cancel (a := (x.num : Rat)) h
  rw [e] at e2
  exact e2.symm

/-! ### a fraction's share lies at v -/
abbrev qp (q : Rat) : Int × Int := (q.num, (q.den : Int))
abbrev ShQ (K : PySem.W.Frag) (H : Hp) (v : V) (q : Rat) : Prop := ShAt K H v (qp q)
theorem shq_new {K : PySem.W.Frag} {H' : Hp} {p : Addr} {t u a b : Int} (e : H' p = some (.tup [.int t, .int u])) (h : IsSh t u) (hb : b ≠ 0) (c : t * b = u * a) : ShQ K H' (.ref p) (Rat.divInt a b) := by
  obtain ⟨h1, h2⟩ := rep_divInt h hb c
  refine ⟨p, rfl, .inl (.inl ?_)⟩
  rw [e, h1, h2]
theorem shq_int {K : PySem.W.Frag} {H : Hp} {v : V} {n : Int} (h : ShAt K H v (n, 1)) : ShQ K H v (n : Rat) := h
theorem eqv_q (q : Rat) : PyData.eqv (shD (qp q)) (shD (qp q)) = true := eqv_sh _

/-! ### the program's divisor -/
theorem bits_le {b : Int} (h : Bd 4000 b) : ¬ (((Builtin.Int.intBits (if b < 0 then -b else b) : Nat) : Int) > 4000) := by
  have := PyProof.Rows.intBits_le (a := (if b < 0 then -b else b)) (k := 4000) (by rw [abs_nat]; exact h)
  omega
def sp_pgcd : Sp := fun vs H Q _ => ∃ a b : Int, vs = [.int a, .int b] ∧ Bd 4000 b ∧ Q (.int (gcdI a b)) H
theorem ok_p_common_divisor (T : Tx K mg A) : FnOk P w K mg base CX0 1 A.f_p_common_divisor A.fd_p_common_divisor ["one", "other"] sp_pgcd := by
  refine T.F_p_common_divisor.ok sc_p_common_divisor (fun vs H Q E h => ?_) (fun cdv Ar outer s H vs Q E hr h => ?_)
  · obtain ⟨a, b, rfl, _⟩ := h
    rfl
  · obtain ⟨a, b, rfl, hb, q⟩ := h
    refine ⟨_, (pss_cons (ps_set (i := 0) sc_p_common_divisor.nd rfl (.inl rfl) (pe_callB call_abs (by rfl) T.m_abs (by decide +kernel) (pa_cons (pv 0) pa_nil)))
    (pss_cons (ps_set (i := 1) sc_p_common_divisor.nd rfl (.inl rfl) (pe_callB call_abs (by rfl) T.m_abs (by decide +kernel) (pa_cons (pv 1) pa_nil)))
    (pss_cons (ps_if (PW.pt (pw_and (pt_cmpR op_gt (pe_bits (pv 0)) (pe_glob (v := .int 4000) (by rfl) T.g_LENGTHY ⟨_, rfl⟩) (nomark _)) (pw_and1 (pt_cmpR op_gt (pe_bits (pv 1)) (pe_glob (v := .int 4000) (by rfl) T.g_LENGTHY ⟨_, rfl⟩) (nomark _)))))
      (pss_one ps_never)
      pss_nil)
    (pss_cons (ps_while PassesOwn.never (pt_cmpR op_ne (pv 1) pe_int (nomark _))
      (pss_one (ps_par (i := 0) (j := 1) (by rfl) sc_p_common_divisor.nd rfl rfl (by decide) rfl rfl (pa_cons (pv 1) (pa_cons (pe_op op_mod (pv 0) (pv 1)) pa_nil)) (by rfl))))
    (pss_one (ps_ret (pv 0))))))), ?_⟩
    refine ⟨_, rfl, a, rfl, _, rfl, b, rfl, ?_⟩
    refine ⟨_, rfl, _, rfl, _, _, rfl, rfl, _, rfl, ite2 (fun _ => ⟨_, rfl, _, rfl, _, _, rfl, rfl, _, rfl, ite2 (fun e => absurd (of_decide_eq_true e) (bits_le hb)) (fun _ => ?_)⟩) (fun _ => iteF ?_)⟩
    all_goals
      refine ⟨fun n σ H' => ∃ (x y : Nat), σ = [some (.int (x : Int)), some (.int (y : Int))] ∧ n = y ∧ H' = H ∧ Nat.gcd x y = Nat.gcd a.natAbs b.natAbs, ⟨_, a.natAbs, b.natAbs, ?_, rfl, rfl, rfl⟩, fun n σ H' hW => ?_⟩
      · rw [abs_nat, abs_nat]
        rfl
      · obtain ⟨x, y, rfl, rfl, rfl, g⟩ := hW
        refine ⟨_, rfl, rfl, _, rfl, ?_⟩
        by_cases hy : n = 0
        · subst hy
          refine iteNS rfl ⟨_, rfl, ?_⟩
          have : (x : Int) = gcdI a b := by
            unfold gcdI
            rw [← g, Nat.gcd_zero_right]
          rw [this]
          exact q
        · have hne : ¬ (V.int (n : Int) = V.int 0) := fun z => hy (by have := V.int.inj z; omega)
          rw [decide_eq_false hne]
          refine iteT ⟨fun σ' H'' => σ' = [some (.int (n : Int)), some (.int ((x % n : Nat) : Int))] ∧ H'' = H', ?_, ?_⟩
          · rintro σ' H'' ⟨e1, rfl⟩
            exact ⟨x % n, Nat.mod_lt _ (by omega), n, x % n, e1, rfl, rfl, by rw [← g, Nat.gcd_comm x n, Nat.gcd_rec n x, Nat.gcd_comm]⟩
          · exact ⟨_, rfl, _, rfl, _, rfl, (x : Int), (n : Int), rfl, rfl, (show (0 : Int) < n by omega), _, _, rfl, rfl, rfl⟩
/-! ### the sum -/
def sp_p_plus (K : PySem.W.Frag) : Sp := fun vs H Q _ => ∃ (v v' : V) (x y : Rat) (n m : Nat), vs = [v, v'] ∧ ShQ K H v x ∧ ShQ K H v' y ∧ BdQ n x ∧ BdQ m y ∧ n ≤ 4000 ∧ m ≤ 4000 ∧ ∀ H' r, Same H H' → ShQ K H' r (x + y) → Q r H'
theorem ok_p_plus (T : Tx K mg A) : FnOk P w K mg base CX0 2 A.f_p_plus A.fd_p_plus ["one", "other"] (sp_p_plus K) := by
  refine T.F_p_plus.ok sc_p_plus (fun vs H Q E h => ?_) (fun cdv Ar outer s H vs Q E hr h => ?_)
  · obtain ⟨v, v', x, y, n, m, rfl, _⟩ := h
    rfl
  · obtain ⟨_, _, x, y, n, m, rfl, ⟨a, rfl, ha⟩, ⟨b, rfl, hb⟩, bx, bY, hn, hm, q⟩ := h
    refine ⟨_, (pss_cons (ps_asg (pv 0) (pg_tup rfl (pgs_cons (pg_name (i := 2) sc_p_plus.nd rfl (.inl rfl)) (pgs_cons (pg_name (i := 3) sc_p_plus.nd rfl (.inl rfl)) pgs_nil))))
    (pss_cons (ps_asg (pv 1) (pg_tup rfl (pgs_cons (pg_name (i := 4) sc_p_plus.nd rfl (.inl rfl)) (pgs_cons (pg_name (i := 5) sc_p_plus.nd rfl (.inl rfl)) pgs_nil))))
    (pss_cons (ps_set (i := 6) sc_p_plus.nd rfl (.inl rfl) (pe_call (ok_p_common_divisor T) (hr.mono (by decide)) (by rfl) T.g_p_common_divisor T.F_p_common_divisor.kp T.b_p_common_divisor .nil pass0 (pa_cons (pv 3) (pa_cons (pv 5) pa_nil))))
    (pss_cons (ps_if (pt_cmpR op_eq (pv 6) pe_int (nomark _))
      (pss_one (ps_ret (pe_tup (pa_cons (pe_op op_add (pe_op op_mulW (pv 2) (pv 5)) (pe_op op_mulW (pv 4) (pv 3))) (pa_cons (pe_op op_mulW (pv 3) (pv 5)) pa_nil)))))
      pss_nil)
    (pss_cons (ps_set (i := 7) sc_p_plus.nd rfl (.inl rfl) (pe_op op_add (pe_op op_mulW (pv 2) (pe_op op_fdivW (pv 5) (pv 6))) (pe_op op_mulW (pv 4) (pe_op op_fdivW (pv 3) (pv 6)))))
    (pss_cons (ps_set (i := 8) sc_p_plus.nd rfl (.inl rfl) (pe_call (ok_p_common_divisor T) (hr.mono (by decide)) (by rfl) T.g_p_common_divisor T.F_p_common_divisor.kp T.b_p_common_divisor .nil pass0 (pa_cons (pv 7) (pa_cons (pv 6) pa_nil))))
    (pss_one (ps_ret (pe_tup (pa_cons (pe_op op_fdivW (pv 7) (pv 8)) (pa_cons (pe_op op_mulW (pe_op op_fdivW (pv 3) (pv 6)) (pe_op op_fdivW (pv 5) (pv 8))) pa_nil))))))))))), ?_⟩
    have hx := isSh_q x
    have hy := isSh_q y
    have dx := den_pos x
    have dy := den_pos y
    refine ⟨_, rfl, a, _, rfl, ha, rfl, _, _, rfl, _, _, rfl, rfl, ?_⟩
    refine ⟨_, rfl, b, _, rfl, hb, rfl, _, _, rfl, _, _, rfl, rfl, ?_⟩
    refine ⟨_, rfl, _, rfl, (x.den : Int), (y.den : Int), rfl, bY.2.le hm, ?_⟩
    refine ⟨_, rfl, rfl, _, rfl, ite2 (fun e => ?_) (fun e => ?_)⟩
    · have e1 : gcdI x.den y.den = 1 := V.int.inj (of_decide_eq_true e)
      refine ⟨_, rfl, _, rfl, x.num, (y.den : Int), rfl, rfl, bx.1.mulW bY.2 (by omega) (by omega), _, rfl, _, rfl, y.num, (x.den : Int), rfl, rfl, bY.1.mulW bx.2 (by omega) (by omega), _, _, rfl, rfl, _, rfl, _, rfl, (x.den : Int), (y.den : Int), rfl, rfl, bx.2.mulW bY.2 (by omega) (by omega), size63 (show 2 ≤ 1000 by decide), fun p hp => ?_⟩
      generalize hG : upd _ p _ = G
      obtain ⟨s, e⟩ := alloc hG hp
      refine q _ _ s ?_
      rw [add_divInt]
      exact shq_new e (plus_one hx hy e1) (by have := Int.mul_pos dx dy; omega) (Int.mul_comm _ _)
    · obtain ⟨d, hd⟩ : ∃ d, gcdI x.den y.den = d := ⟨_, rfl⟩
      rw [hd]
      have hdb : Bd m d := hd ▸ gcdI_bd bY.2 (by omega)
      have hd0 : 0 < d := hd ▸ gcdI_pos (by omega)
      have db1 : Bd m (y.den / d) := bY.2.of_le (div_natAbs_le hd0 (hd ▸ gcdI_dvd_r _ _))
      have db2 : Bd n (x.den / d) := bx.2.of_le (div_natAbs_le hd0 (hd ▸ gcdI_dvd_l _ _))
      refine ⟨_, rfl, _, rfl, _, rfl, (y.den : Int), d, rfl, rfl, hdb.divW hd0 (by omega), x.num, _, rfl, rfl, bx.1.mulW db1 (by omega) (by omega), _, rfl, _, rfl, _, rfl, (x.den : Int), d, rfl, rfl, hdb.divW hd0 (by omega), y.num, _, rfl, rfl, bY.1.mulW db2 (by omega) (by omega), _, _, rfl, rfl, ?_⟩
      refine ⟨_, rfl, _, rfl, _, d, rfl, hdb.le hm, ?_⟩
      obtain ⟨g, hg⟩ : ∃ g, gcdI (x.num * (y.den / d) + y.num * (x.den / d)) d = g := ⟨_, rfl⟩
      rw [hg]
      have hg0 : 0 < g := hg ▸ gcdI_pos (by omega)
      have hgb : Bd m g := hg ▸ gcdI_bd hdb (by omega)
      have db3 : Bd m (y.den / g) := bY.2.of_le (div_natAbs_le hg0 (Int.dvd_trans (hg ▸ gcdI_dvd_r _ _) (hd ▸ gcdI_dvd_r _ _)))
      refine ⟨_, rfl, _, rfl, _, g, rfl, rfl, hgb.divW hg0 (by omega), _, rfl, _, rfl, (x.den : Int), d, rfl, rfl, hdb.divW hd0 (by omega), _, rfl, _, rfl, (y.den : Int), g, rfl, rfl, hgb.divW hg0 (by omega), _, _, rfl, rfl, db2.mulW db3 (by omega) (by omega), size63 (show 2 ≤ 1000 by decide), fun p hp => ?_⟩
      generalize hG : upd _ p _ = G
      obtain ⟨s, e⟩ := alloc hG hp
      refine q _ _ s ?_
      rw [add_divInt]
      obtain ⟨h1, h2⟩ := plus_two hx hy hd rfl hg
      exact shq_new e h1 (by have := Int.mul_pos dx dy; omega) h2
/-! ### the product -/
def sp_p_times (K : PySem.W.Frag) : Sp := fun vs H Q _ => ∃ (v v' : V) (x y : Rat) (n m : Nat), vs = [v, v'] ∧ ShQ K H v x ∧ ShQ K H v' y ∧ BdQ n x ∧ BdQ m y ∧ n ≤ 4000 ∧ m ≤ 4000 ∧ ∀ H' r, Same H H' → ShQ K H' r (x * y) → Q r H'
theorem ok_p_times (T : Tx K mg A) : FnOk P w K mg base CX0 2 A.f_p_times A.fd_p_times ["one", "other"] (sp_p_times K) := by
  refine T.F_p_times.ok sc_p_times (fun vs H Q E h => ?_) (fun cdv Ar outer s H vs Q E hr h => ?_)
  · obtain ⟨v, v', x, y, n, m, rfl, _⟩ := h
    rfl
  · obtain ⟨_, _, x, y, n, m, rfl, ⟨a, rfl, ha⟩, ⟨b, rfl, hb⟩, bx, bY, hn, hm, q⟩ := h
    refine ⟨_, (pss_cons (ps_asg (pv 0) (pg_tup rfl (pgs_cons (pg_name (i := 2) sc_p_times.nd rfl (.inl rfl)) (pgs_cons (pg_name (i := 3) sc_p_times.nd rfl (.inl rfl)) pgs_nil))))
    (pss_cons (ps_asg (pv 1) (pg_tup rfl (pgs_cons (pg_name (i := 4) sc_p_times.nd rfl (.inl rfl)) (pgs_cons (pg_name (i := 5) sc_p_times.nd rfl (.inl rfl)) pgs_nil))))
    (pss_cons (ps_set (i := 6) sc_p_times.nd rfl (.inl rfl) (pe_call (ok_p_common_divisor T) (hr.mono (by decide)) (by rfl) T.g_p_common_divisor T.F_p_common_divisor.kp T.b_p_common_divisor .nil pass0 (pa_cons (pv 2) (pa_cons (pv 5) pa_nil))))
    (pss_cons (ps_set (i := 7) sc_p_times.nd rfl (.inl rfl) (pe_call (ok_p_common_divisor T) (hr.mono (by decide)) (by rfl) T.g_p_common_divisor T.F_p_common_divisor.kp T.b_p_common_divisor .nil pass0 (pa_cons (pv 4) (pa_cons (pv 3) pa_nil))))
    (pss_one (ps_ret (pe_tup (pa_cons (pe_op op_mulW (pe_op op_fdivW (pv 2) (pv 6)) (pe_op op_fdivW (pv 4) (pv 7))) (pa_cons (pe_op op_mulW (pe_op op_fdivW (pv 3) (pv 7)) (pe_op op_fdivW (pv 5) (pv 6))) pa_nil))))))))), ?_⟩
    have hx := isSh_q x
    have hy := isSh_q y
    have dx := den_pos x
    have dy := den_pos y
    refine ⟨_, rfl, a, _, rfl, ha, rfl, _, _, rfl, _, _, rfl, rfl, ?_⟩
    refine ⟨_, rfl, b, _, rfl, hb, rfl, _, _, rfl, _, _, rfl, rfl, ?_⟩
    refine ⟨_, rfl, _, rfl, x.num, (y.den : Int), rfl, bY.2.le hm, ?_⟩
    refine ⟨_, rfl, _, rfl, y.num, (x.den : Int), rfl, bx.2.le hn, ?_⟩
    obtain ⟨d, hd⟩ : ∃ d, gcdI x.num y.den = d := ⟨_, rfl⟩
    obtain ⟨e, he⟩ : ∃ e, gcdI y.num x.den = e := ⟨_, rfl⟩
    rw [hd, he]
    have hd0 : 0 < d := hd ▸ gcdI_pos (by omega)
    have he0 : 0 < e := he ▸ gcdI_pos (by omega)
    have hdb : Bd m d := hd ▸ gcdI_bd bY.2 (by omega)
    have heb : Bd n e := he ▸ gcdI_bd bx.2 (by omega)
    have b1 : Bd n (x.num / d) := bx.1.of_le (div_natAbs_le hd0 (hd ▸ gcdI_dvd_l _ _))
    have b2 : Bd m (y.num / e) := bY.1.of_le (div_natAbs_le he0 (he ▸ gcdI_dvd_l _ _))
    have b3 : Bd n (x.den / e) := bx.2.of_le (div_natAbs_le he0 (he ▸ gcdI_dvd_r _ _))
    have b4 : Bd m (y.den / d) := bY.2.of_le (div_natAbs_le hd0 (hd ▸ gcdI_dvd_r _ _))
    refine ⟨_, rfl, _, rfl, x.num, d, rfl, rfl, hdb.divW hd0 (by omega), _, rfl, _, rfl, y.num, e, rfl, rfl, heb.divW he0 (by omega), _, _, rfl, rfl, b1.mulW b2 (by omega) (by omega), _, rfl, _, rfl, (x.den : Int), e, rfl, rfl, heb.divW he0 (by omega), _, rfl, _, rfl, (y.den : Int), d, rfl, rfl, hdb.divW hd0 (by omega), _, _, rfl, rfl, b3.mulW b4 (by omega) (by omega), size63 (show 2 ≤ 1000 by decide), fun p hp => ?_⟩
    generalize hG : upd _ p _ = G
    obtain ⟨s, e⟩ := alloc hG hp
    refine q _ _ s ?_
    rw [mul_divInt]
    obtain ⟨h1, h2⟩ := times_one hx hy hd he
    exact shq_new e h1 (by have := Int.mul_pos dx dy; omega) h2
/-! ### the difference -/
def sp_p_minus (K : PySem.W.Frag) : Sp := fun vs H Q _ => ∃ (v v' : V) (x y : Rat) (n m : Nat), vs = [v, v'] ∧ ShQ K H v x ∧ ShQ K H v' y ∧ BdQ n x ∧ BdQ m y ∧ n ≤ 4000 ∧ m ≤ 4000 ∧ ∀ H' r, Same H H' → ShQ K H' r (x - y) → Q r H'
theorem ok_p_minus (T : Tx K mg A) : FnOk P w K mg base CX0 3 A.f_p_minus A.fd_p_minus ["one", "other"] (sp_p_minus K) := by
  refine T.F_p_minus.ok sc_p_minus (fun vs H Q E h => ?_) (fun cdv Ar outer s H vs Q E hr h => ?_)
  · obtain ⟨v, v', x, y, n, m, rfl, _⟩ := h
    rfl
  · obtain ⟨v, _, x, y, n, m, rfl, hv, ⟨b, rfl, hb⟩, bx, bY, hn, hm, q⟩ := h
    refine ⟨_, (pss_cons (ps_asg (pv 1) (pg_tup rfl (pgs_cons (pg_name (i := 2) sc_p_minus.nd rfl (.inl rfl)) (pgs_cons (pg_name (i := 3) sc_p_minus.nd rfl (.inl rfl)) pgs_nil))))
    (pss_one (ps_ret (pe_call (ok_p_plus T) (hr.mono (by decide)) (by rfl) T.g_p_plus T.F_p_plus.kp T.b_p_plus .nil pass0 (pa_cons (pv 0) (pa_cons (pe_tup (pa_cons (pe_un un_neg (pv 2)) (pa_cons (pv 3) pa_nil))) pa_nil)))))), ?_⟩
    refine ⟨_, rfl, b, _, rfl, hb, rfl, _, _, rfl, _, _, rfl, rfl, ?_⟩
    refine ⟨_, rfl, _, rfl, y.num, rfl, _, rfl, size63 (show 2 ≤ 1000 by decide), fun p hp => ?_⟩
    generalize hG : upd _ p _ = G
    obtain ⟨s, e⟩ := alloc hG hp
    refine ⟨v, .ref p, x, -y, n, m, rfl, hv.keep s, ⟨p, rfl, .inl (.inl e)⟩, bx, bY.neg, hn, hm, fun H' r s' h' => q _ _ (s.trans s') ?_⟩
    rw [Rat.sub_eq_add_neg]
    exact h'

/-! ### things of any kind -/
inductive Tg (K : PySem.W.Frag) (H : Hp) : V → Prop
  | int (i : Int) (h : Bd 4000 i) : Tg K H (.int i)
  | bl (b : Bool) : Tg K H (.bl b)
  | tup {a : Addr} {xs : List V} : SqT K H a xs → (∀ x ∈ xs, Tg K H x) → Tg K H (.ref a)
  | other {v : V} (t : String) : TyX K H v (.type t) → kitB t "tuple" = some false → kitB t "int" = some false → Tg K H v
theorem TyX.keep {K : PySem.W.Frag} {H H' : Hp} {v : V} {t : Value} (h : TyX K H v t) (k : Same H H') : TyX K H' v t := by
  cases h with
  | base b =>
    cases b with
    | non => exact .base .non
    | bl x => exact .base (.bl x)
    | int i => exact .base (.int i)
    | str x => exact .base (.str x)
    | flt x => exact .base (.flt x)
    | lst e => exact .base (.lst (k _ _ e))
    | frz e => exact .base (.frz (k _ _ e))
    | tup e => exact .base (.tup (k _ _ e))
    | dK e => exact .base (.dK (k _ _ e))
    | dT e => exact .base (.dT (k _ _ e))
    | ins e cl ha hn htk hm => exact .base (.ins (k _ _ e) cl ha hn htk hm)
  | byt b => exact .byt b
  | set e => exact .set (k _ _ e)
  | kList e c => exact .kList e c
  | kTuple e c => exact .kTuple e c
  | kDict e c => exact .kDict e c
  | fTuple e => exact .fTuple (k _ _ e)
  | fDict e => exact .fDict (k _ _ e)
theorem Tg.keep {K : PySem.W.Frag} {H H' : Hp} {v : V} (h : Tg K H v) (k : Same H H') : Tg K H' v := by
  induction h with
  | int i h => exact .int i h
  | bl b => exact .bl b
  | tup s _ ih => exact .tup (Same.seqT k s) ih
  | other t h1 h2 h3 => exact .other t (TyX.keep h1 k) h2 h3
theorem Tg.str {K : PySem.W.Frag} {H : Hp} (x : Str) : Tg K H (.str x) := .other "str" (.base (.str x)) (by decide +kernel) (by decide +kernel)
theorem Tg.non {K : PySem.W.Frag} {H : Hp} : Tg K H .non := .other "NoneType" (.base .non) (by decide +kernel) (by decide +kernel)
theorem Tg.lst {K : PySem.W.Frag} {H : Hp} {a : Addr} {xs : List V} (e : H a = some (.lst xs)) : Tg K H (.ref a) := .other "list" (.base (.lst e)) (by decide +kernel) (by decide +kernel)
theorem Tg.dK {K : PySem.W.Frag} {H : Hp} {a : Addr} {kvs : List (Key × V)} (e : H a = some (.dK kvs)) : Tg K H (.ref a) := .other "dict" (.base (.dK e)) (by decide +kernel) (by decide +kernel)
theorem Tg.shq {K : PySem.W.Frag} {H : Hp} {v : V} {x : Int × Int} (h : ShAt K H v x) (b1 : Bd 4000 x.1) (b2 : Bd 4000 x.2) : Tg K H v := by
  obtain ⟨a, rfl, h⟩ := h
  refine .tup h fun y hy => ?_
  simp only [List.mem_cons, List.not_mem_nil, or_false] at hy
  rcases hy with rfl | rfl
  · exact .int _ b1
  · exact .int _ b2
theorem Tg.bd {K : PySem.W.Frag} {H : Hp} {i : Int} (h : Tg K H (.int i)) : Bd 4000 i := by
  cases h with
  | int _ h => exact h
  | other t h1 h2 h3 =>
    cases h1 with
    | base b => cases b; exact absurd h3 (by decide +kernel)
/-- an expression that gives a thing, and lets all that stood stand -/
def Thg (K : PySem.W.Frag) (H0 : Hp) (σ : L2.St) (t : TE) : Prop := ∀ H Q, Same H0 H → (∀ v H', Same H H' → Tg K H' v → Q v H') → t σ H Q
def ThgA (K : PySem.W.Frag) (H0 : Hp) (σ : L2.St) (t : TA) (n : Nat) : Prop := ∀ H Q, Same H0 H → (∀ vs H', Same H H' → vs.length = n → (∀ v ∈ vs, Tg K H' v) → Q vs H') → t σ H Q
def IntE (H0 : Hp) (σ : L2.St) (t : TE) (n : Nat) : Prop := ∀ H Q, Same H0 H → (∀ i, Bd n i → Q (.int i) H) → t σ H Q
section
variable {K : PySem.W.Frag} {H0 : Hp} {σ : L2.St} {t t' : TE} {ta : TA} {n m : Nat}
theorem tg_var {i : Nat} {v : V} (g : Tg K H0 v) (h : σ[i]? = some (some v) := by rfl) : Thg K H0 σ (tVar i) := fun H _ s q => ⟨v, h, q v H (Same.refl _) (g.keep s)⟩
theorem tg_c {v : V} (g : ∀ H, Tg K H v) : Thg K H0 σ (tC v) := fun H _ _ q => q v H (Same.refl _) (g H)
theorem tgA_nil : ThgA K H0 σ tNil 0 := fun H _ _ q => q [] H (Same.refl _) rfl (fun _ h => by cases h)
theorem tgA_cons (h : Thg K H0 σ t) (r : ThgA K H0 σ ta n) : ThgA K H0 σ (tCons t ta) (n + 1) := fun H Q s q => h H _ s fun v H1 s1 g1 => r H1 _ (s.trans s1) fun vs H2 s2 hl g2 => q (v :: vs) H2 (s1.trans s2) (by rw [List.length_cons, hl]) (fun x hx => by
  rcases List.mem_cons.mp hx with rfl | hx
  · exact g1.keep s2
  · exact g2 x hx)
theorem tg_tup (h : ThgA K H0 σ ta n) (hn : n ≤ 1000) : Thg K H0 σ (tTup ta) := fun H Q s q => h H _ s fun vs H1 s1 hl g => ⟨size63 (by omega), fun p hp => q _ _ (s1.trans (same_upd hp)) (.tup (.inl (.inl upd_same)) fun x hx => (g x hx).keep (same_upd hp))⟩
theorem tg_lst (h : ThgA K H0 σ ta n) (hn : n ≤ 1000) : Thg K H0 σ (tLst ta) := fun H Q s q => h H _ s fun vs H1 s1 hl g => ⟨size63 (by omega), fun p hp => q _ _ (s1.trans (same_upd hp)) (.lst upd_same)⟩
theorem tg_int (h : IntE H0 σ t n) (hn : n ≤ 4000 := by decide) : Thg K H0 σ t := fun H Q s q => h H _ s fun i hi => q _ _ (Same.refl _) (.int i (hi.le hn))
theorem tg_str {c : List V → Hp → VK → Prop} (hc : ∀ i H Q, i.natAbs.log2 < 1920 → (∀ x, Q (.str x) H) → c [.int i] H Q) (h : IntE H0 σ t n) (hn : n < 1900) : Thg K H0 σ (tCB c (tCons t tNil)) := fun H Q s q => h H _ s fun i hi => hc i H _ (Nat.lt_of_lt_of_le (log2_lt (k := n + 1) (hi.le (Nat.le_succ _)) (by omega)) (by omega)) fun x => q _ _ (Same.refl _) (.str x)
theorem tg_list {c : List V → Hp → VK → Prop} {i : Nat} {a : Addr} {xs : List V} (hc : ∀ H Q, SqT K H a xs → (∀ l, H l = none → Q (.ref l) (upd H l (.lst xs))) → c [.ref a] H Q) (g : SqT K H0 a xs) (h : σ[i]? = some (some (.ref a)) := by rfl) : Thg K H0 σ (tCB c (tCons (tVar i) tNil)) := fun H Q s q => ⟨_, h, hc H _ (Same.seqT s g) fun l hl => q _ _ (same_upd hl) (.lst upd_same)⟩
theorem tg_dnew : Thg K H0 σ tDNewK := fun H Q _ q d hd => q _ _ (same_upd hd) (.dK upd_same)
theorem tg_disp {trs : List (TE × TE)} (h : ∀ H Q, Same H0 H → (∀ (kvs : List (Key × V)) H', kvs.length ≤ 15 → Same H H' → Q (kvs.map fun kv => (kV kv.1, kv.2)) H') → tPairs trs σ H Q) : Thg K H0 σ (tDisp trs) := fun H Q s q p hp => h _ _ (s.trans (same_upd hp)) fun kvs H' hl s' => ⟨s' _ _ upd_same, kvs, rfl, hl, q _ _ (fun b o e => by
  rw [upd_ne (ne_of_none e hp)]
  exact s' _ _ (same_upd hp _ _ e)) (.dK upd_same)⟩
theorem tg_cat1 {i : Nat} {a : Addr} {xs : List V} {k : Int} (g : SqT K H0 a xs) (hg : ∀ x ∈ xs, Tg K H0 x) (hx : xs ≠ []) (hl : xs.length ≤ 100) (hk : Bd 4000 k := by unfold Bd; decide +kernel) (h : σ[i]? = some (some (.ref a)) := by rfl) : Thg K H0 σ (tOp (rCatT K) (tVar i) (tTup (tCons (tC (.int k)) tNil))) := fun H Q s q => ⟨_, h, size63 (show 1 ≤ 1000 by decide), fun p hp => ⟨a, p, xs, [.int k], rfl, rfl, Same.seqT (s.trans (same_upd hp)) g, .inl (.inl upd_same), hx, size63 (by show xs.length + 1 ≤ 1000; omega), (fun z => by cases z), fun _ p2 hp2 => q _ _ ((same_upd hp).trans (same_upd hp2)) (.tup (.inl (.inl upd_same)) fun x hx => by
  rcases List.mem_append.mp hx with hx | hx
  · exact (hg x hx).keep ((s.trans (same_upd hp)).trans (same_upd hp2))
  · rw [List.mem_singleton.mp hx]; exact .int _ hk)⟩⟩
theorem tg_cut1 {i : Nat} {a : Addr} {x y : V} (g : SqT K H0 a [x, y]) (hx : Tg K H0 x) (h : σ[i]? = some (some (.ref a)) := by rfl) : Thg K H0 σ (tSl (rSlT K) (tVar i) tNoPart (tPart (tC (.int 1)))) := fun H Q s q => ⟨_, h, 1, rfl, a, [x, y], rfl, Same.seqT s g, (fun z => by cases z.2), fun p hp => q _ _ (same_upd hp) (.tup (xs := [x]) (.inl (.inl upd_same)) fun z hz => by
  rw [List.mem_singleton.mp hz]
  exact hx.keep (s.trans (same_upd hp)))⟩
theorem int_var {i : Nat} {k : Int} (hb : Bd n k) (h : σ[i]? = some (some (.int k)) := by rfl) : IntE H0 σ (tVar i) n := fun H Q _ q => ⟨_, h, q k hb⟩
theorem int_c {k : Int} (hb : Bd n k) : IntE H0 σ (tC (.int k)) n := fun H Q _ q => q k hb
theorem int_neg (h : IntE H0 σ t n) : IntE H0 σ (tUn (rU fun i => .int (-i)) t) n := fun H Q s q => h H _ s fun i hi => ⟨i, rfl, q _ hi.neg⟩
theorem int_mul (h : IntE H0 σ t n) (g : IntE H0 σ t' m) (hn : n ≤ 400000 := by decide) (hm : m ≤ 400000 := by decide) : IntE H0 σ (tOp (rI CMulW fun i j => .int (i * j)) t t') (n + m) := fun H Q s q => h H _ s fun i hi => g H _ s fun j hj => ⟨i, j, rfl, rfl, hi.mulW hj hn hm, q _ (hi.mul hj)⟩
theorem int_add (h : IntE H0 σ t n) (g : IntE H0 σ t' n) : IntE H0 σ (tOp (rI0 fun i j => .int (i + j)) t t') (n + 1) := fun H Q s q => h H _ s fun i hi => g H _ s fun j hj => ⟨i, j, rfl, rfl, q _ (hi.add hj)⟩
theorem int_sub (h : IntE H0 σ t n) (g : IntE H0 σ t' n) : IntE H0 σ (tOp (rI0 fun i j => .int (i - j)) t t') (n + 1) := fun H Q s q => h H _ s fun i hi => g H _ s fun j hj => ⟨i, j, rfl, rfl, q _ (by rw [Int.sub_eq_add_neg]; exact hi.add hj.neg)⟩
theorem int_le (h : IntE H0 σ t n) (l : n ≤ m) : IntE H0 σ t m := fun H Q s q => h H _ s fun i hi => q i (hi.le l)
theorem int_ix {i : Nat} {a : Addr} {xs : List V} {j k : Int} (g : SqT K H0 a xs) (e : atI xs j = some (.int k)) (hb : Bd n k) (h : σ[i]? = some (some (.ref a)) := by rfl) : IntE H0 σ (tOp (rIxT K) (tVar i) (tC (.int j))) n := fun H Q s q => ⟨_, h, a, xs, j, _, rfl, rfl, Same.seqT s g, e, q k hb⟩
end
section
variable {K : PySem.W.Frag} {H0 H : Hp} {σ : L2.St} {ta : TA} {n : Nat} {g : TG} {D : Ends}
theorem asg_lst (hn : n ≤ 100) (s : Same H0 H) (q : ∀ us p H', Same H H' → H' p = some (.lst us) → us.length = n → (∀ v ∈ us, Tg K H' v) → g (.ref p) σ H' D.nx) (h : ThgA K H0 σ ta n) : tAsg (tLst ta) g D σ H :=
  h H _ s fun us H1 s1 hl gs => ⟨size63 (by omega), fun p hp => q us p _ (s1.trans (same_upd hp)) upd_same hl fun v hv => (gs v hv).keep (same_upd hp)⟩
theorem asg_cat {j : Nat} {l : Addr} {xs : List V} (hn : n ≤ 100) (s : Same H0 H) (hl : H l = some (.lst xs)) (hx : xs.length ≤ 500) (q : ∀ us p H', Same H H' → H' p = some (.lst (xs ++ us)) → us.length = n → (∀ v ∈ us, Tg K H' v) → g (.ref p) σ H' D.nx) (h : ThgA K H0 σ ta n) (hj : σ[j]? = some (some (.ref l)) := by rfl) : tAsg (tOp rCat (tVar j) (tLst ta)) g D σ H :=
  ⟨_, hj, h H _ s fun us H1 s1 hl1 gs => ⟨size63 (by omega), fun p hp => ⟨l, p, xs, us, rfl, rfl, same_upd hp _ _ (s1 _ _ hl), upd_same, size63 (by omega), fun p2 hp2 => q us p2 _ ((s1.trans (same_upd hp)).trans (same_upd hp2)) upd_same hl1 fun v hv => (gs v hv).keep ((same_upd hp).trans (same_upd hp2))⟩⟩⟩
theorem ret_cat {j : Nat} {l : Addr} {xs : List V} (hn : n ≤ 100) (s : Same H0 H) (hl : H l = some (.lst xs)) (hx : xs.length ≤ 500) (q : ∀ us p H', Same H H' → H' p = some (.lst (xs ++ us)) → us.length = n → (∀ v ∈ us, Tg K H' v) → D.rt (.ref p) H') (h : ThgA K H0 σ ta n) (hj : σ[j]? = some (some (.ref l)) := by rfl) : tRet (tOp rCat (tVar j) (tLst ta)) D σ H :=
  ⟨_, hj, h H _ s fun us H1 s1 hl1 gs => ⟨size63 (by omega), fun p hp => ⟨l, p, xs, us, rfl, rfl, same_upd hp _ _ (s1 _ _ hl), upd_same, size63 (by omega), fun p2 hp2 => q us p2 _ ((s1.trans (same_upd hp)).trans (same_upd hp2)) upd_same hl1 fun v hv => (gs v hv).keep ((same_upd hp).trans (same_upd hp2))⟩⟩⟩
end
theorem all_app {K : PySem.W.Frag} {H : Hp} {xs ys : List V} (h : ∀ u ∈ xs, Tg K H u) (g : ∀ u ∈ ys, Tg K H u) : ∀ u ∈ xs ++ ys, Tg K H u := fun u hu => by
  rcases List.mem_append.mp hu with hu | hu
  · exact h u hu
  · exact g u hu
theorem all_keep {K : PySem.W.Frag} {H H' : Hp} {xs : List V} (h : ∀ u ∈ xs, Tg K H u) (k : Same H H') : ∀ u ∈ xs, Tg K H' u := fun u hu => (h u hu).keep k
/-- whole numbers among the things -/
def isW : V → Bool
  | .int _ => true
  | _ => false
def sp_p_is_whole (K : PySem.W.Frag) : Sp := fun vs H Q _ => ∃ v, vs = [v] ∧ Tg K H v ∧ Q (.bl (isW v)) H
theorem ok_p_is_whole (T : Tx K mg A) : FnOk P w K mg base CX0 1 A.f_p_is_whole A.fd_p_is_whole ["thing"] (sp_p_is_whole K) := by
  refine T.F_p_is_whole.ok sc_p_is_whole (fun vs H Q E h => ?_) (fun cdv Ar outer s H vs Q E hr h => ?_)
  · obtain ⟨v, rfl, _⟩ := h
    rfl
  · obtain ⟨v, rfl, hv, q⟩ := h
    refine ⟨_, (pss_one (ps_ret (pe_and (pe_callB call_isi (by rfl) T.m_isinstance (by decide +kernel) (pa_cons (pv 0) (pa_cons (pe_bltn (v := .ty "int") (by rfl) T.m_int (by decide +kernel) rfl) pa_nil))) (pe_one (pe_not (pe_callB call_isi (by rfl) T.m_isinstance (by decide +kernel) (pa_cons (pv 0) (pa_cons (pe_bltn (v := .ty "bool") (by rfl) T.m_bool (by decide +kernel) rfl) pa_nil)))))))), ?_⟩
    cases hv with
    | int i _ => exact ⟨_, rfl, _, _, _, _, true, rfl, .ty _, .base (.int i), kit_ty (by decide +kernel), true, rfl, iteT ⟨_, rfl, _, _, _, _, false, rfl, .ty _, .base (.int i), kit_ty (by decide +kernel), false, rfl, q⟩⟩
    | bl b => exact ⟨_, rfl, _, _, _, _, true, rfl, .ty _, .base (.bl b), kit_ty (by decide +kernel), true, rfl, iteT ⟨_, rfl, _, _, _, _, true, rfl, .ty _, .base (.bl b), kit_ty (by decide +kernel), true, rfl, q⟩⟩
    | tup s _ => exact ⟨_, rfl, _, _, _, _, false, rfl, .ty _, ty_tup s, kit_ty (by decide +kernel), false, rfl, iteF q⟩
    | other t h1 h2 h3 =>
      have e : isW v = false := by
        cases v with
        | int i =>
          cases h1 with
          | base b => cases b; exact absurd h3 (by decide +kernel)
        | _ => rfl
      rw [e] at q
      exact ⟨_, rfl, _, _, _, _, false, rfl, .ty _, h1, kit_ty h3, false, rfl, iteF q⟩
/-- whether a thing is a share -/
inductive ShB (K : PySem.W.Frag) (H : Hp) : V → Bool → Prop
  | notup {v : V} {t : String} : TyX K H v (.type t) → kitB t "tuple" = some false → ShB K H v false
  | count {a : Addr} {xs : List V} : SqT K H a xs → xs.length ≠ 2 → ShB K H (.ref a) false
  | parts {a : Addr} {x y : V} : SqT K H a [x, y] → Tg K H x → Tg K H y → (isW x && isW y) = false → ShB K H (.ref a) false
  | nums {a : Addr} {t u : Int} : SqT K H a [.int t, .int u] → Bd 4000 t → Bd 4000 u → ShB K H (.ref a) (decide (IsSh t u))
theorem isW_int {v : V} (h : isW v = true) : ∃ i, v = .int i := by
  cases v with
  | int i => exact ⟨i, rfl⟩
  | _ => cases h
theorem Tg.pair {K : PySem.W.Frag} {H : Hp} {xs : List V} (h : ∀ x ∈ xs, Tg K H x) (hl : xs.length = 2) : ∃ x y, xs = [x, y] ∧ Tg K H x ∧ Tg K H y := by
  match xs, hl with
  | [x, y], _ => exact ⟨x, y, rfl, h x List.mem_cons_self, h y (List.mem_cons_of_mem _ List.mem_cons_self)⟩
theorem Tg.shB {K : PySem.W.Frag} {H : Hp} {v : V} (h : Tg K H v) : ∃ r, ShB K H v r := by
  cases h with
  | int i _ => exact ⟨_, .notup (.base (.int i)) (by decide +kernel)⟩
  | bl b => exact ⟨_, .notup (.base (.bl b)) (by decide +kernel)⟩
  | other t h1 h2 h3 => exact ⟨_, .notup h1 h2⟩
  | @tup a xs s g =>
    by_cases hl : xs.length = 2
    · obtain ⟨x, y, rfl, hx, hy⟩ := Tg.pair g hl
      by_cases hw : (isW x && isW y) = true
      · obtain ⟨h1, h2⟩ := Bool.and_eq_true_iff.mp hw
        obtain ⟨i, rfl⟩ := isW_int h1
        obtain ⟨j, rfl⟩ := isW_int h2
        exact ⟨_, .nums s hx.bd hy.bd⟩
      · exact ⟨_, .parts s hx hy (Bool.eq_false_iff.mpr hw)⟩
    · exact ⟨_, .count s hl⟩
theorem ne_two {n : Nat} (h : n ≠ 2) : (!decide (V.int (n : Int) = V.int 2)) = true := by
  rw [decide_eq_false (fun z => h (by have := V.int.inj z; omega))]
  rfl
def sp_shB (K : PySem.W.Frag) : Sp := fun vs H Q _ => ∃ v r, vs = [v] ∧ ShB K H v r ∧ Q (.bl r) H
theorem ok_p_is_share (T : Tx K mg A) : FnOk P w K mg base CX0 2 A.f_p_is_share A.fd_p_is_share ["thing"] (sp_shB K) := by
  refine T.F_p_is_share.ok sc_p_is_share (fun vs H Q E h => ?_) (fun cdv Ar outer s H vs Q E hr h => ?_)
  · obtain ⟨v, r, rfl, _⟩ := h
    rfl
  · obtain ⟨v, r, rfl, hv, q⟩ := h
    refine ⟨_, (pss_cons (ps_if (PW.pt (pw_or (pt_not (pt_val (pe_callB call_isi (by rfl) T.m_isinstance (by decide +kernel) (pa_cons (pv 0) (pa_cons (pe_bltn (v := .ty "tuple") (by rfl) T.m_tuple (by decide +kernel) rfl) pa_nil))))) (pw_or1 (pt_cmpR op_ne (pe_callB call_len_seq (by rfl) T.m_len (by decide +kernel) (pa_cons (pv 0) pa_nil)) pe_int (nomark _)))))
      (pss_one (ps_ret pe_bl))
      pss_nil)
    (pss_cons (ps_asg (pv 0) (pg_tup rfl (pgs_cons (pg_name (i := 1) sc_p_is_share.nd rfl (.inl rfl)) (pgs_cons (pg_name (i := 2) sc_p_is_share.nd rfl (.inl rfl)) pgs_nil))))
    (pss_cons (ps_if (PW.pt (pw_or (pt_not (pt_val (pe_call (ok_p_is_whole T) (hr.mono (by decide)) (by rfl) T.g_p_is_whole T.F_p_is_whole.kp T.b_p_is_whole .nil pass0 (pa_cons (pv 1) pa_nil)))) (pw_or1 (pt_not (pt_val (pe_call (ok_p_is_whole T) (hr.mono (by decide)) (by rfl) T.g_p_is_whole T.F_p_is_whole.kp T.b_p_is_whole .nil pass0 (pa_cons (pv 2) pa_nil)))))))
      (pss_one (ps_ret pe_bl))
      pss_nil)
    (pss_one (ps_ret (pe_and (pe_cmpR op_ge (pv 2) pe_int (nomark _)) (pe_one (pe_cmpR op_eq (pe_call (ok_p_common_divisor T) (hr.mono (by decide)) (by rfl) T.g_p_common_divisor T.F_p_common_divisor.kp T.b_p_common_divisor .nil pass0 (pa_cons (pv 1) (pa_cons (pv 2) pa_nil))) pe_int (nomark _))))))))), ?_⟩
    cases hv with
    | notup h1 h2 => exact ⟨_, rfl, _, _, _, _, false, rfl, .ty _, h1, kit_ty h2, false, rfl, iteT q⟩
    | count hs hl =>
      refine ⟨_, rfl, _, _, _, _, true, rfl, .ty _, ty_tup hs, kit_ty (by decide +kernel), true, rfl, iteF ⟨_, rfl, _, _, rfl, .inr hs, rfl, _, rfl, ?_⟩⟩
      rw [ne_two hl]
      exact q
    | parts hs hx hy hw =>
      refine ⟨_, rfl, _, _, _, _, true, rfl, .ty _, ty_tup hs, kit_ty (by decide +kernel), true, rfl, iteF ⟨_, rfl, _, _, rfl, .inr hs, rfl, _, rfl, iteF ⟨_, rfl, _, _, rfl, hs, rfl, _, _, rfl, _, _, rfl, rfl, ?_⟩⟩⟩
      refine ⟨_, rfl, _, rfl, hx, _, rfl, ?_⟩
      rename_i a x y
      cases e : isW x with
      | false => exact iteT q
      | true =>
        rw [e] at hw
        refine iteF ⟨_, rfl, _, rfl, hy, _, rfl, ?_⟩
        rw [show isW y = false from hw]
        exact iteT q
    | nums hs bt bu =>
      rename_i a t u
      refine ⟨_, rfl, _, _, _, _, true, rfl, .ty _, ty_tup hs, kit_ty (by decide +kernel), true, rfl, iteF ⟨_, rfl, _, _, rfl, .inr hs, rfl, _, rfl, iteF ⟨_, rfl, _, _, rfl, hs, rfl, _, _, rfl, _, _, rfl, rfl, ?_⟩⟩⟩
      refine ⟨_, rfl, _, rfl, .int t bt, _, rfl, iteF ⟨_, rfl, _, rfl, .int u bu, _, rfl, iteF ?_⟩⟩
      refine ⟨_, rfl, u, 1, rfl, rfl, _, rfl, ite2 (fun e => ?_) (fun e => ?_)⟩
      · refine ⟨_, rfl, _, rfl, t, u, rfl, bu, rfl, ?_⟩
        have e1 : 1 ≤ u := of_decide_eq_true e
        have : decide (V.int (gcdI t u) = V.int 1) = decide (IsSh t u) := decide_eq_decide.mpr ⟨fun z => ⟨e1, V.int.inj z⟩, fun z => congrArg V.int z.2⟩
        rw [this]
        exact q
      · have : decide (IsSh t u) = false := decide_eq_false fun z => e (decide_eq_true z.1)
        rw [this] at q
        exact q
theorem Tg.ty {K : PySem.W.Frag} {H : Hp} {v : V} (h : Tg K H v) : (∃ t, TyX K H v (.type t) ∧ kitB t "int" = some false ∧ isW v = false) ∨ ∃ t b, TyX K H v (.type t) ∧ kitB t "int" = some true ∧ kitB t "bool" = some b ∧ isW v = !b := by
  cases h with
  | int i _ => exact .inr ⟨"int", false, .base (.int i), by decide +kernel, by decide +kernel, rfl⟩
  | bl b => exact .inr ⟨"bool", true, .base (.bl b), by decide +kernel, by decide +kernel, rfl⟩
  | tup s _ => exact .inl ⟨"tuple", ty_tup s, by decide +kernel, rfl⟩
  | other t h1 h2 h3 =>
    refine .inl ⟨t, h1, h3, ?_⟩
    cases v with
    | int i =>
      cases h1 with
      | base b => cases b; exact absurd h3 (by decide +kernel)
    | _ => rfl
theorem ok_l_is_share (T : Tx K mg A) : FnOk P w K mg base CX0 2 A.f_l_is_share A.fd_l_is_share ["_law_thing"] (sp_shB K) := by
  refine T.F_l_is_share.ok sc_l_is_share (fun vs H Q E h => ?_) (fun cdv Ar outer s H vs Q E hr h => ?_)
  · obtain ⟨v, r, rfl, _⟩ := h
    rfl
  · obtain ⟨v, r, rfl, hv, q⟩ := h
    refine ⟨_, (pss_cons (ps_if (PW.pt (pw_or (pt_not (pt_val (pe_callB call_isi (by rfl) T.m_isinstance (by decide +kernel) (pa_cons (pv 0) (pa_cons (pe_bltn (v := .ty "tuple") (by rfl) T.m_tuple (by decide +kernel) rfl) pa_nil))))) (pw_or1 (pt_cmpR op_ne (pe_callB call_len_seq (by rfl) T.m_len (by decide +kernel) (pa_cons (pv 0) pa_nil)) pe_int (nomark _)))))
      (pss_one (ps_ret pe_bl))
      pss_nil)
    (pss_cons (ps_for PassesOwn.never rfl (pi_tup (pv 0)) (pg_name (i := 1) sc_l_is_share.nd rfl (.inl rfl))
      (pss_one (ps_if (PW.pt (pw_or (pt_not (pt_val (pe_callB call_isi (by rfl) T.m_isinstance (by decide +kernel) (pa_cons (pv 1) (pa_cons (pe_bltn (v := .ty "int") (by rfl) T.m_int (by decide +kernel) rfl) pa_nil))))) (pw_or1 (pt_val (pe_callB call_isi (by rfl) T.m_isinstance (by decide +kernel) (pa_cons (pv 1) (pa_cons (pe_bltn (v := .ty "bool") (by rfl) T.m_bool (by decide +kernel) rfl) pa_nil)))))))
      (pss_one (ps_ret pe_bl))
      pss_nil)))
    (pss_one (ps_ret (pe_and (pe_cmpR op_ge (pe_ix ix_tup (pv 0) pe_int (fun _ _ => rfl)) pe_int (nomark _)) (pe_one (pe_cmpR op_eq (pe_call (ok_l_gcd T) (hr.mono (by decide)) (by rfl) T.g_l_gcd T.F_l_gcd.kp T.b_l_gcd .nil pass0 (pa_cons (pe_ix ix_tup (pv 0) pe_int (fun _ _ => rfl)) (pa_cons (pe_ix ix_tup (pv 0) pe_int (fun _ _ => rfl)) pa_nil))) pe_int (nomark _)))))))), ?_⟩
    cases hv with
    | notup h1 h2 => exact ⟨_, rfl, _, _, _, _, false, rfl, .ty _, h1, kit_ty h2, false, rfl, iteT q⟩
    | count hs hl =>
      refine ⟨_, rfl, _, _, _, _, true, rfl, .ty _, ty_tup hs, kit_ty (by decide +kernel), true, rfl, iteF ⟨_, rfl, _, _, rfl, .inr hs, rfl, _, rfl, ?_⟩⟩
      rw [ne_two hl]
      exact q
    | @parts a x y hs hx hy hw =>
      refine ⟨_, rfl, _, _, _, _, true, rfl, .ty _, ty_tup hs, kit_ty (by decide +kernel), true, rfl, iteF ⟨_, rfl, _, _, rfl, .inr hs, rfl, _, rfl, iteF ?_⟩⟩
      refine ⟨_, rfl, a, rfl, ⟨_, hs⟩, for_tup (K := K) (a := a) (xs := [x, y]) (fun i σ H' => ∃ z, σ = [some (.ref a), z] ∧ H' = H ∧ ∀ j, j < i → ∀ u, [x, y][j]? = some u → isW u = true) ⟨_, rfl, rfl, fun j hj => absurd hj (Nat.not_lt_zero _)⟩ ?_ ?_ ?_⟩
      · rintro i σ H' _ ⟨z, _, rfl, _⟩
        exact hs
      · rintro i u σ H' hu ⟨z, rfl, rfl, hall⟩
        have hut : Tg K H' u := by
          match i, hu with
          | 0, e => cases e; exact hx
          | 1, e => cases e; exact hy
        rcases hut.ty with ⟨t, h1, h2, h3⟩ | ⟨t, b, h1, h2, h3, h4⟩
        · exact ⟨_, rfl, _, _, _, _, false, rfl, .ty _, h1, kit_ty h2, false, rfl, iteT q⟩
        · refine ⟨_, rfl, _, _, _, _, true, rfl, .ty _, h1, kit_ty h2, true, rfl, iteF ⟨_, rfl, _, _, _, _, b, rfl, .ty _, h1, kit_ty h3, b, rfl, ?_⟩⟩
          cases b with
          | true => exact iteT q
          | false =>
            refine iteF ⟨_, rfl, rfl, fun j hj w hw => ?_⟩
            rcases Nat.lt_succ_iff_lt_or_eq.mp hj with hj | rfl
            · exact hall j hj w hw
            · rw [hu] at hw
              cases hw
              exact h4
      · rintro σ H' ⟨z, rfl, rfl, hall⟩
        have w1 := hall 0 (show 0 < 2 by decide) x rfl
        have w2 := hall 1 (show 1 < 2 by decide) y rfl
        rw [w1, w2] at hw
        cases hw
    | @nums a t u hs bt bu =>
      refine ⟨_, rfl, _, _, _, _, true, rfl, .ty _, ty_tup hs, kit_ty (by decide +kernel), true, rfl, iteF ⟨_, rfl, _, _, rfl, .inr hs, rfl, _, rfl, iteF ?_⟩⟩
      refine ⟨_, rfl, a, rfl, ⟨_, hs⟩, for_tup (K := K) (a := a) (xs := [.int t, .int u]) (fun i σ H' => ∃ y, σ = [some (.ref a), y] ∧ H' = H) ⟨_, rfl, rfl⟩ ?_ ?_ ?_⟩
      · rintro i σ H' _ ⟨y, _, rfl⟩
        exact hs
      · rintro i x σ H' hx ⟨y, rfl, rfl⟩
        obtain ⟨z, rfl⟩ : ∃ z : Int, x = .int z := by
          match i, hx with
          | 0, e => exact ⟨t, (Option.some.inj e).symm⟩
          | 1, e => exact ⟨u, (Option.some.inj e).symm⟩
        refine ⟨_, rfl, _, _, _, _, true, rfl, .ty _, .base (.int z), kit_ty (by decide +kernel), true, rfl, iteF ⟨_, rfl, _, _, _, _, false, rfl, .ty _, .base (.int z), kit_ty (by decide +kernel), false, rfl, iteF ⟨_, rfl, rfl⟩⟩⟩
      · rintro σ H' ⟨y, rfl, rfl⟩
        refine ⟨_, rfl, a, _, 1, .int u, rfl, rfl, hs, rfl, u, 1, rfl, rfl, _, rfl, ite2 (fun e => ?_) (fun e => ?_)⟩
        · refine ⟨_, rfl, a, _, 0, .int t, rfl, rfl, hs, rfl, _, rfl, a, _, 1, .int u, rfl, rfl, hs, rfl, t, u, rfl, rfl, ?_⟩
          have e1 : 1 ≤ u := of_decide_eq_true e
          have : decide (V.int (gcdI t u) = V.int 1) = decide (IsSh t u) := decide_eq_decide.mpr ⟨fun z => ⟨e1, V.int.inj z⟩, fun z => congrArg V.int z.2⟩
          rw [this]
          exact q
        · have : decide (IsSh t u) = false := decide_eq_false fun z => e (decide_eq_true z.1)
          rw [this] at q
          exact q

/-! ### spots -/
def SpQ (K : PySem.W.Frag) (H : Hp) (v : V) (x y : Rat) : Prop := ∃ (a : Addr) (v1 v2 : V), v = .ref a ∧ SqT K H a [v1, v2] ∧ ShQ K H v1 x ∧ ShQ K H v2 y
theorem SpQ.keep {K : PySem.W.Frag} {H H' : Hp} {v : V} {x y : Rat} (h : SpQ K H v x y) (k : Same H H') : SpQ K H' v x y := by
  obtain ⟨a, v1, v2, e, h1, h2, h3⟩ := h
  exact ⟨a, v1, v2, e, Same.seqT k h1, ShAt.keep h2 k, ShAt.keep h3 k⟩
theorem SpQ.deck {K : PySem.W.Frag} {H H' : Hp} {v : V} {x y : Rat} {d b : Addr} {c : Int} (h : SpQ K H v x y) (D : Deck K H d b c) (k : Kp d b H H') : SpQ K H' v x y := by
  obtain ⟨a, v1, v2, e, h1, h2, h3⟩ := h
  exact ⟨a, v1, v2, e, D.seqT k h1, ShAt.deck h2 D k, ShAt.deck h3 D k⟩
def spD (x y : Rat) : PyData := .tuple [shD (qp x), shD (qp y)]
theorem SpQ.dp {K : PySem.W.Frag} {H : Hp} {v : V} {x y : Rat} (h : SpQ K H v x y) : Dp K H v (spD x y) := by
  obtain ⟨a, v1, v2, rfl, h1, h2, h3⟩ := h
  exact .tup h1 (.cons h2.dp (.cons h3.dp .nil))
theorem shaped_sp (x y : Rat) : SeqAt.shaped (spD x y) = true := rfl
theorem eqv_sp (x y : Rat) : PyData.eqv (spD x y) (spD x y) = true := SeqAt.eqv_refl _ rfl
theorem SpQ.tg {K : PySem.W.Frag} {H : Hp} {v : V} {x y : Rat} (h : SpQ K H v x y) (b1 : BdQ 4000 x) (b2 : BdQ 4000 y) : Tg K H v := by
  obtain ⟨a, v1, v2, rfl, h1, h2, h3⟩ := h
  refine .tup h1 fun z hz => ?_
  simp only [List.mem_cons, List.not_mem_nil, or_false] at hz
  rcases hz with rfl | rfl
  · exact Tg.shq h2 b1.1 b1.2
  · exact Tg.shq h3 b2.1 b2.2
theorem bdq_int {n : Nat} {p : Int} (h : Bd n p) (hn : 0 < n) : BdQ n (p : Rat) := ⟨h, Nat.one_lt_two_pow (by omega)⟩
def sp_along (K : PySem.W.Frag) (f : Int → Int → Rat → Rat → Rat) : Sp := fun vs H Q _ => ∃ (a : Addr) (v : V) (p q : Int) (x y : Rat) (n m : Nat), vs = [.ref a, v] ∧ SqT K H a [.int p, .int q] ∧ SpQ K H v x y ∧ Bd m p ∧ Bd m q ∧ BdQ n x ∧ BdQ n y ∧ 0 < m ∧ n ≤ 1500 ∧ m ≤ 1500 ∧ ∀ H' r, Same H H' → ShQ K H' r (f p q x y) → Q r H'
theorem ok_p_along (T : Tx K mg A) : FnOk P w K mg base CX0 3 A.f_p_along A.fd_p_along ["way", "spot"] (sp_along K fun p q x y => p * x + q * y) := by
  refine T.F_p_along.ok sc_p_along (fun vs H Q E h => ?_) (fun cdv Ar outer s H vs Q E hr h => ?_)
  · obtain ⟨a, v, p, q, x, y, n, m, rfl, _⟩ := h
    rfl
  · obtain ⟨a, _, p, q, x, y, n, m, rfl, ha, ⟨b, v1, v2, rfl, hb, h1, h2⟩, bp, bq, bx, bY, hm0, hn, hm, Qk⟩ := h
    refine ⟨_, (pss_cons (ps_asg (pv 0) (pg_tup rfl (pgs_cons (pg_name (i := 2) sc_p_along.nd rfl (.inl rfl)) (pgs_cons (pg_name (i := 3) sc_p_along.nd rfl (.inl rfl)) pgs_nil))))
    (pss_cons (ps_asg (pv 1) (pg_tup rfl (pgs_cons (pg_name (i := 4) sc_p_along.nd rfl (.inl rfl)) (pgs_cons (pg_name (i := 5) sc_p_along.nd rfl (.inl rfl)) pgs_nil))))
    (pss_one (ps_ret (pe_call (ok_p_plus T) (hr.mono (by decide)) (by rfl) T.g_p_plus T.F_p_plus.kp T.b_p_plus .nil pass0 (pa_cons (pe_call (ok_p_times T) (hr.mono (by decide)) (by rfl) T.g_p_times T.F_p_times.kp T.b_p_times .nil pass0 (pa_cons (pe_tup (pa_cons (pv 2) (pa_cons pe_int pa_nil))) (pa_cons (pv 4) pa_nil))) (pa_cons (pe_call (ok_p_times T) (hr.mono (by decide)) (by rfl) T.g_p_times T.F_p_times.kp T.b_p_times .nil pass0 (pa_cons (pe_tup (pa_cons (pv 3) (pa_cons pe_int pa_nil))) (pa_cons (pv 5) pa_nil))) pa_nil))))))), ?_⟩
    refine ⟨_, rfl, a, _, rfl, ha, rfl, _, _, rfl, _, _, rfl, rfl, ?_⟩
    refine ⟨_, rfl, b, _, rfl, hb, rfl, _, _, rfl, _, _, rfl, rfl, ?_⟩
    refine ⟨_, rfl, size63 (show 2 ≤ 1000 by decide), fun a1 f1 => ?_⟩
    generalize hG1 : upd _ a1 _ = G1
    obtain ⟨s1, e1⟩ := alloc hG1 f1
    refine ⟨_, rfl, .ref a1, v1, (p : Rat), x, m, n, rfl, ⟨a1, rfl, .inl (.inl e1)⟩, h1.keep s1, bdq_int bp hm0, bx, by omega, by omega, fun H2 r2 s2 g2 => ?_⟩
    refine ⟨_, rfl, size63 (show 2 ≤ 1000 by decide), fun a3 f3 => ?_⟩
    generalize hG3 : upd _ a3 _ = G3
    obtain ⟨s3, e3⟩ := alloc hG3 f3
    refine ⟨_, rfl, .ref a3, v2, (q : Rat), y, m, n, rfl, ⟨a3, rfl, .inl (.inl e3)⟩, ((h2.keep s1).keep s2).keep s3, bdq_int bq hm0, bY, by omega, by omega, fun H4 r4 s4 g4 => ?_⟩
    refine ⟨r2, r4, (p : Rat) * x, (q : Rat) * y, m + n, m + n, rfl, (g2.keep s3).keep s4, g4, (bdq_int bp hm0).mul bx, (bdq_int bq hm0).mul bY, by omega, by omega, fun H5 r5 s5 g5 => ?_⟩
    exact Qk _ _ ((((s1.trans s2).trans s3).trans s4).trans s5) g5
theorem ok_p_across (T : Tx K mg A) : FnOk P w K mg base CX0 4 A.f_p_across A.fd_p_across ["way", "spot"] (sp_along K fun p q x y => p * y - q * x) := by
  refine T.F_p_across.ok sc_p_across (fun vs H Q E h => ?_) (fun cdv Ar outer s H vs Q E hr h => ?_)
  · obtain ⟨a, v, p, q, x, y, n, m, rfl, _⟩ := h
    rfl
  · obtain ⟨a, _, p, q, x, y, n, m, rfl, ha, ⟨b, v1, v2, rfl, hb, h1, h2⟩, bp, bq, bx, bY, hm0, hn, hm, Qk⟩ := h
    refine ⟨_, (pss_cons (ps_asg (pv 0) (pg_tup rfl (pgs_cons (pg_name (i := 2) sc_p_across.nd rfl (.inl rfl)) (pgs_cons (pg_name (i := 3) sc_p_across.nd rfl (.inl rfl)) pgs_nil))))
    (pss_cons (ps_asg (pv 1) (pg_tup rfl (pgs_cons (pg_name (i := 4) sc_p_across.nd rfl (.inl rfl)) (pgs_cons (pg_name (i := 5) sc_p_across.nd rfl (.inl rfl)) pgs_nil))))
    (pss_one (ps_ret (pe_call (ok_p_minus T) (hr.mono (by decide)) (by rfl) T.g_p_minus T.F_p_minus.kp T.b_p_minus .nil pass0 (pa_cons (pe_call (ok_p_times T) (hr.mono (by decide)) (by rfl) T.g_p_times T.F_p_times.kp T.b_p_times .nil pass0 (pa_cons (pe_tup (pa_cons (pv 2) (pa_cons pe_int pa_nil))) (pa_cons (pv 5) pa_nil))) (pa_cons (pe_call (ok_p_times T) (hr.mono (by decide)) (by rfl) T.g_p_times T.F_p_times.kp T.b_p_times .nil pass0 (pa_cons (pe_tup (pa_cons (pv 3) (pa_cons pe_int pa_nil))) (pa_cons (pv 4) pa_nil))) pa_nil))))))), ?_⟩
    refine ⟨_, rfl, a, _, rfl, ha, rfl, _, _, rfl, _, _, rfl, rfl, ?_⟩
    refine ⟨_, rfl, b, _, rfl, hb, rfl, _, _, rfl, _, _, rfl, rfl, ?_⟩
    refine ⟨_, rfl, size63 (show 2 ≤ 1000 by decide), fun a1 f1 => ?_⟩
    generalize hG1 : upd _ a1 _ = G1
    obtain ⟨s1, e1⟩ := alloc hG1 f1
    refine ⟨_, rfl, .ref a1, v2, (p : Rat), y, m, n, rfl, ⟨a1, rfl, .inl (.inl e1)⟩, h2.keep s1, bdq_int bp hm0, bY, by omega, by omega, fun H2 r2 s2 g2 => ?_⟩
    refine ⟨_, rfl, size63 (show 2 ≤ 1000 by decide), fun a3 f3 => ?_⟩
    generalize hG3 : upd _ a3 _ = G3
    obtain ⟨s3, e3⟩ := alloc hG3 f3
    refine ⟨_, rfl, .ref a3, v1, (q : Rat), x, m, n, rfl, ⟨a3, rfl, .inl (.inl e3)⟩, ((h1.keep s1).keep s2).keep s3, bdq_int bq hm0, bx, by omega, by omega, fun H4 r4 s4 g4 => ?_⟩
    refine ⟨r2, r4, (p : Rat) * y, (q : Rat) * x, m + n, m + n, rfl, (g2.keep s3).keep s4, g4, (bdq_int bp hm0).mul bY, (bdq_int bq hm0).mul bx, by omega, by omega, fun H5 r5 s5 g5 => ?_⟩
    exact Qk _ _ ((((s1.trans s2).trans s3).trans s4).trans s5) g5
def sp_spot2 (K : PySem.W.Frag) (f : Rat → Rat → Rat) : Sp := fun vs H Q _ => ∃ (v v' : V) (x y x' y' : Rat) (n m : Nat), vs = [v, v'] ∧ SpQ K H v x y ∧ SpQ K H v' x' y' ∧ BdQ n x ∧ BdQ n y ∧ BdQ m x' ∧ BdQ m y' ∧ n ≤ 4000 ∧ m ≤ 4000 ∧ ∀ H' r, Same H H' → SpQ K H' r (f x x') (f y y') → Q r H'
theorem ok_p_spot_plus (T : Tx K mg A) : FnOk P w K mg base CX0 3 A.f_p_spot_plus A.fd_p_spot_plus ["one", "other"] (sp_spot2 K (· + ·)) := by
  refine T.F_p_spot_plus.ok sc_p_spot_plus (fun vs H Q E h => ?_) (fun cdv Ar outer s H vs Q E hr h => ?_)
  · obtain ⟨v, v', x, y, x', y', n, m, rfl, _⟩ := h
    rfl
  · obtain ⟨_, _, x, y, x', y', n, m, rfl, ⟨a, v1, v2, rfl, ha, h1, h2⟩, ⟨b, w1, w2, rfl, hb, h3, h4⟩, b1, b2, b3, b4, hn, hm, Qk⟩ := h
    refine ⟨_, (pss_one (ps_ret (pe_tup (pa_cons (pe_call (ok_p_plus T) (hr.mono (by decide)) (by rfl) T.g_p_plus T.F_p_plus.kp T.b_p_plus .nil pass0 (pa_cons (pe_ix ix_tup (pv 0) pe_int (fun _ _ => rfl)) (pa_cons (pe_ix ix_tup (pv 1) pe_int (fun _ _ => rfl)) pa_nil))) (pa_cons (pe_call (ok_p_plus T) (hr.mono (by decide)) (by rfl) T.g_p_plus T.F_p_plus.kp T.b_p_plus .nil pass0 (pa_cons (pe_ix ix_tup (pv 0) pe_int (fun _ _ => rfl)) (pa_cons (pe_ix ix_tup (pv 1) pe_int (fun _ _ => rfl)) pa_nil))) pa_nil))))), ?_⟩
    refine ⟨_, rfl, a, _, 0, _, rfl, rfl, ha, rfl, _, rfl, b, _, 0, _, rfl, rfl, hb, rfl, v1, w1, x, x', n, m, rfl, h1, h3, b1, b3, hn, hm, fun H1 r1 s1 g1 => ?_⟩
    refine ⟨_, rfl, a, _, 1, _, rfl, rfl, Same.seqT s1 ha, rfl, _, rfl, b, _, 1, _, rfl, rfl, Same.seqT s1 hb, rfl, v2, w2, y, y', n, m, rfl, h2.keep s1, h4.keep s1, b2, b4, hn, hm, fun H2 r2 s2 g2 => ?_⟩
    refine ⟨size63 (show 2 ≤ 1000 by decide), fun p hp => ?_⟩
    generalize hG : upd _ p _ = G
    obtain ⟨s3, e3⟩ := alloc hG hp
    exact Qk _ _ ((s1.trans s2).trans s3) ⟨p, r1, r2, rfl, .inl (.inl e3), (g1.keep s2).keep s3, g2.keep s3⟩
theorem ok_p_spot_minus (T : Tx K mg A) : FnOk P w K mg base CX0 4 A.f_p_spot_minus A.fd_p_spot_minus ["one", "other"] (sp_spot2 K (· - ·)) := by
  refine T.F_p_spot_minus.ok sc_p_spot_minus (fun vs H Q E h => ?_) (fun cdv Ar outer s H vs Q E hr h => ?_)
  · obtain ⟨v, v', x, y, x', y', n, m, rfl, _⟩ := h
    rfl
  · obtain ⟨_, _, x, y, x', y', n, m, rfl, ⟨a, v1, v2, rfl, ha, h1, h2⟩, ⟨b, w1, w2, rfl, hb, h3, h4⟩, b1, b2, b3, b4, hn, hm, Qk⟩ := h
    refine ⟨_, (pss_one (ps_ret (pe_tup (pa_cons (pe_call (ok_p_minus T) (hr.mono (by decide)) (by rfl) T.g_p_minus T.F_p_minus.kp T.b_p_minus .nil pass0 (pa_cons (pe_ix ix_tup (pv 0) pe_int (fun _ _ => rfl)) (pa_cons (pe_ix ix_tup (pv 1) pe_int (fun _ _ => rfl)) pa_nil))) (pa_cons (pe_call (ok_p_minus T) (hr.mono (by decide)) (by rfl) T.g_p_minus T.F_p_minus.kp T.b_p_minus .nil pass0 (pa_cons (pe_ix ix_tup (pv 0) pe_int (fun _ _ => rfl)) (pa_cons (pe_ix ix_tup (pv 1) pe_int (fun _ _ => rfl)) pa_nil))) pa_nil))))), ?_⟩
    refine ⟨_, rfl, a, _, 0, _, rfl, rfl, ha, rfl, _, rfl, b, _, 0, _, rfl, rfl, hb, rfl, v1, w1, x, x', n, m, rfl, h1, h3, b1, b3, hn, hm, fun H1 r1 s1 g1 => ?_⟩
    refine ⟨_, rfl, a, _, 1, _, rfl, rfl, Same.seqT s1 ha, rfl, _, rfl, b, _, 1, _, rfl, rfl, Same.seqT s1 hb, rfl, v2, w2, y, y', n, m, rfl, h2.keep s1, h4.keep s1, b2, b4, hn, hm, fun H2 r2 s2 g2 => ?_⟩
    refine ⟨size63 (show 2 ≤ 1000 by decide), fun p hp => ?_⟩
    generalize hG : upd _ p _ = G
    obtain ⟨s3, e3⟩ := alloc hG hp
    exact Qk _ _ ((s1.trans s2).trans s3) ⟨p, r1, r2, rfl, .inl (.inl e3), (g1.keep s2).keep s3, g2.keep s3⟩
def sp_p_spot_times (K : PySem.W.Frag) : Sp := fun vs H Q _ => ∃ (v v' : V) (x y z : Rat) (n m : Nat), vs = [v, v'] ∧ SpQ K H v x y ∧ ShQ K H v' z ∧ BdQ n x ∧ BdQ n y ∧ BdQ m z ∧ n ≤ 4000 ∧ m ≤ 4000 ∧ ∀ H' r, Same H H' → SpQ K H' r (x * z) (y * z) → Q r H'
theorem ok_p_spot_times (T : Tx K mg A) : FnOk P w K mg base CX0 3 A.f_p_spot_times A.fd_p_spot_times ["spot", "share"] (sp_p_spot_times K) := by
  refine T.F_p_spot_times.ok sc_p_spot_times (fun vs H Q E h => ?_) (fun cdv Ar outer s H vs Q E hr h => ?_)
  · obtain ⟨v, v', x, y, z, n, m, rfl, _⟩ := h
    rfl
  · obtain ⟨_, v', x, y, z, n, m, rfl, ⟨a, v1, v2, rfl, ha, h1, h2⟩, h3, b1, b2, b3, hn, hm, Qk⟩ := h
    refine ⟨_, (pss_one (ps_ret (pe_tup (pa_cons (pe_call (ok_p_times T) (hr.mono (by decide)) (by rfl) T.g_p_times T.F_p_times.kp T.b_p_times .nil pass0 (pa_cons (pe_ix ix_tup (pv 0) pe_int (fun _ _ => rfl)) (pa_cons (pv 1) pa_nil))) (pa_cons (pe_call (ok_p_times T) (hr.mono (by decide)) (by rfl) T.g_p_times T.F_p_times.kp T.b_p_times .nil pass0 (pa_cons (pe_ix ix_tup (pv 0) pe_int (fun _ _ => rfl)) (pa_cons (pv 1) pa_nil))) pa_nil))))), ?_⟩
    refine ⟨_, rfl, a, _, 0, _, rfl, rfl, ha, rfl, _, rfl, v1, v', x, z, n, m, rfl, h1, h3, b1, b3, hn, hm, fun H1 r1 s1 g1 => ?_⟩
    refine ⟨_, rfl, a, _, 1, _, rfl, rfl, Same.seqT s1 ha, rfl, _, rfl, v2, v', y, z, n, m, rfl, h2.keep s1, h3.keep s1, b2, b3, hn, hm, fun H2 r2 s2 g2 => ?_⟩
    refine ⟨size63 (show 2 ≤ 1000 by decide), fun p hp => ?_⟩
    generalize hG : upd _ p _ = G
    obtain ⟨s3, e3⟩ := alloc hG hp
    exact Qk _ _ ((s1.trans s2).trans s3) ⟨p, r1, r2, rfl, .inl (.inl e3), (g1.keep s2).keep s3, g2.keep s3⟩

/-! ### whether a thing is a spot, a way -/
inductive SpB (K : PySem.W.Frag) (H : Hp) : V → Bool → Prop
  | notup {v : V} {t : String} : TyX K H v (.type t) → kitB t "tuple" = some false → SpB K H v false
  | count {a : Addr} {xs : List V} : SqT K H a xs → xs.length ≠ 2 → SpB K H (.ref a) false
  | parts {a : Addr} {x y : V} {r1 r2 : Bool} : SqT K H a [x, y] → ShB K H x r1 → ShB K H y r2 → SpB K H (.ref a) (r1 && r2)
theorem Tg.spB {K : PySem.W.Frag} {H : Hp} {v : V} (h : Tg K H v) : ∃ r, SpB K H v r := by
  cases h with
  | int i _ => exact ⟨_, .notup (.base (.int i)) (by decide +kernel)⟩
  | bl b => exact ⟨_, .notup (.base (.bl b)) (by decide +kernel)⟩
  | other t h1 h2 h3 => exact ⟨_, .notup h1 h2⟩
  | @tup a xs s g =>
    by_cases hl : xs.length = 2
    · obtain ⟨x, y, rfl, hx, hy⟩ := Tg.pair g hl
      obtain ⟨r1, h1⟩ := hx.shB
      obtain ⟨r2, h2⟩ := hy.shB
      exact ⟨_, .parts s h1 h2⟩
    · exact ⟨_, .count s hl⟩
theorem ShB.keep {K : PySem.W.Frag} {H H' : Hp} {v : V} {r : Bool} (h : ShB K H v r) (k : Same H H') : ShB K H' v r := by
  cases h with
  | notup h1 h2 => exact .notup (TyX.keep h1 k) h2
  | count h1 h2 => exact .count (Same.seqT k h1) h2
  | parts h1 h2 h3 h4 => exact .parts (Same.seqT k h1) (h2.keep k) (h3.keep k) h4
  | nums h1 b1 b2 => exact .nums (Same.seqT k h1) b1 b2
def sp_spB (K : PySem.W.Frag) : Sp := fun vs H Q _ => ∃ v r, vs = [v] ∧ SpB K H v r ∧ ∀ H', Same H H' → Q (.bl r) H'
theorem ok_p_is_spot (T : Tx K mg A) : FnOk P w K mg base CX0 3 A.f_p_is_spot A.fd_p_is_spot ["thing"] (sp_spB K) := by
  refine T.F_p_is_spot.ok sc_p_is_spot (fun vs H Q E h => ?_) (fun cdv Ar outer s H vs Q E hr h => ?_)
  · obtain ⟨v, r, rfl, _⟩ := h
    rfl
  · obtain ⟨v, r, rfl, hv, q⟩ := h
    refine ⟨_, (pss_cons (ps_if (PW.pt (pw_or (pt_not (pt_val (pe_callB call_isi (by rfl) T.m_isinstance (by decide +kernel) (pa_cons (pv 0) (pa_cons (pe_bltn (v := .ty "tuple") (by rfl) T.m_tuple (by decide +kernel) rfl) pa_nil))))) (pw_or1 (pt_cmpR op_ne (pe_callB call_len_seq (by rfl) T.m_len (by decide +kernel) (pa_cons (pv 0) pa_nil)) pe_int (nomark _)))))
      (pss_one (ps_ret pe_bl))
      pss_nil)
    (pss_one (ps_ret (pe_and (pe_call (ok_p_is_share T) (hr.mono (by decide)) (by rfl) T.g_p_is_share T.F_p_is_share.kp T.b_p_is_share .nil pass0 (pa_cons (pe_ix ix_tup (pv 0) pe_int (fun _ _ => rfl)) pa_nil)) (pe_one (pe_call (ok_p_is_share T) (hr.mono (by decide)) (by rfl) T.g_p_is_share T.F_p_is_share.kp T.b_p_is_share .nil pass0 (pa_cons (pe_ix ix_tup (pv 0) pe_int (fun _ _ => rfl)) pa_nil))))))), ?_⟩
    cases hv with
    | notup h1 h2 => exact ⟨_, rfl, _, _, _, _, false, rfl, .ty _, h1, kit_ty h2, false, rfl, iteT (q _ (Same.refl _))⟩
    | count hs hl =>
      refine ⟨_, rfl, _, _, _, _, true, rfl, .ty _, ty_tup hs, kit_ty (by decide +kernel), true, rfl, iteF ⟨_, rfl, _, _, rfl, .inr hs, rfl, _, rfl, ?_⟩⟩
      rw [ne_two hl]
      exact q _ (Same.refl _)
    | @parts a x y r1 r2 hs hx hy =>
      refine ⟨_, rfl, _, _, _, _, true, rfl, .ty _, ty_tup hs, kit_ty (by decide +kernel), true, rfl, iteF ⟨_, rfl, _, _, rfl, .inr hs, rfl, _, rfl, iteF ?_⟩⟩
      refine ⟨_, rfl, a, _, 0, x, rfl, rfl, hs, rfl, x, r1, rfl, hx, r1, rfl, ?_⟩
      cases r1 with
      | false => exact iteF (q _ (Same.refl _))
      | true => exact iteT ⟨_, rfl, a, _, 1, y, rfl, rfl, hs, rfl, y, r2, rfl, hy, q _ (Same.refl _)⟩
theorem ok_l_is_spot (T : Tx K mg A) : FnOk P w K mg base CX0 3 A.f_l_is_spot A.fd_l_is_spot ["_law_thing"] (sp_spB K) := by
  refine T.F_l_is_spot.ok sc_l_is_spot (fun vs H Q E h => ?_) (fun cdv Ar outer s H vs Q E hr h => ?_)
  · obtain ⟨v, r, rfl, _⟩ := h
    rfl
  · obtain ⟨v, r, rfl, hv, q⟩ := h
    refine ⟨_, (pss_one (ps_ret (pe_and (pe_callB call_isi (by rfl) T.m_isinstance (by decide +kernel) (pa_cons (pv 0) (pa_cons (pe_bltn (v := .ty "tuple") (by rfl) T.m_tuple (by decide +kernel) rfl) pa_nil))) (pe_and (pe_cmpR op_eq (pe_callB call_len_seq (by rfl) T.m_len (by decide +kernel) (pa_cons (pv 0) pa_nil)) pe_int (nomark _)) (pe_one (pe_callB (cr_all rfl) (by rfl) T.m_all (by decide +kernel) (pa_cons (pe_lc (own := [("_law_part_here", 1)]) rfl sc_l_is_spot.nd (pi_tup (pv 0)) (blkOk_by (own := [("_law_part_here", 1)]) (N := ["_law_thing", "_law_part_here"]) (sc := defScope s_l_is_spot) (by decide +kernel)) (fun _ _ _ _ _ => (pg_name (i := 1) sc_l_is_spot.nd rfl (Or.inl rfl))) (fun _ _ _ _ _ => pts_nil) (fun _ _ _ _ _ => (pe_call (ok_l_is_share T) (hr.mono (by decide)) (by rfl) T.g_l_is_share T.F_l_is_share.kp T.b_l_is_share .nil pass0 (pa_cons (pv 1) pa_nil)))) pa_nil))))))), ?_⟩
    cases hv with
    | notup h1 h2 => exact ⟨_, rfl, _, _, _, _, false, rfl, .ty _, h1, kit_ty h2, false, rfl, iteF (q _ (Same.refl _))⟩
    | count hs hl =>
      refine ⟨_, rfl, _, _, _, _, true, rfl, .ty _, ty_tup hs, kit_ty (by decide +kernel), true, rfl, iteT ⟨_, rfl, _, _, rfl, .inr hs, rfl, _, rfl, ?_⟩⟩
      rw [decide_eq_false (fun z => hl (by have := V.int.inj z; omega))]
      exact iteF (q _ (Same.refl _))
    | @parts a x y r1 r2 hs hx hy =>
      refine ⟨_, rfl, _, _, _, _, true, rfl, .ty _, ty_tup hs, kit_ty (by decide +kernel), true, rfl, iteT ⟨_, rfl, _, _, rfl, .inr hs, rfl, true, rfl, iteT ?_⟩⟩
      refine ⟨_, rfl, a, rfl, ⟨_, hs⟩, fun Dl hDl => lc_tup (K := K) (a := a) (xs := [x, y]) (fun i H' => Same H H' ∧ H' Dl = some (.lst (([r1, r2].take i).map V.bl))) ?_ ?_ ?_ ?_⟩
      · exact ⟨same_upd hDl, upd_same⟩
      · rintro i H' _ ⟨k', _⟩
        exact Same.seqT k' hs
      · rintro i v H' hv ⟨k', hD'⟩
        have hi : i < 2 := (List.getElem?_eq_some_iff.mp hv).1
        obtain ⟨r, hr1, hr2⟩ : ∃ r, [r1, r2][i]? = some r ∧ ShB K H v r := by
          match i, hv with
          | 0, e => cases e; exact ⟨r1, rfl, hx⟩
          | 1, e => cases e; exact ⟨r2, rfl, hy⟩
        refine ⟨rfl, _, rfl, v, r, rfl, hr2.keep k', _, hD', small1000 ?_, ?_, ?_⟩
        · rw [List.length_map, List.length_take]
          exact Nat.le_trans (Nat.min_le_left _ _) (by omega)
        · intro b' o' h'
          rw [upd_ne (ne_of_none h' hDl)]
          exact k' _ _ h'
        · rw [upd_same, List.take_add_one, hr1, List.map_append]
          rfl
      · rintro H9 ⟨k9, hD9⟩
        refine ⟨Dl, _, rfl, SqL.of hD9, ?_⟩
        have e : ([r1, r2].take [x, y].length).all id = (r1 && r2) := by
          show ((r1 && (r2 && true))) = _
          rw [Bool.and_true]
        rw [e]
        exact q _ k9
inductive WyB (K : PySem.W.Frag) (H : Hp) : V → Bool → Prop
  | notup {v : V} {t : String} : TyX K H v (.type t) → kitB t "tuple" = some false → WyB K H v false
  | count {a : Addr} {xs : List V} : SqT K H a xs → xs.length ≠ 2 → WyB K H (.ref a) false
  | parts {a : Addr} {x y : V} : SqT K H a [x, y] → Tg K H x → Tg K H y → (isW x && isW y) = false → WyB K H (.ref a) false
  | nums {a : Addr} {t u : Int} : SqT K H a [.int t, .int u] → Bd 4000 t → Bd 4000 u → WyB K H (.ref a) (decide (gcdI t u = 1))
theorem Tg.wyB {K : PySem.W.Frag} {H : Hp} {v : V} (h : Tg K H v) : ∃ r, WyB K H v r := by
  obtain ⟨r, h⟩ := h.shB
  cases h with
  | notup h1 h2 => exact ⟨_, .notup h1 h2⟩
  | count h1 h2 => exact ⟨_, .count h1 h2⟩
  | parts h1 h2 h3 h4 => exact ⟨_, .parts h1 h2 h3 h4⟩
  | nums h1 b1 b2 => exact ⟨_, .nums h1 b1 b2⟩
def sp_wyB (K : PySem.W.Frag) : Sp := fun vs H Q _ => ∃ v r, vs = [v] ∧ WyB K H v r ∧ Q (.bl r) H
theorem ok_p_is_way (T : Tx K mg A) : FnOk P w K mg base CX0 2 A.f_p_is_way A.fd_p_is_way ["thing"] (sp_wyB K) := by
  refine T.F_p_is_way.ok sc_p_is_way (fun vs H Q E h => ?_) (fun cdv Ar outer s H vs Q E hr h => ?_)
  · obtain ⟨v, r, rfl, _⟩ := h
    rfl
  · obtain ⟨v, r, rfl, hv, q⟩ := h
    refine ⟨_, (pss_cons (ps_if (PW.pt (pw_or (pt_not (pt_val (pe_callB call_isi (by rfl) T.m_isinstance (by decide +kernel) (pa_cons (pv 0) (pa_cons (pe_bltn (v := .ty "tuple") (by rfl) T.m_tuple (by decide +kernel) rfl) pa_nil))))) (pw_or1 (pt_cmpR op_ne (pe_callB call_len_seq (by rfl) T.m_len (by decide +kernel) (pa_cons (pv 0) pa_nil)) pe_int (nomark _)))))
      (pss_one (ps_ret pe_bl))
      pss_nil)
    (pss_cons (ps_asg (pv 0) (pg_tup rfl (pgs_cons (pg_name (i := 1) sc_p_is_way.nd rfl (.inl rfl)) (pgs_cons (pg_name (i := 2) sc_p_is_way.nd rfl (.inl rfl)) pgs_nil))))
    (pss_cons (ps_if (PW.pt (pw_or (pt_not (pt_val (pe_call (ok_p_is_whole T) (hr.mono (by decide)) (by rfl) T.g_p_is_whole T.F_p_is_whole.kp T.b_p_is_whole .nil pass0 (pa_cons (pv 1) pa_nil)))) (pw_or1 (pt_not (pt_val (pe_call (ok_p_is_whole T) (hr.mono (by decide)) (by rfl) T.g_p_is_whole T.F_p_is_whole.kp T.b_p_is_whole .nil pass0 (pa_cons (pv 2) pa_nil)))))))
      (pss_one (ps_ret pe_bl))
      pss_nil)
    (pss_one (ps_ret (pe_cmpR op_eq (pe_call (ok_p_common_divisor T) (hr.mono (by decide)) (by rfl) T.g_p_common_divisor T.F_p_common_divisor.kp T.b_p_common_divisor .nil pass0 (pa_cons (pv 1) (pa_cons (pv 2) pa_nil))) pe_int (nomark _))))))), ?_⟩
    cases hv with
    | notup h1 h2 => exact ⟨_, rfl, _, _, _, _, false, rfl, .ty _, h1, kit_ty h2, false, rfl, iteT q⟩
    | count hs hl =>
      refine ⟨_, rfl, _, _, _, _, true, rfl, .ty _, ty_tup hs, kit_ty (by decide +kernel), true, rfl, iteF ⟨_, rfl, _, _, rfl, .inr hs, rfl, _, rfl, ?_⟩⟩
      rw [ne_two hl]
      exact q
    | @parts a x y hs hx hy hw =>
      refine ⟨_, rfl, _, _, _, _, true, rfl, .ty _, ty_tup hs, kit_ty (by decide +kernel), true, rfl, iteF ⟨_, rfl, _, _, rfl, .inr hs, rfl, _, rfl, iteF ⟨_, rfl, _, _, rfl, hs, rfl, _, _, rfl, _, _, rfl, rfl, ?_⟩⟩⟩
      refine ⟨_, rfl, _, rfl, hx, _, rfl, ?_⟩
      cases e : isW x with
      | false => exact iteT q
      | true =>
        rw [e] at hw
        refine iteF ⟨_, rfl, _, rfl, hy, _, rfl, ?_⟩
        rw [show isW y = false from hw]
        exact iteT q
    | @nums a t u hs bt bu =>
      refine ⟨_, rfl, _, _, _, _, true, rfl, .ty _, ty_tup hs, kit_ty (by decide +kernel), true, rfl, iteF ⟨_, rfl, _, _, rfl, .inr hs, rfl, _, rfl, iteF ⟨_, rfl, _, _, rfl, hs, rfl, _, _, rfl, _, _, rfl, rfl, ?_⟩⟩⟩
      refine ⟨_, rfl, _, rfl, .int t bt, _, rfl, iteF ⟨_, rfl, _, rfl, .int u bu, _, rfl, iteF ?_⟩⟩
      refine ⟨_, rfl, _, rfl, t, u, rfl, bu, rfl, ?_⟩
      have : decide (V.int (gcdI t u) = V.int 1) = decide (gcdI t u = 1) := decide_eq_decide.mpr ⟨fun z => V.int.inj z, fun z => congrArg V.int z⟩
      rw [this]
      exact q
theorem ok_l_is_way (T : Tx K mg A) : FnOk P w K mg base CX0 2 A.f_l_is_way A.fd_l_is_way ["_law_thing"] (sp_wyB K) := by
  refine T.F_l_is_way.ok sc_l_is_way (fun vs H Q E h => ?_) (fun cdv Ar outer s H vs Q E hr h => ?_)
  · obtain ⟨v, r, rfl, _⟩ := h
    rfl
  · obtain ⟨v, r, rfl, hv, q⟩ := h
    refine ⟨_, (pss_cons (ps_if (PW.pt (pw_or (pt_not (pt_val (pe_callB call_isi (by rfl) T.m_isinstance (by decide +kernel) (pa_cons (pv 0) (pa_cons (pe_bltn (v := .ty "tuple") (by rfl) T.m_tuple (by decide +kernel) rfl) pa_nil))))) (pw_or1 (pt_cmpR op_ne (pe_callB call_len_seq (by rfl) T.m_len (by decide +kernel) (pa_cons (pv 0) pa_nil)) pe_int (nomark _)))))
      (pss_one (ps_ret pe_bl))
      pss_nil)
    (pss_cons (ps_for PassesOwn.never rfl (pi_tup (pv 0)) (pg_name (i := 1) sc_l_is_way.nd rfl (.inl rfl))
      (pss_one (ps_if (PW.pt (pw_or (pt_not (pt_val (pe_callB call_isi (by rfl) T.m_isinstance (by decide +kernel) (pa_cons (pv 1) (pa_cons (pe_bltn (v := .ty "int") (by rfl) T.m_int (by decide +kernel) rfl) pa_nil))))) (pw_or1 (pt_val (pe_callB call_isi (by rfl) T.m_isinstance (by decide +kernel) (pa_cons (pv 1) (pa_cons (pe_bltn (v := .ty "bool") (by rfl) T.m_bool (by decide +kernel) rfl) pa_nil)))))))
      (pss_one (ps_ret pe_bl))
      pss_nil)))
    (pss_one (ps_ret (pe_cmpR op_eq (pe_call (ok_l_gcd T) (hr.mono (by decide)) (by rfl) T.g_l_gcd T.F_l_gcd.kp T.b_l_gcd .nil pass0 (pa_cons (pe_ix ix_tup (pv 0) pe_int (fun _ _ => rfl)) (pa_cons (pe_ix ix_tup (pv 0) pe_int (fun _ _ => rfl)) pa_nil))) pe_int (nomark _)))))), ?_⟩
    cases hv with
    | notup h1 h2 => exact ⟨_, rfl, _, _, _, _, false, rfl, .ty _, h1, kit_ty h2, false, rfl, iteT q⟩
    | count hs hl =>
      refine ⟨_, rfl, _, _, _, _, true, rfl, .ty _, ty_tup hs, kit_ty (by decide +kernel), true, rfl, iteF ⟨_, rfl, _, _, rfl, .inr hs, rfl, _, rfl, ?_⟩⟩
      rw [ne_two hl]
      exact q
    | @parts a x y hs hx hy hw =>
      refine ⟨_, rfl, _, _, _, _, true, rfl, .ty _, ty_tup hs, kit_ty (by decide +kernel), true, rfl, iteF ⟨_, rfl, _, _, rfl, .inr hs, rfl, _, rfl, iteF ?_⟩⟩
      refine ⟨_, rfl, a, rfl, ⟨_, hs⟩, for_tup (K := K) (a := a) (xs := [x, y]) (fun i σ H' => ∃ z, σ = [some (.ref a), z] ∧ H' = H ∧ ∀ j, j < i → ∀ u, [x, y][j]? = some u → isW u = true) ⟨_, rfl, rfl, fun j hj => absurd hj (Nat.not_lt_zero _)⟩ ?_ ?_ ?_⟩
      · rintro i σ H' _ ⟨z, _, rfl, _⟩
        exact hs
      · rintro i u σ H' hu ⟨z, rfl, rfl, hall⟩
        have hut : Tg K H' u := by
          match i, hu with
          | 0, e => cases e; exact hx
          | 1, e => cases e; exact hy
        rcases hut.ty with ⟨t, h1, h2, h3⟩ | ⟨t, b, h1, h2, h3, h4⟩
        · exact ⟨_, rfl, _, _, _, _, false, rfl, .ty _, h1, kit_ty h2, false, rfl, iteT q⟩
        · refine ⟨_, rfl, _, _, _, _, true, rfl, .ty _, h1, kit_ty h2, true, rfl, iteF ⟨_, rfl, _, _, _, _, b, rfl, .ty _, h1, kit_ty h3, b, rfl, ?_⟩⟩
          cases b with
          | true => exact iteT q
          | false =>
            refine iteF ⟨_, rfl, rfl, fun j hj w hw => ?_⟩
            rcases Nat.lt_succ_iff_lt_or_eq.mp hj with hj | rfl
            · exact hall j hj w hw
            · rw [hu] at hw
              cases hw
              exact h4
      · rintro σ H' ⟨z, rfl, rfl, hall⟩
        have w1 := hall 0 (show 0 < 2 by decide) x rfl
        have w2 := hall 1 (show 1 < 2 by decide) y rfl
        rw [w1, w2] at hw
        cases hw
    | @nums a t u hs bt bu =>
      refine ⟨_, rfl, _, _, _, _, true, rfl, .ty _, ty_tup hs, kit_ty (by decide +kernel), true, rfl, iteF ⟨_, rfl, _, _, rfl, .inr hs, rfl, _, rfl, iteF ?_⟩⟩
      refine ⟨_, rfl, a, rfl, ⟨_, hs⟩, for_tup (K := K) (a := a) (xs := [.int t, .int u]) (fun i σ H' => ∃ y, σ = [some (.ref a), y] ∧ H' = H) ⟨_, rfl, rfl⟩ ?_ ?_ ?_⟩
      · rintro i σ H' _ ⟨y, _, rfl⟩
        exact hs
      · rintro i x σ H' hx ⟨y, rfl, rfl⟩
        obtain ⟨z, rfl⟩ : ∃ z : Int, x = .int z := by
          match i, hx with
          | 0, e => exact ⟨t, (Option.some.inj e).symm⟩
          | 1, e => exact ⟨u, (Option.some.inj e).symm⟩
        refine ⟨_, rfl, _, _, _, _, true, rfl, .ty _, .base (.int z), kit_ty (by decide +kernel), true, rfl, iteF ⟨_, rfl, _, _, _, _, false, rfl, .ty _, .base (.int z), kit_ty (by decide +kernel), false, rfl, iteF ⟨_, rfl, rfl⟩⟩⟩
      · rintro σ H' ⟨y, rfl, rfl⟩
        refine ⟨_, rfl, a, _, 0, .int t, rfl, rfl, hs, rfl, _, rfl, a, _, 1, .int u, rfl, rfl, hs, rfl, t, u, rfl, rfl, ?_⟩
        have : decide (V.int (gcdI t u) = V.int 1) = decide (gcdI t u = 1) := decide_eq_decide.mpr ⟨fun z => V.int.inj z, fun z => congrArg V.int z⟩
        rw [this]
        exact q
def sp_p_way_of (cN : Addr) : Sp := fun vs H Q E => ∃ (p q : Int) (n : Nat), vs = [.int p, .int q] ∧ Bd n p ∧ Bd n q ∧ n ≤ 4000 ∧ ((p = 0 ∧ q = 0) → E (.ref cN) none H) ∧ (¬ (p = 0 ∧ q = 0) → ∀ a, H a = none → Q (.ref a) (upd H a (.tup [.int (p / gcdI p q), .int (q / gcdI p q)])))
theorem ok_p_way_of (T : Tx K mg A) : FnOk P w K mg base (L2.CX P w) 2 A.f_p_way_of A.fd_p_way_of ["p", "q"] (sp_p_way_of A.c_NoWay) := by
  refine T.F_p_way_of.okX sc_p_way_of (fun vs H Q E h => ?_) (fun cdv Ar outer s H vs Q E hr h => ?_)
  · obtain ⟨p, q, n, rfl, _⟩ := h
    rfl
  · obtain ⟨p, q, n, rfl, bp, bq, hn, qe, Qk⟩ := h
    refine ⟨_, (pss_cons (ps_set (i := 2) sc_p_way_of.nd rfl (.inl rfl) (pe_call (ok_p_common_divisor T) (hr.mono (by decide)) (by rfl) T.g_p_common_divisor T.F_p_common_divisor.kp T.b_p_common_divisor .nil pass0 (pa_cons (pv 0) (pa_cons (pv 1) pa_nil))))
    (pss_cons (ps_if (pt_cmpR op_eq (pv 2) pe_int (nomark _))
      (pss_one (ps_raise rfl (takes_of rfl rfl rfl rfl) (pmk_own PySem.F.excBase_ValueError T.x_NoWay T.g_NoWay T.k_NoWay (raises_own T.b_NoWay T.t_NoWay) rfl)))
      pss_nil)
    (pss_one (ps_ret (pe_tup (pa_cons (pe_op op_fdivW (pv 0) (pv 2)) (pa_cons (pe_op op_fdivW (pv 1) (pv 2)) pa_nil))))))), ?_⟩
    refine ⟨_, rfl, _, rfl, p, q, rfl, bq.le hn, ?_⟩
    refine ⟨_, rfl, rfl, _, rfl, ite2 (fun e => ?_) (fun e => ?_)⟩
    · have e0 : gcdI p q = 0 := V.int.inj (of_decide_eq_true e)
      refine qe (Classical.byContradiction fun z => ?_)
      have := gcdI_pos2 z
      omega
    · have h0 : ¬ (p = 0 ∧ q = 0) := fun z => e (decide_eq_true (by rw [z.1, z.2]; rfl))
      have g0 := gcdI_pos2 h0
      have gb := gcdI_bd2 bp bq h0
      exact ⟨_, rfl, _, rfl, p, _, rfl, rfl, gb.divW g0 (by omega), _, rfl, _, rfl, q, _, rfl, rfl, gb.divW g0 (by omega), size63 (show 2 ≤ 1000 by decide), fun a ha => Qk h0 a ha⟩
def sp_l_way : Sp := fun vs H Q _ => ∃ (p q : Int) (n : Nat), vs = [.int p, .int q] ∧ Bd n p ∧ Bd n q ∧ n < 9000 ∧ ¬ (p = 0 ∧ q = 0) ∧ ∀ a, H a = none → Q (.ref a) (upd H a (.tup [.int (p / gcdI p q), .int (q / gcdI p q)]))
theorem ok_l_way (T : Tx K mg A) : FnOk P w K mg base CX0 2 A.f_l_way A.fd_l_way ["_law_p", "_law_q"] sp_l_way := by
  refine T.F_l_way.ok sc_l_way (fun vs H Q E h => ?_) (fun cdv Ar outer s H vs Q E hr h => ?_)
  · obtain ⟨p, q, n, rfl, _⟩ := h
    rfl
  · obtain ⟨p, q, n, rfl, bp, bq, hn, h0, Qk⟩ := h
    refine ⟨_, (pss_cons (ps_set (i := 2) sc_l_way.nd rfl (.inl rfl) (pe_call (ok_l_gcd T) (hr.mono (by decide)) (by rfl) T.g_l_gcd T.F_l_gcd.kp T.b_l_gcd .nil pass0 (pa_cons (pv 0) (pa_cons (pv 1) pa_nil))))
    (pss_one (ps_ret (pe_tup (pa_cons (pe_op op_fdivW (pv 0) (pv 2)) (pa_cons (pe_op op_fdivW (pv 1) (pv 2)) pa_nil)))))), ?_⟩
    have g0 := gcdI_pos2 h0
    have gb := gcdI_bd2 bp bq h0
    refine ⟨_, rfl, _, rfl, p, q, rfl, ?_⟩
    exact ⟨_, rfl, _, rfl, p, _, rfl, rfl, gb.divW g0 hn, _, rfl, _, rfl, q, _, rfl, rfl, gb.divW g0 hn, size63 (show 2 ≤ 1000 by decide), fun a ha => Qk a ha⟩
/-! ### drawn numbers -/
def sp_l_number (K : PySem.W.Frag) : Sp := fun vs H Q _ => ∃ (d b : Addr) (c : Int), vs = [.ref d] ∧ Deck K H d b c ∧ c < 900000 ∧ ∀ H' r, Deck K H' d b (c + 6) → Kp d b H H' → Bd 72 r → Q (.int r) H'
theorem number_step {n r : Nat} {i : Nat} (h : n < 10000000 ^ i) (h2 : r < 10000000) : n * 10000000 + r < 10000000 ^ (i + 1) := by
  rw [Nat.pow_succ]
  omega
theorem ok_l_number (T : Tx K mg A) : FnOk P w K mg base CX0 4 A.f_l_number A.fd_l_number ["_law_deck_here"] (sp_l_number K) := by
  refine T.F_l_number.ok sc_l_number (fun vs H Q E h => ?_) (fun cdv Ar outer s H vs Q E hr h => ?_)
  · obtain ⟨d, b, c, rfl, _⟩ := h
    rfl
  · obtain ⟨d, b, c, rfl, hD, hc, q⟩ := h
    refine ⟨_, (pss_cons (ps_set (i := 1) sc_l_number.nd rfl (.inl rfl) pe_int)
    (pss_cons (ps_for PassesOwn.never rfl (pi_range1 (by rfl) T.m_range (pa_cons (pe_ix ix_list (pe_lst (pa_cons pe_int (pa_cons pe_int (pa_cons pe_int (pa_cons pe_int (pa_cons pe_int pa_nil)))))) (pe_call (ok_l_take T) (hr.mono (by decide)) (by rfl) T.g_l_take T.F_l_take.kp T.b_l_take .nil pass0 (pa_cons (pv 0) (pa_cons pe_int pa_nil))) (fun _ _ => rfl)) pa_nil)) (pg_name (i := 2) sc_l_number.nd rfl (.inl rfl))
      (pss_one (ps_set (i := 1) sc_l_number.nd rfl (.inl rfl) (pe_op op_add (pe_op op_mul (pv 1) (pe_op op_pow pe_int pe_int)) (pe_call (ok_l_take T) (hr.mono (by decide)) (by rfl) T.g_l_take T.F_l_take.kp T.b_l_take .nil pass0 (pa_cons (pv 0) (pa_cons (pe_op op_pow pe_int pe_int) pa_nil)))))))
    (pss_one (ps_ret (pe_op op_mul (pe_op op_add (pv 1) (pe_call (ok_l_take T) (hr.mono (by decide)) (by rfl) T.g_l_take T.F_l_take.kp T.b_l_take .nil pass0 (pa_cons (pv 0) (pa_cons pe_int pa_nil)))) (pe_op op_sub pe_int (pe_op op_mul pe_int (pe_call (ok_l_take T) (hr.mono (by decide)) (by rfl) T.g_l_take T.F_l_take.kp T.b_l_take .nil pass0 (pa_cons (pv 0) (pa_cons pe_int pa_nil)))))))))), ?_⟩
    refine ⟨size63 (show 5 ≤ 1000 by decide), fun p hp => ?_⟩
    generalize hG : upd _ p _ = G
    obtain ⟨s1, e1⟩ := alloc hG hp
    refine ⟨_, rfl, d, b, c, 5, rfl, hD.keep s1, by omega, by decide, by decide, fun H2 r2 D2 k2 l2 u2 => ?_⟩
    have e2 := k2 _ _ (hD.ne_d hp) (hD.ne_b hp) e1
    obtain ⟨n, hn4, hat⟩ : ∃ n : Nat, n ≤ 3 ∧ atI [V.int 0, V.int 0, V.int 1, V.int 2, V.int 3] r2 = some (V.int (n : Int)) := by
      obtain rfl | rfl | rfl | rfl | rfl : r2 = 0 ∨ r2 = 1 ∨ r2 = 2 ∨ r2 = 3 ∨ r2 = 4 := by omega
      · exact ⟨0, by omega, rfl⟩
      · exact ⟨0, by omega, rfl⟩
      · exact ⟨1, by omega, rfl⟩
      · exact ⟨2, by omega, rfl⟩
      · exact ⟨3, by omega, rfl⟩
    refine ⟨p, _, r2, V.int (n : Int), rfl, rfl, SqL.of e2, hat, n, rfl, by omega, by omega, ?_⟩
    refine for_range (n := n) (fun i σ H' => ∃ (x : Nat) (y : Option V), σ = [some (.ref d), some (.int (x : Int)), y] ∧ x < 10000000 ^ i ∧ Deck K H' d b (c + 1 + i) ∧ Kp d b H H') ?_ ?_ ?_
    · exact ⟨0, none, rfl, by decide, D2.le (by omega), (Kp.same s1).trans k2⟩
    · rintro i σ H' hi ⟨x, y, rfl, hx, D', k'⟩
      refine ⟨_, rfl, 10, 7, rfl, rfl, ⟨by decide, by decide, by decide⟩, (x : Int), _, rfl, rfl, .inr (by decide), _, rfl, 10, 7, rfl, rfl, ⟨by decide, by decide, by decide⟩, d, b, c + 1 + i, 10000000, rfl, D', by omega, by decide, by decide, fun H3 r3 D3 k3 l3 u3 => ?_⟩
      obtain ⟨m, rfl⟩ : ∃ m : Nat, r3 = (m : Int) := ⟨_, (Int.toNat_of_nonneg l3).symm⟩
      refine ⟨(x : Int) * 10000000, (m : Int), rfl, rfl, x * 10000000 + m, _, rfl, number_step hx (by omega), D3.le (by omega), k'.trans k3⟩
    · rintro σ H' ⟨x, y, rfl, hx, D', k'⟩
      have hx4 : x < 10000000 ^ 3 := Nat.lt_of_lt_of_le hx (Nat.pow_le_pow_right (by decide) hn4)
      refine ⟨_, rfl, _, rfl, d, b, c + 1 + n, 4, rfl, D', by omega, by decide, by decide, fun H3 r3 D3 k3 l3 u3 => ?_⟩
      refine ⟨(x : Int), r3, rfl, rfl, _, rfl, d, b, c + 1 + n + 1, 2, rfl, D3, by omega, by decide, by decide, fun H4 r4 D4 k4 l4 u4 => ?_⟩
      refine ⟨2, r4, rfl, rfl, .inl (by decide), 1, _, rfl, rfl, (x : Int) + r3, _, rfl, rfl, .inr (by omega), ?_⟩
      refine q _ _ (D4.le (by omega)) ((k'.trans k3).trans k4) ?_
      unfold Bd
      have e72 : (2 : Nat) ^ 72 = 4722366482869645213696 := by decide
      have e21 : (10000000 : Nat) ^ 3 = 1000000000000000000000 := by decide
      obtain rfl | rfl : r4 = 0 ∨ r4 = 1 := by omega
      · omega
      · omega
def sp_l_part (K : PySem.W.Frag) : Sp := fun vs H Q _ => ∃ (d b : Addr) (c : Int), vs = [.ref d] ∧ Deck K H d b c ∧ c < 800000 ∧ ∀ H' r q, Deck K H' d b (c + 12) → Kp d b H H' → ShQ K H' r q → BdQ 72 q → Q r H'
theorem ok_l_part (T : Tx K mg A) : FnOk P w K mg base CX0 5 A.f_l_part A.fd_l_part ["_law_deck_here"] (sp_l_part K) := by
  refine T.F_l_part.ok sc_l_part (fun vs H Q E h => ?_) (fun cdv Ar outer s H vs Q E hr h => ?_)
  · obtain ⟨d, b, c, rfl, _⟩ := h
    rfl
  · obtain ⟨d, b, c, rfl, hD, hc, q⟩ := h
    refine ⟨_, (pss_one (ps_ret (pe_call (ok_l_share T) (hr.mono (by decide)) (by rfl) T.g_l_share T.F_l_share.kp T.b_l_share .nil pass0 (pa_cons (pe_call (ok_l_number T) (hr.mono (by decide)) (by rfl) T.g_l_number T.F_l_number.kp T.b_l_number .nil pass0 (pa_cons (pv 0) pa_nil)) (pa_cons (pe_callB (call_max2 rfl) (by rfl) T.m_max (by decide +kernel) (pa_cons pe_int (pa_cons (pe_callB call_abs (by rfl) T.m_abs (by decide +kernel) (pa_cons (pe_call (ok_l_number T) (hr.mono (by decide)) (by rfl) T.g_l_number T.F_l_number.kp T.b_l_number .nil pass0 (pa_cons (pv 0) pa_nil)) pa_nil)) pa_nil))) pa_nil))))), ?_⟩
    refine ⟨_, rfl, d, b, c, rfl, hD, by omega, fun H1 r1 D1 k1 b1 => ?_⟩
    refine ⟨_, rfl, d, b, c + 6, rfl, D1, by omega, fun H2 r2 D2 k2 b2 => ?_⟩
    refine ⟨_, rfl, 1, _, rfl, ?_⟩
    obtain ⟨m, hm, hm1, hmb⟩ : ∃ m : Int, (if (if r2 < 0 then -r2 else r2) > 1 then (if r2 < 0 then -r2 else r2) else 1) = m ∧ 1 ≤ m ∧ Bd 72 m := by
      rw [abs_nat]
      refine ⟨_, rfl, ?_, ?_⟩
      · split <;> omega
      · unfold Bd at b2 ⊢
        have e72 : (2 : Nat) ^ 72 = 4722366482869645213696 := by decide
        split <;> omega
    rw [hm]
    refine ⟨r1, m, 72, rfl, by omega, hmb, by decide, fun p t u hp hsh hcr ht hu => ?_⟩
    generalize hG : upd _ p _ = G
    obtain ⟨s, e⟩ := alloc hG hp
    exact q _ _ _ ((D2.keep s).le (by omega)) ((k1.trans k2).trans (Kp.same s)) (shq_new e hsh (by omega) hcr) (divInt_bd (by omega) b1 hmb)
def sp_l_drawn_spot (K : PySem.W.Frag) : Sp := fun vs H Q _ => ∃ (d b : Addr) (c : Int), vs = [.ref d] ∧ Deck K H d b c ∧ c < 700000 ∧ ∀ H' r x y, Deck K H' d b (c + 24) → Kp d b H H' → SpQ K H' r x y → BdQ 72 x → BdQ 72 y → Q r H'
theorem ok_l_drawn_spot (T : Tx K mg A) : FnOk P w K mg base CX0 6 A.f_l_drawn_spot A.fd_l_drawn_spot ["_law_deck_here"] (sp_l_drawn_spot K) := by
  refine T.F_l_drawn_spot.ok sc_l_drawn_spot (fun vs H Q E h => ?_) (fun cdv Ar outer s H vs Q E hr h => ?_)
  · obtain ⟨d, b, c, rfl, _⟩ := h
    rfl
  · obtain ⟨d, b, c, rfl, hD, hc, q⟩ := h
    refine ⟨_, (pss_one (ps_ret (pe_tup (pa_cons (pe_call (ok_l_part T) (hr.mono (by decide)) (by rfl) T.g_l_part T.F_l_part.kp T.b_l_part .nil pass0 (pa_cons (pv 0) pa_nil)) (pa_cons (pe_call (ok_l_part T) (hr.mono (by decide)) (by rfl) T.g_l_part T.F_l_part.kp T.b_l_part .nil pass0 (pa_cons (pv 0) pa_nil)) pa_nil))))), ?_⟩
    refine ⟨_, rfl, d, b, c, rfl, hD, by omega, fun H1 r1 x D1 k1 h1 b1 => ?_⟩
    refine ⟨_, rfl, d, b, c + 12, rfl, D1, by omega, fun H2 r2 y D2 k2 h2 b2 => ?_⟩
    refine ⟨size63 (show 2 ≤ 1000 by decide), fun p hp => ?_⟩
    generalize hG : upd _ p _ = G
    obtain ⟨s, e⟩ := alloc hG hp
    exact q _ _ x y ((D2.keep s).le (by omega)) ((k1.trans k2).trans (Kp.same s)) ⟨p, r1, r2, rfl, .inl (.inl e), (h1.deck D1 k2).keep s, h2.keep s⟩ b1 b2
def sp_l_sum (K : PySem.W.Frag) : Sp := fun vs H Q _ => ∃ (v v' : V) (x y : Rat) (g : Int), vs = [v, v', .int g] ∧ ShQ K H v x ∧ ShQ K H v' y ∧ BdQ 72 x ∧ BdQ 72 y ∧ Bd 2 g ∧ ∀ H' r, Same H H' → ShQ K H' r (x + (g : Rat) * y) → Q r H'
theorem ok_l_sum (T : Tx K mg A) : FnOk P w K mg base CX0 3 A.f_l_sum A.fd_l_sum ["_law_one", "_law_other", "_law_sign"] (sp_l_sum K) := by
  refine T.F_l_sum.ok sc_l_sum (fun vs H Q E h => ?_) (fun cdv Ar outer s H vs Q E hr h => ?_)
  · obtain ⟨v, v', x, y, g, rfl, _⟩ := h
    rfl
  · obtain ⟨_, _, x, y, g, rfl, ⟨a, rfl, ha⟩, ⟨b, rfl, hb⟩, bx, bY, bg, q⟩ := h
    refine ⟨_, (pss_one (ps_ret (pe_call (ok_l_share T) (hr.mono (by decide)) (by rfl) T.g_l_share T.F_l_share.kp T.b_l_share .nil pass0 (pa_cons (pe_op op_add (pe_op op_mulW (pe_ix ix_tup (pv 0) pe_int (fun _ _ => rfl)) (pe_ix ix_tup (pv 1) pe_int (fun _ _ => rfl))) (pe_op op_mulW (pe_op op_mulW (pv 2) (pe_ix ix_tup (pv 1) pe_int (fun _ _ => rfl))) (pe_ix ix_tup (pv 0) pe_int (fun _ _ => rfl)))) (pa_cons (pe_op op_mulW (pe_ix ix_tup (pv 0) pe_int (fun _ _ => rfl)) (pe_ix ix_tup (pv 1) pe_int (fun _ _ => rfl))) pa_nil))))), ?_⟩
    have dd := Int.mul_pos (den_pos x) (den_pos y)
    refine ⟨_, rfl, a, _, 0, _, rfl, rfl, ha, rfl, _, rfl, b, _, 1, _, rfl, rfl, hb, rfl, x.num, (y.den : Int), rfl, rfl, bx.1.mulW bY.2 (by decide) (by decide), _, rfl, _, rfl, b, _, 0, _, rfl, rfl, hb, rfl, g, y.num, rfl, rfl, bg.mulW bY.1 (by decide) (by decide), _, rfl, a, _, 1, _, rfl, rfl, ha, rfl, g * y.num, (x.den : Int), rfl, rfl, (bg.mul bY.1).mulW bx.2 (by decide) (by decide), _, _, rfl, rfl, _, rfl, a, _, 1, _, rfl, rfl, ha, rfl, _, rfl, b, _, 1, _, rfl, rfl, hb, rfl, (x.den : Int), (y.den : Int), rfl, rfl, bx.2.mulW bY.2 (by decide) (by decide), _, _, 144, rfl, by omega, bx.2.mul bY.2, by decide, fun p t u hp hsh hcr _ _ => ?_⟩
    generalize hG : upd _ p _ = G
    obtain ⟨s, e⟩ := alloc hG hp
    refine q _ _ s ?_
    have hv : x + (g : Rat) * y = Rat.divInt (x.num * y.den + g * y.num * x.den) (x.den * y.den) := by
      refine eq_divInt (by omega) ?_
      simp only [Rat.intCast_mul, Rat.intCast_add, num_eq]
      grind
    rw [hv]
    exact shq_new e hsh (by omega) hcr
def sp_l_refused : Sp := fun vs H Q _ => vs = [] ∧ ∀ H', Same H H' → Q (.bl true) H'
theorem ok_l_refused (T : Tx K mg A) : FnOk P w K mg base CX0 3 A.f_l_refused A.fd_l_refused [] sp_l_refused := by
  refine T.F_l_refused.ok sc_l_refused (fun vs H Q E h => ?_) (fun cdv Ar outer s H vs Q E hr h => ?_)
  · obtain ⟨rfl, _⟩ := h
    rfl
  · obtain ⟨rfl, q⟩ := h
    refine ⟨_, (pss_cons (ps_set (i := 0) sc_l_refused.nd rfl (.inl rfl) (pe_lst pa_nil))
    (pss_cons (ps_try_as (i := 1) (Wout := fun _ _ _ _ => False) rfl rfl sc_l_refused.nd rfl rfl ⟨rfl, by decide, Or.inl T.g_NoWay⟩ takes0
      (fun W pn xe tk _ => (pss_one (ps_expr (pe_callS (ok_p_way_of T) (hr.mono (by decide)) (by rfl) T.g_p_way_of T.F_p_way_of.kp T.b_p_way_of (fun σ => passAt tk σ) (pa_cons pe_int (pa_cons pe_int pa_nil))))))
      (fun a oe cls d pn hz hf => suite_own (D := A.c_NoWay) hz fun hz => (pss_one (ps_set (i := 0) sc_l_refused.nd rfl (.inl rfl) (pe_lst (pa_cons (pe_callB (call_isE T.E_NoWay hz hf) (by rfl) T.m_isinstance (by decide +kernel) (pa_cons (pv 1) (pa_cons (pe_glob (v := .ref A.c_BodyError) (by rfl) T.g_BodyError rfl) pa_nil))) (pa_cons (pe_callB (call_isE T.E_NoWay hz hf) (by rfl) T.m_isinstance (by decide +kernel) (pa_cons (pv 1) (pa_cons (pe_bltn (v := .ty "ValueError") (by rfl) T.m_ValueError (by decide +kernel) rfl) pa_nil))) (pa_cons (pe_callB (call_isE T.E_NoWay hz hf) (by rfl) T.m_isinstance (by decide +kernel) (pa_cons (pv 1) (pa_cons (pe_glob (v := .ref A.c_NoShare) (by rfl) T.g_NoShare rfl) pa_nil))) (pa_cons (pe_callB (call_isE T.E_NoWay hz hf) (by rfl) T.m_isinstance (by decide +kernel) (pa_cons (pv 1) (pa_cons (pe_glob (v := .ref A.c_BadShape) (by rfl) T.g_BadShape rfl) pa_nil))) pa_nil)))))))))
    (pss_one (ps_ret (pe_cmpR (op_eqD hr.units) (pv 0) (pe_lst (pa_cons pe_bl (pa_cons pe_bl (pa_cons pe_bl (pa_cons pe_bl pa_nil))))) (nomark _)))))), ?_⟩
    refine ⟨size63 (Nat.zero_le _), fun z hz => ?_⟩
    generalize hG : upd _ z _ = G
    obtain ⟨s1, e1⟩ := alloc hG hz
    refine ⟨0, 0, 1, rfl, by unfold Bd; decide, by unfold Bd; decide, by decide, fun _ => ?_, fun z => absurd ⟨rfl, rfl⟩ z⟩
    refine ⟨true, T.e_NoWay, fun _ a ha => ?_, fun z => nomatch z⟩
    refine ⟨rfl, rfl, ?_⟩
    refine ⟨_, rfl, _, _, true, rfl, (fun _ h => h), T.i_NoWay_BodyError, _, rfl, _, _, true, rfl, (fun _ h => h), T.i_NoWay_ValueError, _, rfl, _, _, false, rfl, (fun _ h => h), T.i_NoWay_NoShare, _, rfl, _, _, false, rfl, (fun _ h => h), T.i_NoWay_BadShape, size63 (show 4 ≤ 1000 by decide), fun l hl => ?_⟩
    generalize hG3 : upd _ l _ = G3
    obtain ⟨s3, e3⟩ := alloc hG3 hl
    refine ⟨_, rfl, size63 (show 4 ≤ 1000 by decide), fun l2 hl2 => ?_⟩
    generalize hG4 : upd _ l2 _ = G4
    obtain ⟨s4, e4⟩ := alloc hG4 hl2
    refine ⟨_, _, .lst (SqL.of (s4 _ _ e3)) (.cons (.bl true) (.cons (.bl true) (.cons (.bl false) (.cons (.bl false) .nil)))), .lst (SqL.of e4) (.cons (.bl true) (.cons (.bl true) (.cons (.bl false) (.cons (.bl false) .nil)))), rfl, rfl, ?_⟩
    exact q _ ((s1.trans s3).trans s4)
def sp_l_ways (K : PySem.W.Frag) : Sp := fun vs H Q _ => ∃ (d b : Addr) (c : Int), vs = [.ref d] ∧ Deck K H d b c ∧ c < 700000 ∧ ∀ H' a p q, Deck K H' d b (c + 13) → Kp d b H H' → H' a = some (.tup [.int p, .int q]) → Bd 80 p → Bd 80 q → Q (.ref a) H'
theorem ok_l_ways (T : Tx K mg A) : FnOk P w K mg base CX0 5 A.f_l_ways A.fd_l_ways ["_law_deck_here"] (sp_l_ways K) := by
  refine T.F_l_ways.ok sc_l_ways (fun vs H Q E h => ?_) (fun cdv Ar outer s H vs Q E hr h => ?_)
  · obtain ⟨d, b, c, rfl, _⟩ := h
    rfl
  · obtain ⟨d, b, c, rfl, hD, hc, q⟩ := h
    refine ⟨_, (pss_cons (ps_set (i := 1) sc_l_ways.nd rfl (.inl rfl) (pe_op op_add pe_int (pe_call (ok_l_take T) (hr.mono (by decide)) (by rfl) T.g_l_take T.F_l_take.kp T.b_l_take .nil pass0 (pa_cons (pv 0) (pa_cons pe_int pa_nil)))))
    (pss_cons (ps_set (i := 2) sc_l_ways.nd rfl (.inl rfl) (pe_op op_mulW (pv 1) (pe_call (ok_l_number T) (hr.mono (by decide)) (by rfl) T.g_l_number T.F_l_number.kp T.b_l_number .nil pass0 (pa_cons (pv 0) pa_nil))))
    (pss_cons (ps_set (i := 3) sc_l_ways.nd rfl (.inl rfl) (pe_op op_mulW (pv 1) (pe_call (ok_l_number T) (hr.mono (by decide)) (by rfl) T.g_l_number T.F_l_number.kp T.b_l_number .nil pass0 (pa_cons (pv 0) pa_nil))))
    (pss_cons (ps_if (PW.pt (pw_and (pt_cmpR op_eq (pv 2) pe_int (nomark _)) (pw_and1 (pt_cmpR op_eq (pv 3) pe_int (nomark _)))))
      (pss_one (ps_set (i := 3) sc_l_ways.nd rfl (.inl rfl) (pe_un un_neg (pv 1))))
      pss_nil)
    (pss_cons (ps_set (i := 4) sc_l_ways.nd rfl (.inl rfl) (pe_call (ok_p_way_of T) (hr.mono (by decide)) (by rfl) T.g_p_way_of T.F_p_way_of.kp T.b_p_way_of .nil passL (pa_cons (pv 2) (pa_cons (pv 3) pa_nil))))
    (pss_cons (ps_if (PW.pt (pw_or (pt_not (pt_val (pe_call (ok_l_is_way T) (hr.mono (by decide)) (by rfl) T.g_l_is_way T.F_l_is_way.kp T.b_l_is_way .nil pass0 (pa_cons (pv 4) pa_nil)))) (pw_or1 (pt_cmpR (op_neD hr.units) (pv 4) (pe_call (ok_l_way T) (hr.mono (by decide)) (by rfl) T.g_l_way T.F_l_way.kp T.b_l_way .nil pass0 (pa_cons (pv 2) (pa_cons (pv 3) pa_nil))) (nomark _)))))
      (pss_one (ps_ret pe_non))
      pss_nil)
    (pss_one (ps_ret (pv 4))))))))), ?_⟩
    refine ⟨_, rfl, d, b, c, 50, rfl, hD, by omega, by decide, by decide, fun H1 r1 D1 k1 l1 u1 => ?_⟩
    refine ⟨1, r1, rfl, rfl, ?_⟩
    have bm : Bd 6 (1 + r1) := by
      unfold Bd
      have : (2 : Nat) ^ 6 = 64 := by decide
      omega
    refine ⟨_, rfl, _, rfl, d, b, c + 1, rfl, D1, by omega, fun H2 r2 D2 k2 b2 => ?_⟩
    refine ⟨1 + r1, r2, rfl, rfl, bm.mulW b2 (by decide) (by decide), ?_⟩
    refine ⟨_, rfl, _, rfl, d, b, c + 7, rfl, D2.le (by omega), by omega, fun H3 r3 D3 k3 b3 => ?_⟩
    refine ⟨1 + r1, r3, rfl, rfl, bm.mulW b3 (by decide) (by decide), ?_⟩
    have kk := (k1.trans k2).trans k3
    have D3' := D3.le (show c + 7 + 6 ≤ c + 13 by omega)
    have bp : Bd 78 ((1 + r1) * r2) := bm.mul b2
    have bq : Bd 78 ((1 + r1) * r3) := bm.mul b3
    refine ⟨_, rfl, rfl, _, rfl, ?_⟩
    have h0 : (1 + r1) * r2 = 0 ∧ ((1 + r1) * r3) = 0 → Bd 78 (-(1 + r1)) ∧ ¬ ((1 + r1) * r2 = 0 ∧ -(1 + r1) = 0) := fun _ => ⟨(bm.neg).le (by decide), fun z => by omega⟩
    refine ite2 (fun e1 => ⟨_, rfl, rfl, _, rfl, ite2 (fun e2 => ⟨_, rfl, 1 + r1, rfl, ?t1⟩) (fun e2 => ?t2)⟩) (fun e1 => iteF ?t3)
    case t1 | t2 | t3 =>
      first
        | (obtain ⟨bq2, hnz⟩ : Bd 78 (-(1 + r1)) ∧ ¬ ((1 + r1) * r2 = 0 ∧ -(1 + r1) = 0) := h0 ⟨V.int.inj (of_decide_eq_true e1), V.int.inj (of_decide_eq_true e2)⟩
           refine ⟨_, rfl, _, rfl, (1 + r1) * r2, -(1 + r1), 78, rfl, bp, bq2, by decide, (fun z => absurd z hnz), fun _ a ha => ?_⟩
           generalize hG : upd _ a _ = G
           obtain ⟨s4, e4⟩ := alloc hG ha
           have g0 := gcdI_pos2 hnz
           refine ⟨_, rfl, _, _, rfl, .nums (.inl (.inl e4)) ((bp.of_le (div_natAbs_le g0 (gcdI_dvd_l _ _))).le (by decide)) ((bq2.of_le (div_natAbs_le g0 (gcdI_dvd_r _ _))).le (by decide)), ?_⟩
           rw [decide_eq_true (cop_div2 hnz)]
           refine ⟨true, rfl, iteF ⟨_, rfl, _, rfl, _, rfl, (1 + r1) * r2, -(1 + r1), 78, rfl, bp, bq2, by decide, hnz, fun a2 ha2 => ?_⟩⟩
           generalize hG5 : upd _ a2 _ = G5
           obtain ⟨s5, e5⟩ := alloc hG5 ha2
           refine ⟨_, _, .tup (.inl (.inl (s5 _ _ e4))) (.cons (.int _) (.cons (.int _) .nil)), .tup (.inl (.inl e5)) (.cons (.int _) (.cons (.int _) .nil)), rfl, rfl, false, ?_, iteF ?_⟩
           · rw [SeqAt.eqv_refl _ rfl]; rfl
           · exact ⟨_, rfl, q _ a _ _ ((D3'.keep s4).keep s5) ((kk.trans (Kp.same s4)).trans (Kp.same s5)) (s5 _ _ e4) ((bp.of_le (div_natAbs_le g0 (gcdI_dvd_l _ _))).le (by decide)) ((bq2.of_le (div_natAbs_le g0 (gcdI_dvd_r _ _))).le (by decide))⟩)
        | (have hnz : ¬ ((1 + r1) * r2 = 0 ∧ ((1 + r1) * r3) = 0) := by
             first
               | exact fun z => e2 (decide_eq_true (congrArg V.int z.2))
               | exact fun z => e1 (decide_eq_true (congrArg V.int z.1))
           refine ⟨_, rfl, _, rfl, (1 + r1) * r2, ((1 + r1) * r3), 78, rfl, bp, bq, by decide, (fun z => absurd z hnz), fun _ a ha => ?_⟩
           generalize hG : upd _ a _ = G
           obtain ⟨s4, e4⟩ := alloc hG ha
           have g0 := gcdI_pos2 hnz
           refine ⟨_, rfl, _, _, rfl, .nums (.inl (.inl e4)) ((bp.of_le (div_natAbs_le g0 (gcdI_dvd_l _ _))).le (by decide)) ((bq.of_le (div_natAbs_le g0 (gcdI_dvd_r _ _))).le (by decide)), ?_⟩
           rw [decide_eq_true (cop_div2 hnz)]
           refine ⟨true, rfl, iteF ⟨_, rfl, _, rfl, _, rfl, (1 + r1) * r2, ((1 + r1) * r3), 78, rfl, bp, bq, by decide, hnz, fun a2 ha2 => ?_⟩⟩
           generalize hG5 : upd _ a2 _ = G5
           obtain ⟨s5, e5⟩ := alloc hG5 ha2
           refine ⟨_, _, .tup (.inl (.inl (s5 _ _ e4))) (.cons (.int _) (.cons (.int _) .nil)), .tup (.inl (.inl e5)) (.cons (.int _) (.cons (.int _) .nil)), rfl, rfl, false, ?_, iteF ?_⟩
           · rw [SeqAt.eqv_refl _ rfl]; rfl
           · exact ⟨_, rfl, q _ a _ _ ((D3'.keep s4).keep s5) ((kk.trans (Kp.same s4)).trans (Kp.same s5)) (s5 _ _ e4) ((bp.of_le (div_natAbs_le g0 (gcdI_dvd_l _ _))).le (by decide)) ((bq.of_le (div_natAbs_le g0 (gcdI_dvd_r _ _))).le (by decide))⟩)
/-! CUT -/
def sp_l_things (K : PySem.W.Frag) : Sp := fun vs H Q _ => ∃ (v : V) (aw : Addr) (x y : Rat) (p q k : Int), vs = [v, .ref aw, .int k] ∧ SpQ K H v x y ∧ SqT K H aw [.int p, .int q] ∧ BdQ 72 x ∧ BdQ 72 y ∧ Bd 80 p ∧ Bd 80 q ∧ Bd 2 k ∧ ∀ H' l us, Same H H' → H' l = some (.lst us) → us.length ≤ 40 → (∀ u ∈ us, Tg K H' u) → Q (.ref l) H'
theorem ok_l_things (T : Tx K mg A) : FnOk P w K mg base CX0 1 A.f_l_things A.fd_l_things ["_law_one", "_law_way_here", "_law_part_here"] (sp_l_things K) := by
  refine T.F_l_things.ok sc_l_things (fun vs H Q E h => ?_) (fun cdv Ar outer s H vs Q E hr h => ?_)
  · obtain ⟨v, aw, x, y, p, q, k, rfl, _⟩ := h
    rfl
  · obtain ⟨_, aw, x, y, p, q, k, rfl, hsp, hw, bx, bY, bp, bq, bm, Qk⟩ := h
    have hone0 := hsp.tg (bx.le (by decide)) (bY.le (by decide))
    obtain ⟨a, v1, v2, rfl, ha, ⟨ax, rfl, hx0⟩, ⟨ay, rfl, hy0⟩⟩ := hsp
    refine ⟨_, (pss_cons (ps_asg (pv 0) (pg_tup rfl (pgs_cons (pg_name (i := 3) sc_l_things.nd rfl (.inl rfl)) (pgs_cons (pg_name (i := 4) sc_l_things.nd rfl (.inl rfl)) pgs_nil))))
    (pss_cons (ps_set (i := 5) sc_l_things.nd rfl (.inl rfl) (pe_tup (pa_cons (pe_op op_mulW (pv 2) (pe_ix ix_tup (pv 3) pe_int (fun _ _ => rfl))) (pa_cons (pe_op op_mulW (pv 2) (pe_ix ix_tup (pv 3) pe_int (fun _ _ => rfl))) pa_nil))))
    (pss_cons (ps_set (i := 6) sc_l_things.nd rfl (.inl rfl) (pe_lst (pa_cons (pv 0) (pa_cons (pe_lst (pa_cons (pv 3) (pa_cons (pv 4) pa_nil))) (pa_cons (pe_tup (pa_cons (pv 3) (pa_cons (pv 4) (pa_cons (pv 3) pa_nil)))) (pa_cons (pe_tup (pa_cons (pv 3) pa_nil)) (pa_cons (pe_tup (pa_cons (pv 5) (pa_cons (pv 4) pa_nil))) (pa_cons (pe_tup (pa_cons (pv 3) (pa_cons (pv 5) pa_nil))) (pa_cons (pe_tup (pa_cons (pe_tup (pa_cons (pe_ix ix_tup (pv 3) pe_int (fun _ _ => rfl)) (pa_cons pe_int pa_nil))) (pa_cons (pv 4) pa_nil))) (pa_cons (pe_tup (pa_cons (pe_tup (pa_cons (pe_ix ix_tup (pv 3) pe_int (fun _ _ => rfl)) (pa_cons pe_bl pa_nil))) (pa_cons (pv 4) pa_nil))) (pa_cons (pe_tup (pa_cons (pe_callTy call_list_of (by rfl) T.m_list (by decide +kernel) (pa_cons (pv 3) pa_nil)) (pa_cons (pv 4) pa_nil))) pa_nil)))))))))))
    (pss_cons (ps_set (i := 6) sc_l_things.nd rfl (.inl rfl) (pe_op op_cat (pv 6) (pe_lst (pa_cons (pe_tup (pa_cons (pv 3) (pa_cons (pe_tup (pa_cons pe_bl (pa_cons pe_int pa_nil))) pa_nil))) (pa_cons (pe_tup (pa_cons pe_non (pa_cons (pv 4) pa_nil))) (pa_cons (pe_tup (pa_cons (pv 3) (pa_cons (pe_ix ix_tup (pv 4) pe_int (fun _ _ => rfl)) pa_nil))) (pa_cons (pv 3) (pa_cons (pv 1) (pa_cons (pe_callTy call_list_of (by rfl) T.m_list (by decide +kernel) (pa_cons (pv 1) pa_nil)) (pa_cons (pe_tup (pa_cons (pe_op op_mulW (pv 2) (pe_ix ix_tup (pv 1) pe_int (fun _ _ => rfl))) (pa_cons (pe_op op_mulW (pv 2) (pe_ix ix_tup (pv 1) pe_int (fun _ _ => rfl))) pa_nil))) (pa_cons (pe_tup (pa_cons pe_int (pa_cons pe_int pa_nil))) pa_nil)))))))))))
    (pss_cons (ps_set (i := 6) sc_l_things.nd rfl (.inl rfl) (pe_op op_cat (pv 6) (pe_lst (pa_cons (pe_tup (pa_cons pe_int (pa_cons pe_int pa_nil))) (pa_cons (pe_tup (pa_cons pe_int (pa_cons (pe_un un_neg pe_int) pa_nil))) (pa_cons (pe_tup (pa_cons pe_int (pa_cons pe_int pa_nil))) (pa_cons (pe_tup (pa_cons pe_int (pa_cons pe_bl pa_nil))) (pa_cons (pe_tup (pa_cons pe_bl (pa_cons pe_int pa_nil))) (pa_cons (pe_tup (pa_cons (pe_ix ix_tup (pv 1) pe_int (fun _ _ => rfl)) (pa_cons (pe_callTy call_str_int (by rfl) T.m_str (by decide +kernel) (pa_cons (pe_ix ix_tup (pv 1) pe_int (fun _ _ => rfl)) pa_nil)) pa_nil))) (pa_cons (pe_op op_catT (pv 1) (pe_tup (pa_cons pe_int pa_nil))) (pa_cons (pe_slice sl_tup (pv 1) po_none (po_some pe_int)) (pa_cons (pe_tup pa_nil) (pa_cons pe_dnewK pa_nil)))))))))))))
    (pss_one (ps_ret (pe_op op_cat (pv 6) (pe_lst (pa_cons pe_non (pa_cons pe_str (pa_cons pe_str (pa_cons pe_int (pa_cons pe_bl (pa_cons (pe_lst pa_nil) (pa_cons (pe_tup (pa_cons (pv 3) (pa_cons (pe_tup (pa_cons (pe_un un_neg (pe_ix ix_tup (pv 4) pe_int (fun _ _ => rfl))) (pa_cons (pe_un un_neg (pe_ix ix_tup (pv 4) pe_int (fun _ _ => rfl))) pa_nil))) pa_nil))) (pa_cons (pe_tup (pa_cons (pe_un un_neg (pe_ix ix_tup (pv 1) pe_int (fun _ _ => rfl))) (pa_cons (pe_ix ix_tup (pv 1) pe_int (fun _ _ => rfl)) pa_nil))) (pa_cons (pe_disp (pps_cons pe_str (pv 3) (pps_cons pe_str (pv 4) pps_nil)) (by rfl) (by rfl) (fun z => by cases z) (by decide)) pa_nil)))))))))))))))))), ?_⟩
    refine ⟨_, rfl, a, _, rfl, ha, rfl, _, _, rfl, _, _, rfl, rfl, ?_⟩
    refine ⟨_, rfl, _, rfl, ax, _, 0, _, rfl, rfl, hx0, rfl, k, x.num, rfl, rfl, bm.mulW bx.1 (by decide) (by decide), _, rfl, _, rfl, ax, _, 1, _, rfl, rfl, hx0, rfl, k, (x.den : Int), rfl, rfl, bm.mulW bx.2 (by decide) (by decide), size63 (show 2 ≤ 1000 by decide), fun am hm => ?_⟩
    generalize hG : upd _ am _ = G
    obtain ⟨s1, e1⟩ := alloc hG hm
    have hone := hone0.keep s1
    have hxs := Same.seqT s1 hx0
    have hys := Same.seqT s1 hy0
    have hws := Same.seqT s1 hw
    have hx : Tg K G (.ref ax) := Tg.shq (x := qp x) ⟨ax, rfl, hxs⟩ (bx.1.le (by decide)) (bx.2.le (by decide))
    have hy : Tg K G (.ref ay) := Tg.shq (x := qp y) ⟨ay, rfl, hys⟩ (bY.1.le (by decide)) (bY.2.le (by decide))
    have hway : Tg K G (.ref aw) := Tg.shq (x := (p, q)) ⟨aw, rfl, hws⟩ (bp.le (by decide)) (bq.le (by decide))
    have hwt : ∀ z ∈ [V.int p, V.int q], Tg K G z := fun z hz => by
      simp only [List.mem_cons, List.not_mem_nil, or_false] at hz
      rcases hz with rfl | rfl
      · exact .int _ (bp.le (by decide))
      · exact .int _ (bq.le (by decide))
    have hmore : Tg K G (.ref am) := Tg.shq (x := (k * x.num, k * (x.den : Int))) ⟨am, rfl, .inl (.inl e1)⟩ ((bm.mul bx.1).le (by decide)) ((bm.mul bx.2).le (by decide))
    dsimp only [gName, tSeq]
    refine asg_lst (n := 9) (K := K) (H0 := G) (by decide) (Same.refl _) (fun us1 p1 G1 s2 e2 l1 g1 => ?_) ?_
    · dsimp only [gName, tSeq]
      refine asg_cat (n := 8) (K := K) (H0 := G) (by decide) s2 e2 (by omega) (fun us2 p2 G2 s3 e3 l2 g2 => ?_) ?_
      · have s23 := s2.trans s3
        have g12 := all_app (all_keep g1 s3) g2
        have l12 : (us1 ++ us2).length = 17 := by rw [List.length_append, l1, l2]
        dsimp only [gName, tSeq]
        refine asg_cat (n := 10) (K := K) (H0 := G) (by decide) s23 e3 (by omega) (fun us3 p3 G3 s4 e4 l3 g3 => ?_) ?_
        · have s24 := s23.trans s4
          have g13 := all_app (all_keep g12 s4) g3
          have l13 : (us1 ++ us2 ++ us3).length = 27 := by rw [List.length_append, l12, l3]
          dsimp only [gName, tSeq]
          refine ret_cat (n := 9) (K := K) (H0 := G) (by decide) s24 e4 (by omega) (fun us4 p4 G4 s5 e5 l4 g4 => ?_) ?_
          · exact Qk _ p4 _ (s1.trans (s24.trans s5)) e5 (by rw [List.length_append]; omega) (all_app (all_keep g13 s5) g4)
          · exact (tgA_cons (tg_c fun _ => .non) (tgA_cons (tg_c fun _ => .str _) (tgA_cons (tg_c fun _ => .str _) (tgA_cons (tg_c fun _ => .int _ (by unfold Bd; decide +kernel)) (tgA_cons (tg_c fun _ => .bl _) (tgA_cons (tg_lst tgA_nil (by decide)) (tgA_cons (tg_tup (tgA_cons (tg_var hx) (tgA_cons (tg_tup (tgA_cons (tg_int (int_neg (int_ix hys rfl bY.1))) (tgA_cons (tg_int (int_neg (int_ix hys rfl bY.2))) tgA_nil)) (by decide)) tgA_nil)) (by decide)) (tgA_cons (tg_tup (tgA_cons (tg_int (int_neg (int_ix hws rfl bp))) (tgA_cons (tg_int (int_ix hws rfl bq)) tgA_nil)) (by decide)) (tgA_cons (tg_disp (fun H Q s q => ⟨_, rfl, _, rfl, q [(.inr "x", .ref ax), (.inr "y", .ref ay)] H (show 2 ≤ 15 by decide) (Same.refl _)⟩)) tgA_nil)))))))))
        · exact (tgA_cons (tg_tup (tgA_cons (tg_c fun _ => .int _ (by unfold Bd; decide +kernel)) (tgA_cons (tg_c fun _ => .int _ (by unfold Bd; decide +kernel)) tgA_nil)) (by decide)) (tgA_cons (tg_tup (tgA_cons (tg_c fun _ => .int _ (by unfold Bd; decide +kernel)) (tgA_cons (tg_int (int_neg (int_c (n := 64) (by unfold Bd; decide +kernel)))) tgA_nil)) (by decide)) (tgA_cons (tg_tup (tgA_cons (tg_c fun _ => .int _ (by unfold Bd; decide +kernel)) (tgA_cons (tg_c fun _ => .int _ (by unfold Bd; decide +kernel)) tgA_nil)) (by decide)) (tgA_cons (tg_tup (tgA_cons (tg_c fun _ => .int _ (by unfold Bd; decide +kernel)) (tgA_cons (tg_c fun _ => .bl _) tgA_nil)) (by decide)) (tgA_cons (tg_tup (tgA_cons (tg_c fun _ => .bl _) (tgA_cons (tg_c fun _ => .int _ (by unfold Bd; decide +kernel)) tgA_nil)) (by decide)) (tgA_cons (tg_tup (tgA_cons (tg_int (int_ix hws rfl bp)) (tgA_cons (tg_str (fun i H Q h q => ⟨i, rfl, h, q _⟩) (int_ix hws rfl bq) (by decide)) tgA_nil)) (by decide)) (tgA_cons (tg_cat1 hws hwt (by simp) (show 2 ≤ 100 by decide)) (tgA_cons (tg_cut1 hws (.int _ (bp.le (by decide)))) (tgA_cons (tg_tup tgA_nil (by decide)) (tgA_cons tg_dnew tgA_nil))))))))))
      · exact (tgA_cons (tg_tup (tgA_cons (tg_var hx) (tgA_cons (tg_tup (tgA_cons (tg_c fun _ => .bl _) (tgA_cons (tg_c fun _ => .int _ (by unfold Bd; decide +kernel)) tgA_nil)) (by decide)) tgA_nil)) (by decide)) (tgA_cons (tg_tup (tgA_cons (tg_c fun _ => .non) (tgA_cons (tg_var hy) tgA_nil)) (by decide)) (tgA_cons (tg_tup (tgA_cons (tg_var hx) (tgA_cons (tg_int (int_ix hys rfl bY.1)) tgA_nil)) (by decide)) (tgA_cons (tg_var hx) (tgA_cons (tg_var hway) (tgA_cons (tg_list (fun H Q g q => ⟨_, _, rfl, .inr g, q⟩) hws) (tgA_cons (tg_tup (tgA_cons (tg_int (int_mul (int_var bm) (int_ix hws rfl bp))) (tgA_cons (tg_int (int_mul (int_var bm) (int_ix hws rfl bq))) tgA_nil)) (by decide)) (tgA_cons (tg_tup (tgA_cons (tg_c fun _ => .int _ (by unfold Bd; decide +kernel)) (tgA_cons (tg_c fun _ => .int _ (by unfold Bd; decide +kernel)) tgA_nil)) (by decide)) tgA_nil))))))))
    · exact (tgA_cons (tg_var hone) (tgA_cons (tg_lst (tgA_cons (tg_var hx) (tgA_cons (tg_var hy) tgA_nil)) (by decide)) (tgA_cons (tg_tup (tgA_cons (tg_var hx) (tgA_cons (tg_var hy) (tgA_cons (tg_var hx) tgA_nil))) (by decide)) (tgA_cons (tg_tup (tgA_cons (tg_var hx) tgA_nil) (by decide)) (tgA_cons (tg_tup (tgA_cons (tg_var hmore) (tgA_cons (tg_var hy) tgA_nil)) (by decide)) (tgA_cons (tg_tup (tgA_cons (tg_var hx) (tgA_cons (tg_var hmore) tgA_nil)) (by decide)) (tgA_cons (tg_tup (tgA_cons (tg_tup (tgA_cons (tg_int (int_ix hxs rfl bx.1)) (tgA_cons (tg_c fun _ => .int _ (by unfold Bd; decide +kernel)) tgA_nil)) (by decide)) (tgA_cons (tg_var hy) tgA_nil)) (by decide)) (tgA_cons (tg_tup (tgA_cons (tg_tup (tgA_cons (tg_int (int_ix hxs rfl bx.1)) (tgA_cons (tg_c fun _ => .bl _) tgA_nil)) (by decide)) (tgA_cons (tg_var hy) tgA_nil)) (by decide)) (tgA_cons (tg_tup (tgA_cons (tg_list (fun H Q g q => ⟨_, _, rfl, .inr g, q⟩) hxs) (tgA_cons (tg_var hy) tgA_nil)) (by decide)) tgA_nil)))))))))
/-! CUT2 -/
def sp_l_truth : Sp := fun vs H Q _ => ∃ a b : Bool, vs = [.bl a, .bl b] ∧ Q (.bl (decide (V.bl a = V.bl b))) H
theorem ok_l_truth (T : Tx K mg A) : FnOk P w K mg base CX0 1 A.f_l_truth A.fd_l_truth ["_law_found", "_law_due"] sp_l_truth := by
  refine T.F_l_truth.ok sc_l_truth (fun vs H Q E h => ?_) (fun cdv Ar outer s H vs Q E hr h => ?_)
  · obtain ⟨a, b, rfl, _⟩ := h
    rfl
  · obtain ⟨a, b, rfl, q⟩ := h
    refine ⟨_, (pss_one (ps_ret (pe_and (pe_callB call_isi (by rfl) T.m_isinstance (by decide +kernel) (pa_cons (pv 0) (pa_cons (pe_bltn (v := .ty "bool") (by rfl) T.m_bool (by decide +kernel) rfl) pa_nil))) (pe_one (pe_cmpR op_eq (pv 0) (pv 1) (nomark _)))))), ?_⟩
    exact ⟨_, rfl, _, _, _, _, true, rfl, .ty _, .base (.bl a), kit_ty (by decide +kernel), true, rfl, iteT ⟨_, rfl, _, rfl, rfl, q⟩⟩
theorem shB_q {K : PySem.W.Frag} {H : Hp} {v : V} {q : Rat} (h : ShQ K H v q) (b : BdQ 4000 q) : ShB K H v true := by
  obtain ⟨a, rfl, h⟩ := h
  have := ShB.nums (K := K) (H := H) h b.1 b.2
  rw [decide_eq_true (isSh_q q)] at this
  exact this
theorem spB_q {K : PySem.W.Frag} {H : Hp} {v : V} {x y : Rat} (h : SpQ K H v x y) (b1 : BdQ 4000 x) (b2 : BdQ 4000 y) : SpB K H v true := by
  obtain ⟨a, v1, v2, rfl, h1, h2, h3⟩ := h
  exact .parts h1 (shB_q h2 b1) (shB_q h3 b2)
theorem ne_q {q : Rat} : (!PyData.eqv (shD (qp q)) (shD (qp q))) = false := by rw [eqv_sh]; rfl
theorem ne_sp {x y : Rat} : (!PyData.eqv (spD x y) (spD x y)) = false := by rw [eqv_sp]; rfl
def sp_l_sums (K : PySem.W.Frag) : Sp := fun vs H Q _ => ∃ (v v' vp : V) (aw : Addr) (x y x' y' z : Rat) (p q : Int), vs = [v, v', .ref aw, vp] ∧ SpQ K H v x y ∧ SpQ K H v' x' y' ∧ SqT K H aw [.int p, .int q] ∧ ShQ K H vp z ∧ BdQ 72 x ∧ BdQ 72 y ∧ BdQ 72 x' ∧ BdQ 72 y' ∧ BdQ 72 z ∧ Bd 80 p ∧ Bd 80 q ∧ ∀ H', Same H H' → Q (.bl true) H'
theorem ok_l_sums (T : Tx K mg A) : FnOk P w K mg base CX0 5 A.f_l_sums A.fd_l_sums ["_law_one", "_law_other", "_law_way_here", "_law_part_here"] (sp_l_sums K) := by
  refine T.F_l_sums.ok sc_l_sums (fun vs H Q E h => ?_) (fun cdv Ar outer s H vs Q E hr h => ?_)
  · obtain ⟨v, v', vp, aw, x, y, x', y', z, p, q, rfl, _⟩ := h
    rfl
  · obtain ⟨_, _, _, aw, x, y, x', y', z, p, q, rfl, hs1, hs2, hw, hz, bx, bY, bx', bY', bz, bp, bq, Qk⟩ := h
    have hs1' := hs1
    have hs2' := hs2
    have hz' := hz
    obtain ⟨a, v1, v2, rfl, ha, ⟨ax, rfl, hx0⟩, ⟨ay, rfl, hy0⟩⟩ := hs1
    obtain ⟨b, w1, w2, rfl, hb, hw1, hw2⟩ := hs2
    obtain ⟨az, rfl, hz0⟩ := hz
    have dd := Int.mul_pos (den_pos x) (den_pos y)
    refine ⟨_, (pss_cons (ps_asg (pv 0) (pg_tup rfl (pgs_cons (pg_tup rfl (pgs_cons (pg_name (i := 4) sc_l_sums.nd rfl (.inl rfl)) (pgs_cons (pg_name (i := 5) sc_l_sums.nd rfl (.inl rfl)) pgs_nil))) (pgs_cons (pg_tup rfl (pgs_cons (pg_name (i := 6) sc_l_sums.nd rfl (.inl rfl)) (pgs_cons (pg_name (i := 7) sc_l_sums.nd rfl (.inl rfl)) pgs_nil))) pgs_nil))))
    (pss_cons (ps_set (i := 8) sc_l_sums.nd rfl (.inl rfl) (pe_call (ok_l_share T) (hr.mono (by decide)) (by rfl) T.g_l_share T.F_l_share.kp T.b_l_share .nil pass0 (pa_cons (pe_op op_add (pe_op op_mulW (pe_op op_mulW (pe_ix ix_tup (pv 2) pe_int (fun _ _ => rfl)) (pv 4)) (pv 7)) (pe_op op_mulW (pe_op op_mulW (pe_ix ix_tup (pv 2) pe_int (fun _ _ => rfl)) (pv 6)) (pv 5))) (pa_cons (pe_op op_mulW (pv 5) (pv 7)) pa_nil))))
    (pss_cons (ps_set (i := 9) sc_l_sums.nd rfl (.inl rfl) (pe_call (ok_p_along T) (hr.mono (by decide)) (by rfl) T.g_p_along T.F_p_along.kp T.b_p_along .nil pass0 (pa_cons (pv 2) (pa_cons (pv 0) pa_nil))))
    (pss_cons (ps_if (PW.pt (pw_or (pt_not (pt_val (pe_call (ok_l_is_share T) (hr.mono (by decide)) (by rfl) T.g_l_is_share T.F_l_is_share.kp T.b_l_is_share .nil pass0 (pa_cons (pv 9) pa_nil)))) (pw_or1 (pt_cmpR (op_neD hr.units) (pv 9) (pv 8) (nomark _)))))
      (pss_one (ps_ret pe_bl))
      pss_nil)
    (pss_cons (ps_set (i := 8) sc_l_sums.nd rfl (.inl rfl) (pe_call (ok_l_share T) (hr.mono (by decide)) (by rfl) T.g_l_share T.F_l_share.kp T.b_l_share .nil pass0 (pa_cons (pe_op op_sub (pe_op op_mulW (pe_op op_mulW (pe_ix ix_tup (pv 2) pe_int (fun _ _ => rfl)) (pv 6)) (pv 5)) (pe_op op_mulW (pe_op op_mulW (pe_ix ix_tup (pv 2) pe_int (fun _ _ => rfl)) (pv 4)) (pv 7))) (pa_cons (pe_op op_mulW (pv 5) (pv 7)) pa_nil))))
    (pss_cons (ps_set (i := 9) sc_l_sums.nd rfl (.inl rfl) (pe_call (ok_p_across T) (hr.mono (by decide)) (by rfl) T.g_p_across T.F_p_across.kp T.b_p_across .nil pass0 (pa_cons (pv 2) (pa_cons (pv 0) pa_nil))))
    (pss_cons (ps_if (PW.pt (pw_or (pt_not (pt_val (pe_call (ok_l_is_share T) (hr.mono (by decide)) (by rfl) T.g_l_is_share T.F_l_is_share.kp T.b_l_is_share .nil pass0 (pa_cons (pv 9) pa_nil)))) (pw_or1 (pt_cmpR (op_neD hr.units) (pv 9) (pv 8) (nomark _)))))
      (pss_one (ps_ret pe_bl))
      pss_nil)
    (pss_cons (ps_for PassesOwn.never rfl (pi_list (pe_lst (pa_cons (pe_tup (pa_cons pe_int (pa_cons (pe_call (ok_p_spot_plus T) (hr.mono (by decide)) (by rfl) T.g_p_spot_plus T.F_p_spot_plus.kp T.b_p_spot_plus .nil pass0 (pa_cons (pv 0) (pa_cons (pv 1) pa_nil))) pa_nil))) (pa_cons (pe_tup (pa_cons (pe_un un_neg pe_int) (pa_cons (pe_call (ok_p_spot_minus T) (hr.mono (by decide)) (by rfl) T.g_p_spot_minus T.F_p_spot_minus.kp T.b_p_spot_minus .nil pass0 (pa_cons (pv 0) (pa_cons (pv 1) pa_nil))) pa_nil))) pa_nil)))) (pg_tup rfl (pgs_cons (pg_name (i := 10) sc_l_sums.nd rfl (.inl rfl)) (pgs_cons (pg_name (i := 9) sc_l_sums.nd rfl (.inl rfl)) pgs_nil)))
      (pss_cons (ps_set (i := 8) sc_l_sums.nd rfl (.inl rfl) (pe_tup (pa_cons (pe_call (ok_l_sum T) (hr.mono (by decide)) (by rfl) T.g_l_sum T.F_l_sum.kp T.b_l_sum .nil pass0 (pa_cons (pe_ix ix_tup (pv 0) pe_int (fun _ _ => rfl)) (pa_cons (pe_ix ix_tup (pv 1) pe_int (fun _ _ => rfl)) (pa_cons (pv 10) pa_nil)))) (pa_cons (pe_call (ok_l_sum T) (hr.mono (by decide)) (by rfl) T.g_l_sum T.F_l_sum.kp T.b_l_sum .nil pass0 (pa_cons (pe_ix ix_tup (pv 0) pe_int (fun _ _ => rfl)) (pa_cons (pe_ix ix_tup (pv 1) pe_int (fun _ _ => rfl)) (pa_cons (pv 10) pa_nil)))) pa_nil))))
    (pss_one (ps_if (PW.pt (pw_or (pt_not (pt_val (pe_call (ok_l_is_spot T) (hr.mono (by decide)) (by rfl) T.g_l_is_spot T.F_l_is_spot.kp T.b_l_is_spot .nil pass0 (pa_cons (pv 9) pa_nil)))) (pw_or1 (pt_cmpR (op_neD hr.units) (pv 9) (pv 8) (nomark _)))))
      (pss_one (ps_ret pe_bl))
      pss_nil))))
    (pss_cons (ps_set (i := 9) sc_l_sums.nd rfl (.inl rfl) (pe_call (ok_p_spot_times T) (hr.mono (by decide)) (by rfl) T.g_p_spot_times T.F_p_spot_times.kp T.b_p_spot_times .nil pass0 (pa_cons (pv 0) (pa_cons (pv 3) pa_nil))))
    (pss_cons (ps_set (i := 8) sc_l_sums.nd rfl (.inl rfl) (pe_tup (pa_cons (pe_call (ok_l_share T) (hr.mono (by decide)) (by rfl) T.g_l_share T.F_l_share.kp T.b_l_share .nil pass0 (pa_cons (pe_op op_mulW (pv 4) (pe_ix ix_tup (pv 3) pe_int (fun _ _ => rfl))) (pa_cons (pe_op op_mulW (pv 5) (pe_ix ix_tup (pv 3) pe_int (fun _ _ => rfl))) pa_nil))) (pa_cons (pe_call (ok_l_share T) (hr.mono (by decide)) (by rfl) T.g_l_share T.F_l_share.kp T.b_l_share .nil pass0 (pa_cons (pe_op op_mulW (pv 6) (pe_ix ix_tup (pv 3) pe_int (fun _ _ => rfl))) (pa_cons (pe_op op_mulW (pv 7) (pe_ix ix_tup (pv 3) pe_int (fun _ _ => rfl))) pa_nil))) pa_nil))))
    (pss_one (ps_ret (pe_and (pe_call (ok_l_is_spot T) (hr.mono (by decide)) (by rfl) T.g_l_is_spot T.F_l_is_spot.kp T.b_l_is_spot .nil pass0 (pa_cons (pv 9) pa_nil)) (pe_one (pe_cmpR (op_eqD hr.units) (pv 9) (pv 8) (nomark _)))))))))))))))), ?_⟩
    refine ⟨_, rfl, a, _, rfl, ha, rfl, _, _, rfl, ax, _, rfl, hx0, rfl, _, _, rfl, _, _, rfl, rfl, _, _, rfl, ay, _, rfl, hy0, rfl, _, _, rfl, _, _, rfl, rfl, rfl, ?_⟩
    -- along
    refine ⟨_, rfl, aw, _, 0, _, rfl, rfl, hw, rfl, _, rfl, p, x.num, rfl, rfl, bp.mulW bx.1 (by decide) (by decide), _, rfl, p * x.num, (y.den : Int), rfl, rfl, (bp.mul bx.1).mulW bY.2 (by decide) (by decide), _, rfl, aw, _, 1, _, rfl, rfl, hw, rfl, _, rfl, q, y.num, rfl, rfl, bq.mulW bY.1 (by decide) (by decide), _, rfl, q * y.num, (x.den : Int), rfl, rfl, (bq.mul bY.1).mulW bx.2 (by decide) (by decide), _, _, rfl, rfl, _, rfl, _, rfl, (x.den : Int), (y.den : Int), rfl, rfl, bx.2.mulW bY.2 (by decide) (by decide), _, _, 144, rfl, by omega, bx.2.mul bY.2, by decide, fun p1 t1 u1 hp1 hsh1 hcr1 _ _ => ?_⟩
    generalize hG1 : upd _ p1 _ = G1
    obtain ⟨s1, e1⟩ := alloc hG1 hp1
    have hd1 : ShQ K G1 (.ref p1) ((p : Rat) * x + (q : Rat) * y) := by
      have hv : (p : Rat) * x + (q : Rat) * y = Rat.divInt (p * x.num * y.den + q * y.num * x.den) (x.den * y.den) := by
        refine eq_divInt (by omega) ?_
        simp only [Rat.intCast_mul, Rat.intCast_add, num_eq]
        grind
      rw [hv]
      exact shq_new e1 hsh1 (by omega) hcr1
    refine ⟨_, rfl, _, rfl, aw, _, p, q, x, y, 72, 80, rfl, Same.seqT s1 hw, hs1'.keep s1, bp, bq, bx, bY, by decide, by decide, by decide, fun H2 r2 s2 g2 => ?_⟩
    refine ⟨_, rfl, r2, true, rfl, shB_q g2 ((((bdq_int bp (by decide)).mul bx).add ((bdq_int bq (by decide)).mul bY)).le (by decide)), true, rfl, iteF ⟨_, rfl, _, rfl, _, _, g2.dp, (hd1.keep s2).dp, shaped_sh _, shaped_sh _, false, congrArg V.bl ne_q, iteF ?_⟩⟩
    have s12 := s1.trans s2
    -- across
    refine ⟨_, rfl, aw, _, 0, _, rfl, rfl, Same.seqT s12 hw, rfl, _, rfl, p, y.num, rfl, rfl, bp.mulW bY.1 (by decide) (by decide), _, rfl, p * y.num, (x.den : Int), rfl, rfl, (bp.mul bY.1).mulW bx.2 (by decide) (by decide), _, rfl, aw, _, 1, _, rfl, rfl, Same.seqT s12 hw, rfl, _, rfl, q, x.num, rfl, rfl, bq.mulW bx.1 (by decide) (by decide), _, rfl, q * x.num, (y.den : Int), rfl, rfl, (bq.mul bx.1).mulW bY.2 (by decide) (by decide), _, _, rfl, rfl, _, rfl, _, rfl, (x.den : Int), (y.den : Int), rfl, rfl, bx.2.mulW bY.2 (by decide) (by decide), _, _, 144, rfl, by omega, bx.2.mul bY.2, by decide, fun p3 t3 u3 hp3 hsh3 hcr3 _ _ => ?_⟩
    generalize hG3 : upd _ p3 _ = G3
    obtain ⟨s3, e3⟩ := alloc hG3 hp3
    have hd3 : ShQ K G3 (.ref p3) ((p : Rat) * y - (q : Rat) * x) := by
      have hv : (p : Rat) * y - (q : Rat) * x = Rat.divInt (p * y.num * x.den - q * x.num * y.den) (x.den * y.den) := by
        refine eq_divInt (by omega) ?_
        simp only [Rat.intCast_mul, Rat.intCast_sub, num_eq]
        grind
      rw [hv]
      exact shq_new e3 hsh3 (by omega) hcr3
    have s13 := s12.trans s3
    refine ⟨_, rfl, _, rfl, aw, _, p, q, x, y, 72, 80, rfl, Same.seqT s13 hw, hs1'.keep s13, bp, bq, bx, bY, by decide, by decide, by decide, fun H4 r4 s4 g4 => ?_⟩
    refine ⟨_, rfl, r4, true, rfl, shB_q g4 ((((bdq_int bp (by decide)).mul bY).sub ((bdq_int bq (by decide)).mul bx)).le (by decide)), true, rfl, iteF ⟨_, rfl, _, rfl, _, _, g4.dp, (hd3.keep s4).dp, shaped_sh _, shaped_sh _, false, congrArg V.bl ne_q, iteF ?_⟩⟩
    have s14 := s13.trans s4
    -- sum and difference
    refine ⟨_, rfl, _, rfl, _, _, x, y, x', y', 72, 72, rfl, hs1'.keep s14, hs2'.keep s14, bx, bY, bx', bY', by decide, by decide, fun H5 r5 s5 g5 => ?_⟩
    refine ⟨size63 (show 2 ≤ 1000 by decide), fun q1 hq1 => ?_⟩
    generalize hG6 : upd _ q1 _ = G6
    obtain ⟨s6, e6⟩ := alloc hG6 hq1
    have s16 := (s14.trans s5).trans s6
    refine ⟨1, rfl, _, rfl, _, rfl, _, _, x, y, x', y', 72, 72, rfl, hs1'.keep s16, hs2'.keep s16, bx, bY, bx', bY', by decide, by decide, fun H7 r7 s7 g7 => ?_⟩
    refine ⟨size63 (show 2 ≤ 1000 by decide), fun q2 hq2 => ?_⟩
    generalize hG8 : upd _ q2 _ = G8
    obtain ⟨s8, e8⟩ := alloc hG8 hq2
    refine ⟨size63 (show 2 ≤ 1000 by decide), fun l hl => ?_⟩
    generalize hG9 : upd _ l _ = G9
    obtain ⟨s9, e9⟩ := alloc hG9 hl
    have s19 := ((s16.trans s7).trans s8).trans s9
    have i1 : SqT K G9 q1 [.int 1, r5] := .inl (.inl (s9 _ _ (s8 _ _ (s7 _ _ e6))))
    have i2 : SqT K G9 q2 [.int (-1), r7] := .inl (.inl (s9 _ _ e8))
    have j1 : SpQ K G9 r5 (x + ((1 : Int) : Rat) * x') (y + ((1 : Int) : Rat) * y') := by
      have e1 : x + ((1 : Int) : Rat) * x' = x + x' := by grind
      have e2 : y + ((1 : Int) : Rat) * y' = y + y' := by grind
      rw [e1, e2]
      exact (((g5.keep s6).keep s7).keep s8).keep s9
    have j2 : SpQ K G9 r7 (x + ((-1 : Int) : Rat) * x') (y + ((-1 : Int) : Rat) * y') := by
      have e0 : ((-1 : Int) : Rat) = -1 := rfl
      have e1 : x + ((-1 : Int) : Rat) * x' = x - x' := by rw [e0]; grind
      have e2 : y + ((-1 : Int) : Rat) * y' = y - y' := by rw [e0]; grind
      rw [e1, e2]
      exact (g7.keep s8).keep s9
    refine ⟨l, rfl, ⟨_, SqL.of e9⟩, for_list (K := K) (a := l) (xs := [.ref q1, .ref q2]) (fun i σ H' => ∃ z8 z9 z10, σ = [some (.ref a), some (.ref b), some (.ref aw), some (.ref az), some (.int x.num), some (.int x.den), some (.int y.num), some (.int y.den), z8, z9, z10] ∧ Same G9 H') ⟨_, _, _, rfl, Same.refl _⟩ ?_ ?_ ?_⟩
    · rintro i σ H' _ ⟨_, _, _, _, k'⟩
      exact SqL.of (k' _ _ e9)
    · rintro i v σ H' hv ⟨z8, z9, z10, rfl, k'⟩
      obtain ⟨qq, g, f, rfl, hq, hsp, hg⟩ : ∃ (qq : Addr) (g : Int) (f : V), v = .ref qq ∧ SqT K G9 qq [.int g, f] ∧ SpQ K G9 f (x + (g : Rat) * x') (y + (g : Rat) * y') ∧ Bd 2 g := by
        match i, hv with
        | 0, e => cases e; exact ⟨q1, 1, r5, rfl, i1, j1, by unfold Bd; decide⟩
        | 1, e => cases e; exact ⟨q2, -1, r7, rfl, i2, j2, by unfold Bd; decide⟩
      refine ⟨qq, _, rfl, Same.seqT k' hq, rfl, _, _, rfl, _, _, rfl, rfl, ?_⟩
      have sk := s19.trans k'
      refine ⟨_, rfl, a, _, 0, _, rfl, rfl, Same.seqT sk ha, rfl, _, rfl, b, _, 0, _, rfl, rfl, Same.seqT sk hb, rfl, _, rfl, .ref ax, w1, x, x', g, rfl, ShAt.keep ⟨ax, rfl, hx0⟩ sk, hw1.keep sk, bx, bx', hg, fun Ha ra sa ga => ?_⟩
      have ska := sk.trans sa
      refine ⟨_, rfl, a, _, 1, _, rfl, rfl, Same.seqT ska ha, rfl, _, rfl, b, _, 1, _, rfl, rfl, Same.seqT ska hb, rfl, _, rfl, .ref ay, w2, y, y', g, rfl, ShAt.keep ⟨ay, rfl, hy0⟩ ska, hw2.keep ska, bY, bY', hg, fun Hb rb sb gb => ?_⟩
      refine ⟨size63 (show 2 ≤ 1000 by decide), fun pc hpc => ?_⟩
      generalize hGc : upd _ pc _ = Gc
      obtain ⟨sc, ec⟩ := alloc hGc hpc
      have hdue : SpQ K Gc (.ref pc) (x + (g : Rat) * x') (y + (g : Rat) * y') := ⟨pc, ra, rb, rfl, .inl (.inl ec), (ga.keep sb).keep sc, gb.keep sc⟩
      have hf : SpQ K Gc f (x + (g : Rat) * x') (y + (g : Rat) * y') := (((hsp.keep k').keep sa).keep sb).keep sc
      refine ⟨_, rfl, f, true, rfl, spB_q hf ((bx.add ((bdq_int hg (by decide)).mul bx')).le (by decide)) ((bY.add ((bdq_int hg (by decide)).mul bY')).le (by decide)), fun Hd sd => ⟨true, rfl, iteF ?_⟩⟩
      refine ⟨_, rfl, _, rfl, _, _, (hf.keep sd).dp, (hdue.keep sd).dp, shaped_sp _ _, shaped_sp _ _, false, congrArg V.bl ne_sp, iteF ?_⟩
      exact ⟨_, _, _, rfl, (((k'.trans sa).trans sb).trans sc).trans sd⟩
    · rintro σ Ha ⟨z8, z9, z10, rfl, ka⟩
      have sk := s19.trans ka
      -- the product
      refine ⟨_, rfl, _, rfl, _, _, x, y, z, 72, 72, rfl, hs1'.keep sk, hz'.keep sk, bx, bY, bz, by decide, by decide, fun Hb rb sb gb => ?_⟩
      have skb := sk.trans sb
      have dz := den_pos z
      refine ⟨_, rfl, _, rfl, az, _, 0, _, rfl, rfl, Same.seqT skb hz0, rfl, x.num, z.num, rfl, rfl, bx.1.mulW bz.1 (by decide) (by decide), _, rfl, _, rfl, az, _, 1, _, rfl, rfl, Same.seqT skb hz0, rfl, (x.den : Int), (z.den : Int), rfl, rfl, bx.2.mulW bz.2 (by decide) (by decide), _, _, 144, rfl, by have := Int.mul_pos (den_pos x) dz; omega, bx.2.mul bz.2, by decide, fun pc tc uc hpc hshc hcrc _ _ => ?_⟩
      generalize hGc : upd _ pc _ = Gc
      obtain ⟨sc, ec⟩ := alloc hGc hpc
      have skc := skb.trans sc
      refine ⟨_, rfl, _, rfl, az, _, 0, _, rfl, rfl, Same.seqT skc hz0, rfl, y.num, z.num, rfl, rfl, bY.1.mulW bz.1 (by decide) (by decide), _, rfl, _, rfl, az, _, 1, _, rfl, rfl, Same.seqT skc hz0, rfl, (y.den : Int), (z.den : Int), rfl, rfl, bY.2.mulW bz.2 (by decide) (by decide), _, _, 144, rfl, by have := Int.mul_pos (den_pos y) dz; omega, bY.2.mul bz.2, by decide, fun pd td ud hpd hshd hcrd _ _ => ?_⟩
      generalize hGd : upd _ pd _ = Gd
      obtain ⟨sd, ed⟩ := alloc hGd hpd
      refine ⟨size63 (show 2 ≤ 1000 by decide), fun pe hpe => ?_⟩
      generalize hGe : upd _ pe _ = Ge
      obtain ⟨se, ee⟩ := alloc hGe hpe
      have h1 : ShQ K Gc (.ref pc) (x * z) := by
        rw [mul_divInt]
        exact shq_new ec hshc (by have := Int.mul_pos (den_pos x) dz; omega) hcrc
      have h2 : ShQ K Gd (.ref pd) (y * z) := by
        rw [mul_divInt]
        exact shq_new ed hshd (by have := Int.mul_pos (den_pos y) dz; omega) hcrd
      have hdue : SpQ K Ge (.ref pe) (x * z) (y * z) := ⟨pe, _, _, rfl, .inl (.inl ee), (h1.keep sd).keep se, h2.keep se⟩
      have hf : SpQ K Ge rb (x * z) (y * z) := ((gb.keep sc).keep sd).keep se
      refine ⟨_, rfl, rb, true, rfl, spB_q hf ((bx.mul bz).le (by decide)) ((bY.mul bz).le (by decide)), fun Hf sf => ⟨true, rfl, iteT ?_⟩⟩
      refine ⟨_, rfl, _, rfl, _, _, (hf.keep sf).dp, (hdue.keep sf).dp, shaped_sp _ _, shaped_sp _ _, ?_⟩
      rw [eqv_sp]
      exact Qk _ ((((skc.trans sd).trans se).trans sf))
theorem SpB.keep {K : PySem.W.Frag} {H H' : Hp} {v : V} {r : Bool} (h : SpB K H v r) (k : Same H H') : SpB K H' v r := by
  cases h with
  | notup h1 h2 => exact .notup (TyX.keep h1 k) h2
  | count h1 h2 => exact .count (Same.seqT k h1) h2
  | parts h1 h2 h3 => exact .parts (Same.seqT k h1) (h2.keep k) (h3.keep k)
theorem cutV_mem {xs : List V} {lo hi : Option Int} {v : V} (h : v ∈ cutV xs lo hi) : v ∈ xs := by
  unfold cutV at h
  exact List.mem_of_mem_drop (List.mem_of_mem_take h)
def sp_law (K : PySem.W.Frag) : Sp := fun vs H Q _ => ∃ (a : Addr) (ns : List Int), vs = [.ref a] ∧ Only H ∧ SqL K H a (ns.map V.int) ∧ ns.length ≤ 63 ∧ ∀ H', Q (.bl true) H'
theorem bdq0 : BdQ 72 0 := by
  unfold BdQ Bd
  decide
theorem ok_law (T : Tx K mg A) : FnOk P w K mg base CX0 7 A.f_law A.fd_law ["_law_script"] (sp_law K) := by
  refine T.F_law.ok sc_law (fun vs H Q E h => ?_) (fun cdv Ar outer s H vs Q E hr h => ?_)
  · obtain ⟨a, ns, rfl, _⟩ := h
    rfl
  · obtain ⟨a, ns, rfl, hO, hS, hlen, q⟩ := h
    obtain ⟨b1, b2, t0, t1, t2⟩ := T.t_STILL
    have hstill : ∀ H, SpQ K H (.ref A.n_STILL) 0 0 := fun H => ⟨_, _, _, rfl, t0 H, ⟨b1, rfl, t1 H⟩, ⟨b2, rfl, t2 H⟩⟩
    refine ⟨_, (pss_cons (ps_set (i := 1) sc_law.nd rfl (.inl rfl) (pe_call (ok_l_deck T) (hr.mono (by decide)) (by rfl) T.g_l_deck T.F_l_deck.kp T.b_l_deck .nil pass0 (pa_cons (pv 0) pa_nil)))
    (pss_cons (ps_if (PW.pt (pw_or (pt_cmpR (op_neD hr.units) (pe_glob (v := .ref A.n_STILL) (by rfl) T.g_STILL rfl) (pe_tup (pa_cons (pe_tup (pa_cons pe_int (pa_cons pe_int pa_nil))) (pa_cons (pe_tup (pa_cons pe_int (pa_cons pe_int pa_nil))) pa_nil))) (nomark _)) (pw_or1 (pt_not (pt_val (pe_call0 (ok_l_refused T) (hr.mono (by decide)) (by rfl) T.g_l_refused T.F_l_refused.kp T.b_l_refused .nil pass0))))))
      (pss_one (ps_ret pe_bl))
      pss_nil)
    (pss_cons (ps_for PassesOwn.never rfl (pi_range1 (by rfl) T.m_range (pa_cons pe_int pa_nil)) (pg_name (i := 2) sc_law.nd rfl (.inl rfl))
      (pss_cons (ps_set (i := 3) sc_law.nd rfl (.inl rfl) (pe_call (ok_l_take T) (hr.mono (by decide)) (by rfl) T.g_l_take T.F_l_take.kp T.b_l_take .nil pass0 (pa_cons (pv 1) (pa_cons pe_int pa_nil))))
    (pss_cons (ps_set (i := 4) sc_law.nd rfl (.inl rfl) (pe_call (ok_l_ways T) (hr.mono (by decide)) (by rfl) T.g_l_ways T.F_l_ways.kp T.b_l_ways .nil pass0 (pa_cons (pv 1) pa_nil)))
    (pss_cons (ps_if (pt_cmpR op_isN (pv 4) pe_non (nomark _))
      (pss_one (ps_ret pe_bl))
      pss_nil)
    (pss_cons (ps_set (i := 5) sc_law.nd rfl (.inl rfl) (pe_call (ok_l_drawn_spot T) (hr.mono (by decide)) (by rfl) T.g_l_drawn_spot T.F_l_drawn_spot.kp T.b_l_drawn_spot .nil pass0 (pa_cons (pv 1) pa_nil)))
    (pss_cons (ps_set (i := 6) sc_law.nd rfl (.inl rfl) (pe_ix ix_list (pe_lst (pa_cons (pe_call (ok_l_drawn_spot T) (hr.mono (by decide)) (by rfl) T.g_l_drawn_spot T.F_l_drawn_spot.kp T.b_l_drawn_spot .nil pass0 (pa_cons (pv 1) pa_nil)) (pa_cons (pv 5) (pa_cons (pe_glob (v := .ref A.n_STILL) (by rfl) T.g_STILL rfl) pa_nil)))) (pe_call (ok_l_take T) (hr.mono (by decide)) (by rfl) T.g_l_take T.F_l_take.kp T.b_l_take .nil pass0 (pa_cons (pv 1) (pa_cons pe_int pa_nil))) (fun _ _ => rfl)))
    (pss_cons (ps_if (pt_not (pt_val (pe_call (ok_l_sums T) (hr.mono (by decide)) (by rfl) T.g_l_sums T.F_l_sums.kp T.b_l_sums .nil pass0 (pa_cons (pv 5) (pa_cons (pv 6) (pa_cons (pv 4) (pa_cons (pe_call (ok_l_part T) (hr.mono (by decide)) (by rfl) T.g_l_part T.F_l_part.kp T.b_l_part .nil pass0 (pa_cons (pv 1) pa_nil)) pa_nil)))))))
      (pss_one (ps_ret pe_bl))
      pss_nil)
    (pss_cons (ps_set (i := 7) sc_law.nd rfl (.inl rfl) (pe_call (ok_l_things T) (hr.mono (by decide)) (by rfl) T.g_l_things T.F_l_things.kp T.b_l_things .nil pass0 (pa_cons (pv 5) (pa_cons (pv 4) (pa_cons (pe_op op_add pe_int (pe_call (ok_l_take T) (hr.mono (by decide)) (by rfl) T.g_l_take T.F_l_take.kp T.b_l_take .nil pass0 (pa_cons (pv 1) (pa_cons pe_int pa_nil)))) pa_nil)))))
    (pss_one (ps_for PassesOwn.never rfl (pi_list (pe_slice sl_list (pe_op op_cat (pe_slice sl_list (pv 7) (po_some (pv 3)) po_none) (pe_slice sl_list (pv 7) po_none (po_some (pv 3)))) po_none (po_some pe_int))) (pg_name (i := 8) sc_law.nd rfl (.inl rfl))
      (pss_one (ps_if (PW.pt (pw_or (pt_not (pt_val (pe_call (ok_l_truth T) (hr.mono (by decide)) (by rfl) T.g_l_truth T.F_l_truth.kp T.b_l_truth .nil pass0 (pa_cons (pe_call (ok_p_is_spot T) (hr.mono (by decide)) (by rfl) T.g_p_is_spot T.F_p_is_spot.kp T.b_p_is_spot .nil pass0 (pa_cons (pv 8) pa_nil)) (pa_cons (pe_call (ok_l_is_spot T) (hr.mono (by decide)) (by rfl) T.g_l_is_spot T.F_l_is_spot.kp T.b_l_is_spot .nil pass0 (pa_cons (pv 8) pa_nil)) pa_nil))))) (pw_or1 (pt_not (pt_val (pe_call (ok_l_truth T) (hr.mono (by decide)) (by rfl) T.g_l_truth T.F_l_truth.kp T.b_l_truth .nil pass0 (pa_cons (pe_call (ok_p_is_way T) (hr.mono (by decide)) (by rfl) T.g_p_is_way T.F_p_is_way.kp T.b_p_is_way .nil pass0 (pa_cons (pv 8) pa_nil)) (pa_cons (pe_call (ok_l_is_way T) (hr.mono (by decide)) (by rfl) T.g_l_is_way T.F_l_is_way.kp T.b_l_is_way .nil pass0 (pa_cons (pv 8) pa_nil)) pa_nil))))))))
      (pss_one (ps_ret pe_bl))
      pss_nil))))))))))))
    (pss_one (ps_ret pe_bl))))), ?_⟩
    refine ⟨_, rfl, a, ns, rfl, .mk hO hS, hlen, fun H1 d b hd hb D1 k1 => ?_⟩
    refine ⟨size63 (show 2 ≤ 1000 by decide), fun p1 f1 => ?_⟩
    generalize hG1 : upd _ p1 _ = G1
    obtain ⟨s1, e1⟩ := alloc hG1 f1
    refine ⟨size63 (show 2 ≤ 1000 by decide), fun p2 f2 => ?_⟩
    generalize hG2 : upd _ p2 _ = G2
    obtain ⟨s2, e2⟩ := alloc hG2 f2
    refine ⟨size63 (show 2 ≤ 1000 by decide), fun p3 f3 => ?_⟩
    generalize hG3 : upd _ p3 _ = G3
    obtain ⟨s3, e3⟩ := alloc hG3 f3
    have hz : SpQ K G3 (.ref p3) 0 0 := ⟨p3, _, _, rfl, .inl (.inl e3), ⟨p1, rfl, .inl (.inl (s3 _ _ (s2 _ _ e1)))⟩, ⟨p2, rfl, .inl (.inl (s3 _ _ e2))⟩⟩
    refine ⟨_, _, (hstill _).dp, hz.dp, shaped_sp _ _, shaped_sp _ _, false, congrArg V.bl ne_sp, iteF ?_⟩
    refine ⟨rfl, fun H4 s4 => ⟨true, rfl, iteF ?_⟩⟩
    have D4 := (((D1.keep s1).keep s2).keep s3).keep s4
    refine ⟨4, rfl, by decide, by decide, for_range (n := 4) (fun i σ H' => ∃ z2 z3 z4 z5 z6 z7 z8, σ = [some (.ref a), some (.ref d), z2, z3, z4, z5, z6, z7, z8] ∧ Deck K H' d b (80 * i)) ?_ ?_ ?_⟩
    · exact ⟨_, _, _, _, _, _, _, rfl, D4.le (by omega)⟩
    · rintro i σ H' hi ⟨z2, z3, z4, z5, z6, z7, z8, rfl, D'⟩
      refine ⟨_, rfl, d, b, _, 36, rfl, D', by omega, by decide, by decide, fun H5 r5 D5 k5 l5 u5 => ?_⟩
      refine ⟨_, rfl, d, b, _, rfl, D5, by omega, fun H6 aw p q' D6 k6 hw bp bq => ?_⟩
      refine ⟨_, rfl, rfl, false, congrArg V.bl (decide_eq_false fun z => nomatch z), iteF ?_⟩
      refine ⟨_, rfl, d, b, _, rfl, D6, by omega, fun H7 r7 x y D7 k7 h7 bx bY => ?_⟩
      have hw7 := D6.tup k7 hw
      refine ⟨_, rfl, d, b, _, rfl, D7, by omega, fun H8 r8 x' y' D8 k8 h8 bx' bY' => ?_⟩
      have hw8 := D7.tup k8 hw7
      have h78 := h7.deck D7 k8
      refine ⟨_, rfl, size63 (show 3 ≤ 1000 by decide), fun l9 f9 => ?_⟩
      generalize hG9 : upd _ l9 _ = G9
      obtain ⟨s9, e9⟩ := alloc hG9 f9
      have D9 := D8.keep s9
      refine ⟨_, rfl, d, b, _, 3, rfl, D9, by omega, by decide, by decide, fun Ha ra Da ka la ua => ?_⟩
      have ea := ka _ _ (D8.ne_d f9) (D8.ne_b f9) e9
      have h7a := (h78.keep s9).deck D9 ka
      have hwa := D9.tup ka (s9 _ _ hw8)
      obtain ⟨vo, xo, yo, hat, ho, bxo, byo⟩ : ∃ (vo : V) (xo yo : Rat), atI [r8, r7, V.ref A.n_STILL] ra = some vo ∧ SpQ K Ha vo xo yo ∧ BdQ 72 xo ∧ BdQ 72 yo := by
        obtain rfl | rfl | rfl : ra = 0 ∨ ra = 1 ∨ ra = 2 := by omega
        · exact ⟨r8, x', y', rfl, (h8.keep s9).deck D9 ka, bx', bY'⟩
        · exact ⟨r7, x, y, rfl, h7a, bx, bY⟩
        · exact ⟨_, 0, 0, rfl, hstill _, bdq0, bdq0⟩
      refine ⟨l9, _, ra, vo, rfl, rfl, SqL.of ea, hat, ?_⟩
      refine ⟨_, rfl, _, rfl, _, rfl, _, rfl, d, b, _, rfl, Da, by omega, fun Hb rb z Db kb hb' bz => ?_⟩
      have h7b := h7a.deck Da kb
      have hob := ho.deck Da kb
      have hwb := Da.tup kb hwa
      refine ⟨r7, vo, rb, aw, x, y, xo, yo, z, p, q', rfl, h7b, hob, .inl (.inl hwb), hb', bx, bY, bxo, byo, bz, bp, bq, fun Hc sc => ⟨true, rfl, iteF ?_⟩⟩
      have Dc := Db.keep sc
      refine ⟨_, rfl, _, rfl, _, rfl, d, b, _, 3, rfl, Dc, by omega, by decide, by decide, fun Hd rd Dd kd ld ud => ?_⟩
      have bk : Bd 2 (1 + rd) := by
        unfold Bd
        have : (2 : Nat) ^ 2 = 4 := by decide
        omega
      refine ⟨1, rd, rfl, rfl, r7, aw, x, y, p, q', 1 + rd, rfl, (h7b.keep sc).deck Dc kd, .inl (.inl (Dc.tup kd (sc _ _ hwb))), bx, bY, bp, bq, bk, fun He le us se ee hlu hgu => ?_⟩
      have De := Dd.keep se
      refine ⟨_, rfl, _, rfl, r5, rfl, le, us, rfl, SqL.of ee, fun lf ff => ?_⟩
      generalize hGf : upd _ lf _ = Gf
      obtain ⟨sf, ef⟩ := alloc hGf ff
      refine ⟨_, rfl, _, rfl, r5, rfl, le, us, rfl, SqL.of (sf _ _ ee), fun lg fg => ?_⟩
      generalize hGg : upd _ lg _ = Gg
      obtain ⟨sg, eg⟩ := alloc hGg fg
      refine ⟨lf, lg, _, _, rfl, rfl, sg _ _ ef, eg, size63 (by have h1 := cutV_length us (some r5) none; have h2 := cutV_length us none (some r5); omega), fun lh fh => ?_⟩
      generalize hGh : upd _ lh _ = Gh
      obtain ⟨sh, eh⟩ := alloc hGh fh
      refine ⟨9, rfl, lh, _, rfl, SqL.of eh, fun li fi => ?_⟩
      generalize hGi : upd _ li _ = Gi
      obtain ⟨si, ei⟩ := alloc hGi fi
      have sfi := ((sf.trans sg).trans sh).trans si
      refine ⟨li, rfl, ⟨_, SqL.of ei⟩, for_list (K := K) (a := li) (xs := cutV (cutV us (some r5) none ++ cutV us none (some r5)) none (some 9)) (fun j σ H' => ∃ z8, σ = [some (.ref a), some (.ref d), some (.int (0 + i)), some (.int r5), some (.ref aw), some r7, some vo, some (.ref le), z8] ∧ Same Gi H') ⟨_, rfl, Same.refl _⟩ ?_ ?_ ?_⟩
      · rintro j σ H' _ ⟨_, _, k'⟩
        exact SqL.of (k' _ _ ei)
      · rintro j v σ H' hv ⟨z8, rfl, k'⟩
        have hvu : v ∈ us := by
          have h1 := cutV_mem (List.mem_of_getElem? hv)
          rcases List.mem_append.mp h1 with h1 | h1
          · exact cutV_mem h1
          · exact cutV_mem h1
        have hvt : Tg K H' v := (hgu v hvu).keep (sfi.trans k')
        obtain ⟨r1, hB1⟩ := hvt.spB
        refine ⟨_, rfl, v, r1, rfl, hB1, fun Hj sj => ?_⟩
        refine ⟨_, rfl, v, r1, rfl, hB1.keep sj, fun Hk sk => ?_⟩
        refine ⟨r1, r1, rfl, true, congrArg V.bl (decide_eq_true rfl), iteF ?_⟩
        obtain ⟨r2, hB2⟩ := (hvt.keep (sj.trans sk)).wyB
        refine ⟨_, rfl, v, r2, rfl, hB2, _, rfl, v, r2, rfl, hB2, r2, r2, rfl, true, congrArg V.bl (decide_eq_true rfl), iteF ?_⟩
        exact ⟨_, rfl, (k'.trans sj).trans sk⟩
      · rintro σ Hj ⟨z8, rfl, kj⟩
        exact ⟨_, _, _, _, _, _, _, rfl, (De.keep (sfi.trans kj)).le (by omega)⟩
    · rintro σ H' _
      exact q _
end
theorem all_mk {l : PySem.W.OpenLaw} {w : World} {K : PySem.W.Frag} {h : Heap} {mg : Str → Option Value} {fa : Addr} (X : K.In h) (G : h.Ns mainGlobals mg) (hfa : mg "law" = some (.ref fa))
    {od0 an0 : Option Addr} {sl0 : Array (Option Value)} {oc0 kV0 dc0 pm0 cd0 ct0 : Value} {f0 : Addr}
    {od1 an1 : Option Addr} {sl1 : Array (Option Value)} {oc1 kV1 dc1 pm1 cd1 ct1 : Value} {f1 : Addr}
    {od2 an2 : Option Addr} {sl2 : Array (Option Value)} {oc2 kV2 dc2 pm2 cd2 ct2 : Value} {f2 : Addr}
    {od3 an3 : Option Addr} {sl3 : Array (Option Value)} {oc3 kV3 dc3 pm3 cd3 ct3 : Value} {f3 : Addr}
    {od4 an4 : Option Addr} {sl4 : Array (Option Value)} {oc4 kV4 dc4 pm4 cd4 ct4 : Value} {f4 : Addr}
    {od5 an5 : Option Addr} {sl5 : Array (Option Value)} {oc5 kV5 dc5 pm5 cd5 ct5 : Value} {f5 : Addr}
    {od6 an6 : Option Addr} {sl6 : Array (Option Value)} {oc6 kV6 dc6 pm6 cd6 ct6 : Value} {f6 : Addr}
    {od7 an7 : Option Addr} {sl7 : Array (Option Value)} {oc7 kV7 dc7 pm7 cd7 ct7 : Value} {f7 : Addr}
    {od8 an8 : Option Addr} {sl8 : Array (Option Value)} {oc8 kV8 dc8 pm8 cd8 ct8 : Value} {f8 : Addr}
    {od9 an9 : Option Addr} {sl9 : Array (Option Value)} {oc9 kV9 dc9 pm9 cd9 ct9 : Value} {f9 : Addr}
    {od10 an10 : Option Addr} {sl10 : Array (Option Value)} {oc10 kV10 dc10 pm10 cd10 ct10 : Value} {f10 : Addr}
    {od11 an11 : Option Addr} {sl11 : Array (Option Value)} {oc11 kV11 dc11 pm11 cd11 ct11 : Value} {f11 : Addr}
    {od12 an12 : Option Addr} {sl12 : Array (Option Value)} {oc12 kV12 dc12 pm12 cd12 ct12 : Value} {f12 : Addr}
    {od13 an13 : Option Addr} {sl13 : Array (Option Value)} {oc13 kV13 dc13 pm13 cd13 ct13 : Value} {f13 : Addr}
    {od14 an14 : Option Addr} {sl14 : Array (Option Value)} {oc14 kV14 dc14 pm14 cd14 ct14 : Value} {f14 : Addr}
    {od15 an15 : Option Addr} {sl15 : Array (Option Value)} {oc15 kV15 dc15 pm15 cd15 ct15 : Value} {f15 : Addr}
    {od16 an16 : Option Addr} {sl16 : Array (Option Value)} {oc16 kV16 dc16 pm16 cd16 ct16 : Value} {f16 : Addr}
    {od17 an17 : Option Addr} {sl17 : Array (Option Value)} {oc17 kV17 dc17 pm17 cd17 ct17 : Value} {f17 : Addr}
    {od18 an18 : Option Addr} {sl18 : Array (Option Value)} {oc18 kV18 dc18 pm18 cd18 ct18 : Value} {f18 : Addr}
    {od19 an19 : Option Addr} {sl19 : Array (Option Value)} {oc19 kV19 dc19 pm19 cd19 ct19 : Value} {f19 : Addr}
    {od20 an20 : Option Addr} {sl20 : Array (Option Value)} {oc20 kV20 dc20 pm20 cd20 ct20 : Value} {f20 : Addr}
    {od21 an21 : Option Addr} {sl21 : Array (Option Value)} {oc21 kV21 dc21 pm21 cd21 ct21 : Value} {f21 : Addr}
    {od22 an22 : Option Addr} {sl22 : Array (Option Value)} {oc22 kV22 dc22 pm22 cd22 ct22 : Value} {f22 : Addr}
    {od23 an23 : Option Addr} {sl23 : Array (Option Value)} {oc23 kV23 dc23 pm23 cd23 ct23 : Value} {f23 : Addr}
    {od24 an24 : Option Addr} {sl24 : Array (Option Value)} {oc24 kV24 dc24 pm24 cd24 ct24 : Value} {f24 : Addr}
    {od25 an25 : Option Addr} {sl25 : Array (Option Value)} {oc25 kV25 dc25 pm25 cd25 ct25 : Value} {f25 : Addr}
    {od26 an26 : Option Addr} {sl26 : Array (Option Value)} {oc26 kV26 dc26 pm26 cd26 ct26 : Value} {f26 : Addr}
    {od27 an27 : Option Addr} {sl27 : Array (Option Value)} {oc27 kV27 dc27 pm27 cd27 ct27 : Value} {f27 : Addr}
    {od28 an28 : Option Addr} {sl28 : Array (Option Value)} {oc28 kV28 dc28 pm28 cd28 ct28 : Value} {f28 : Addr}
    {od29 an29 : Option Addr} {sl29 : Array (Option Value)} {oc29 kV29 dc29 pm29 cd29 ct29 : Value} {f29 : Addr}
    {od30 an30 : Option Addr} {sl30 : Array (Option Value)} {oc30 kV30 dc30 pm30 cd30 ct30 : Value} {f30 : Addr}
    {od31 an31 : Option Addr} {sl31 : Array (Option Value)} {oc31 kV31 dc31 pm31 cd31 ct31 : Value} {f31 : Addr}
    {od32 an32 : Option Addr} {sl32 : Array (Option Value)} {oc32 kV32 dc32 pm32 cd32 ct32 : Value} {f32 : Addr}
    {od33 an33 : Option Addr} {sl33 : Array (Option Value)} {oc33 kV33 dc33 pm33 cd33 ct33 : Value} {f33 : Addr}
    {c_BodyError : Addr}
    {c_NoShare : Addr}
    {c_NoWay : Addr}
    {c_BadShape : Addr}
    {k_LENGTHY : Tok}
    {oS o1 o2 : Option Addr} {sS s1 s2 : Array (Option Value)} {nS n1 n2 : Nat} {aS a1S a2S : Addr} {t1 t2 t3 t4 : Tok}
    (a0 : PySem.W.nsIn K mainGlobals "is_whole" = some (some (.ref f0))) (l0 : K.lookup f0 = some ⟨oc0, od0, .func (PySem.W.fnOf "is_whole" "is_whole" (defArgs s_p_is_whole) (defBody s_p_is_whole) (defScope s_p_is_whole) .none kV0 dc0 pm0 an0 cd0 ct0), sl0⟩) (c0 : PySem.W.codeIn K cd0 "is_whole" = true) (k0 : PySem.W.keepIn K (.ref f0) = true)
    (a1 : PySem.W.nsIn K mainGlobals "common_divisor" = some (some (.ref f1))) (l1 : K.lookup f1 = some ⟨oc1, od1, .func (PySem.W.fnOf "common_divisor" "common_divisor" (defArgs s_p_common_divisor) (defBody s_p_common_divisor) (defScope s_p_common_divisor) .none kV1 dc1 pm1 an1 cd1 ct1), sl1⟩) (c1 : PySem.W.codeIn K cd1 "common_divisor" = true) (k1 : PySem.W.keepIn K (.ref f1) = true)
    (a2 : PySem.W.nsIn K mainGlobals "is_share" = some (some (.ref f2))) (l2 : K.lookup f2 = some ⟨oc2, od2, .func (PySem.W.fnOf "is_share" "is_share" (defArgs s_p_is_share) (defBody s_p_is_share) (defScope s_p_is_share) .none kV2 dc2 pm2 an2 cd2 ct2), sl2⟩) (c2 : PySem.W.codeIn K cd2 "is_share" = true) (k2 : PySem.W.keepIn K (.ref f2) = true)
    (a3 : PySem.W.nsIn K mainGlobals "plus" = some (some (.ref f3))) (l3 : K.lookup f3 = some ⟨oc3, od3, .func (PySem.W.fnOf "plus" "plus" (defArgs s_p_plus) (defBody s_p_plus) (defScope s_p_plus) .none kV3 dc3 pm3 an3 cd3 ct3), sl3⟩) (c3 : PySem.W.codeIn K cd3 "plus" = true) (k3 : PySem.W.keepIn K (.ref f3) = true)
    (a4 : PySem.W.nsIn K mainGlobals "minus" = some (some (.ref f4))) (l4 : K.lookup f4 = some ⟨oc4, od4, .func (PySem.W.fnOf "minus" "minus" (defArgs s_p_minus) (defBody s_p_minus) (defScope s_p_minus) .none kV4 dc4 pm4 an4 cd4 ct4), sl4⟩) (c4 : PySem.W.codeIn K cd4 "minus" = true) (k4 : PySem.W.keepIn K (.ref f4) = true)
    (a5 : PySem.W.nsIn K mainGlobals "times" = some (some (.ref f5))) (l5 : K.lookup f5 = some ⟨oc5, od5, .func (PySem.W.fnOf "times" "times" (defArgs s_p_times) (defBody s_p_times) (defScope s_p_times) .none kV5 dc5 pm5 an5 cd5 ct5), sl5⟩) (c5 : PySem.W.codeIn K cd5 "times" = true) (k5 : PySem.W.keepIn K (.ref f5) = true)
    (a6 : PySem.W.nsIn K mainGlobals "is_spot" = some (some (.ref f6))) (l6 : K.lookup f6 = some ⟨oc6, od6, .func (PySem.W.fnOf "is_spot" "is_spot" (defArgs s_p_is_spot) (defBody s_p_is_spot) (defScope s_p_is_spot) .none kV6 dc6 pm6 an6 cd6 ct6), sl6⟩) (c6 : PySem.W.codeIn K cd6 "is_spot" = true) (k6 : PySem.W.keepIn K (.ref f6) = true)
    (a7 : PySem.W.nsIn K mainGlobals "is_way" = some (some (.ref f7))) (l7 : K.lookup f7 = some ⟨oc7, od7, .func (PySem.W.fnOf "is_way" "is_way" (defArgs s_p_is_way) (defBody s_p_is_way) (defScope s_p_is_way) .none kV7 dc7 pm7 an7 cd7 ct7), sl7⟩) (c7 : PySem.W.codeIn K cd7 "is_way" = true) (k7 : PySem.W.keepIn K (.ref f7) = true)
    (a8 : PySem.W.nsIn K mainGlobals "way_of" = some (some (.ref f8))) (l8 : K.lookup f8 = some ⟨oc8, od8, .func (PySem.W.fnOf "way_of" "way_of" (defArgs s_p_way_of) (defBody s_p_way_of) (defScope s_p_way_of) .none kV8 dc8 pm8 an8 cd8 ct8), sl8⟩) (c8 : PySem.W.codeIn K cd8 "way_of" = true) (k8 : PySem.W.keepIn K (.ref f8) = true)
    (a9 : PySem.W.nsIn K mainGlobals "along" = some (some (.ref f9))) (l9 : K.lookup f9 = some ⟨oc9, od9, .func (PySem.W.fnOf "along" "along" (defArgs s_p_along) (defBody s_p_along) (defScope s_p_along) .none kV9 dc9 pm9 an9 cd9 ct9), sl9⟩) (c9 : PySem.W.codeIn K cd9 "along" = true) (k9 : PySem.W.keepIn K (.ref f9) = true)
    (a10 : PySem.W.nsIn K mainGlobals "across" = some (some (.ref f10))) (l10 : K.lookup f10 = some ⟨oc10, od10, .func (PySem.W.fnOf "across" "across" (defArgs s_p_across) (defBody s_p_across) (defScope s_p_across) .none kV10 dc10 pm10 an10 cd10 ct10), sl10⟩) (c10 : PySem.W.codeIn K cd10 "across" = true) (k10 : PySem.W.keepIn K (.ref f10) = true)
    (a11 : PySem.W.nsIn K mainGlobals "spot_plus" = some (some (.ref f11))) (l11 : K.lookup f11 = some ⟨oc11, od11, .func (PySem.W.fnOf "spot_plus" "spot_plus" (defArgs s_p_spot_plus) (defBody s_p_spot_plus) (defScope s_p_spot_plus) .none kV11 dc11 pm11 an11 cd11 ct11), sl11⟩) (c11 : PySem.W.codeIn K cd11 "spot_plus" = true) (k11 : PySem.W.keepIn K (.ref f11) = true)
    (a12 : PySem.W.nsIn K mainGlobals "spot_minus" = some (some (.ref f12))) (l12 : K.lookup f12 = some ⟨oc12, od12, .func (PySem.W.fnOf "spot_minus" "spot_minus" (defArgs s_p_spot_minus) (defBody s_p_spot_minus) (defScope s_p_spot_minus) .none kV12 dc12 pm12 an12 cd12 ct12), sl12⟩) (c12 : PySem.W.codeIn K cd12 "spot_minus" = true) (k12 : PySem.W.keepIn K (.ref f12) = true)
    (a13 : PySem.W.nsIn K mainGlobals "spot_times" = some (some (.ref f13))) (l13 : K.lookup f13 = some ⟨oc13, od13, .func (PySem.W.fnOf "spot_times" "spot_times" (defArgs s_p_spot_times) (defBody s_p_spot_times) (defScope s_p_spot_times) .none kV13 dc13 pm13 an13 cd13 ct13), sl13⟩) (c13 : PySem.W.codeIn K cd13 "spot_times" = true) (k13 : PySem.W.keepIn K (.ref f13) = true)
    (a14 : PySem.W.nsIn K mainGlobals "_law_cell" = some (some (.ref f14))) (l14 : K.lookup f14 = some ⟨oc14, od14, .func (PySem.W.fnOf "_law_cell" "_law_cell" (defArgs s_l_cell) (defBody s_l_cell) (defScope s_l_cell) .none kV14 dc14 pm14 an14 cd14 ct14), sl14⟩) (c14 : PySem.W.codeIn K cd14 "_law_cell" = true) (k14 : PySem.W.keepIn K (.ref f14) = true)
    (a15 : PySem.W.nsIn K mainGlobals "_law_mixed" = some (some (.ref f15))) (l15 : K.lookup f15 = some ⟨oc15, od15, .func (PySem.W.fnOf "_law_mixed" "_law_mixed" (defArgs s_l_mixed) (defBody s_l_mixed) (defScope s_l_mixed) .none kV15 dc15 pm15 an15 cd15 ct15), sl15⟩) (c15 : PySem.W.codeIn K cd15 "_law_mixed" = true) (k15 : PySem.W.keepIn K (.ref f15) = true)
    (a16 : PySem.W.nsIn K mainGlobals "_law_deck" = some (some (.ref f16))) (l16 : K.lookup f16 = some ⟨oc16, od16, .func (PySem.W.fnOf "_law_deck" "_law_deck" (defArgs s_l_deck) (defBody s_l_deck) (defScope s_l_deck) .none kV16 dc16 pm16 an16 cd16 ct16), sl16⟩) (c16 : PySem.W.codeIn K cd16 "_law_deck" = true) (k16 : PySem.W.keepIn K (.ref f16) = true)
    (a17 : PySem.W.nsIn K mainGlobals "_law_take" = some (some (.ref f17))) (l17 : K.lookup f17 = some ⟨oc17, od17, .func (PySem.W.fnOf "_law_take" "_law_take" (defArgs s_l_take) (defBody s_l_take) (defScope s_l_take) .none kV17 dc17 pm17 an17 cd17 ct17), sl17⟩) (c17 : PySem.W.codeIn K cd17 "_law_take" = true) (k17 : PySem.W.keepIn K (.ref f17) = true)
    (a18 : PySem.W.nsIn K mainGlobals "_law_gcd" = some (some (.ref f18))) (l18 : K.lookup f18 = some ⟨oc18, od18, .func (PySem.W.fnOf "_law_gcd" "_law_gcd" (defArgs s_l_gcd) (defBody s_l_gcd) (defScope s_l_gcd) .none kV18 dc18 pm18 an18 cd18 ct18), sl18⟩) (c18 : PySem.W.codeIn K cd18 "_law_gcd" = true) (k18 : PySem.W.keepIn K (.ref f18) = true)
    (a19 : PySem.W.nsIn K mainGlobals "_law_share" = some (some (.ref f19))) (l19 : K.lookup f19 = some ⟨oc19, od19, .func (PySem.W.fnOf "_law_share" "_law_share" (defArgs s_l_share) (defBody s_l_share) (defScope s_l_share) .none kV19 dc19 pm19 an19 cd19 ct19), sl19⟩) (c19 : PySem.W.codeIn K cd19 "_law_share" = true) (k19 : PySem.W.keepIn K (.ref f19) = true)
    (a20 : PySem.W.nsIn K mainGlobals "_law_is_share" = some (some (.ref f20))) (l20 : K.lookup f20 = some ⟨oc20, od20, .func (PySem.W.fnOf "_law_is_share" "_law_is_share" (defArgs s_l_is_share) (defBody s_l_is_share) (defScope s_l_is_share) .none kV20 dc20 pm20 an20 cd20 ct20), sl20⟩) (c20 : PySem.W.codeIn K cd20 "_law_is_share" = true) (k20 : PySem.W.keepIn K (.ref f20) = true)
    (a21 : PySem.W.nsIn K mainGlobals "_law_truth" = some (some (.ref f21))) (l21 : K.lookup f21 = some ⟨oc21, od21, .func (PySem.W.fnOf "_law_truth" "_law_truth" (defArgs s_l_truth) (defBody s_l_truth) (defScope s_l_truth) .none kV21 dc21 pm21 an21 cd21 ct21), sl21⟩) (c21 : PySem.W.codeIn K cd21 "_law_truth" = true) (k21 : PySem.W.keepIn K (.ref f21) = true)
    (a22 : PySem.W.nsIn K mainGlobals "_law_number" = some (some (.ref f22))) (l22 : K.lookup f22 = some ⟨oc22, od22, .func (PySem.W.fnOf "_law_number" "_law_number" (defArgs s_l_number) (defBody s_l_number) (defScope s_l_number) .none kV22 dc22 pm22 an22 cd22 ct22), sl22⟩) (c22 : PySem.W.codeIn K cd22 "_law_number" = true) (k22 : PySem.W.keepIn K (.ref f22) = true)
    (a23 : PySem.W.nsIn K mainGlobals "_law_part" = some (some (.ref f23))) (l23 : K.lookup f23 = some ⟨oc23, od23, .func (PySem.W.fnOf "_law_part" "_law_part" (defArgs s_l_part) (defBody s_l_part) (defScope s_l_part) .none kV23 dc23 pm23 an23 cd23 ct23), sl23⟩) (c23 : PySem.W.codeIn K cd23 "_law_part" = true) (k23 : PySem.W.keepIn K (.ref f23) = true)
    (a24 : PySem.W.nsIn K mainGlobals "_law_drawn_spot" = some (some (.ref f24))) (l24 : K.lookup f24 = some ⟨oc24, od24, .func (PySem.W.fnOf "_law_drawn_spot" "_law_drawn_spot" (defArgs s_l_drawn_spot) (defBody s_l_drawn_spot) (defScope s_l_drawn_spot) .none kV24 dc24 pm24 an24 cd24 ct24), sl24⟩) (c24 : PySem.W.codeIn K cd24 "_law_drawn_spot" = true) (k24 : PySem.W.keepIn K (.ref f24) = true)
    (a25 : PySem.W.nsIn K mainGlobals "_law_sum" = some (some (.ref f25))) (l25 : K.lookup f25 = some ⟨oc25, od25, .func (PySem.W.fnOf "_law_sum" "_law_sum" (defArgs s_l_sum) (defBody s_l_sum) (defScope s_l_sum) .none kV25 dc25 pm25 an25 cd25 ct25), sl25⟩) (c25 : PySem.W.codeIn K cd25 "_law_sum" = true) (k25 : PySem.W.keepIn K (.ref f25) = true)
    (a26 : PySem.W.nsIn K mainGlobals "_law_is_spot" = some (some (.ref f26))) (l26 : K.lookup f26 = some ⟨oc26, od26, .func (PySem.W.fnOf "_law_is_spot" "_law_is_spot" (defArgs s_l_is_spot) (defBody s_l_is_spot) (defScope s_l_is_spot) .none kV26 dc26 pm26 an26 cd26 ct26), sl26⟩) (c26 : PySem.W.codeIn K cd26 "_law_is_spot" = true) (k26 : PySem.W.keepIn K (.ref f26) = true)
    (a27 : PySem.W.nsIn K mainGlobals "_law_is_way" = some (some (.ref f27))) (l27 : K.lookup f27 = some ⟨oc27, od27, .func (PySem.W.fnOf "_law_is_way" "_law_is_way" (defArgs s_l_is_way) (defBody s_l_is_way) (defScope s_l_is_way) .none kV27 dc27 pm27 an27 cd27 ct27), sl27⟩) (c27 : PySem.W.codeIn K cd27 "_law_is_way" = true) (k27 : PySem.W.keepIn K (.ref f27) = true)
    (a28 : PySem.W.nsIn K mainGlobals "_law_refused" = some (some (.ref f28))) (l28 : K.lookup f28 = some ⟨oc28, od28, .func (PySem.W.fnOf "_law_refused" "_law_refused" (defArgs s_l_refused) (defBody s_l_refused) (defScope s_l_refused) .none kV28 dc28 pm28 an28 cd28 ct28), sl28⟩) (c28 : PySem.W.codeIn K cd28 "_law_refused" = true) (k28 : PySem.W.keepIn K (.ref f28) = true)
    (a29 : PySem.W.nsIn K mainGlobals "_law_way" = some (some (.ref f29))) (l29 : K.lookup f29 = some ⟨oc29, od29, .func (PySem.W.fnOf "_law_way" "_law_way" (defArgs s_l_way) (defBody s_l_way) (defScope s_l_way) .none kV29 dc29 pm29 an29 cd29 ct29), sl29⟩) (c29 : PySem.W.codeIn K cd29 "_law_way" = true) (k29 : PySem.W.keepIn K (.ref f29) = true)
    (a30 : PySem.W.nsIn K mainGlobals "_law_ways" = some (some (.ref f30))) (l30 : K.lookup f30 = some ⟨oc30, od30, .func (PySem.W.fnOf "_law_ways" "_law_ways" (defArgs s_l_ways) (defBody s_l_ways) (defScope s_l_ways) .none kV30 dc30 pm30 an30 cd30 ct30), sl30⟩) (c30 : PySem.W.codeIn K cd30 "_law_ways" = true) (k30 : PySem.W.keepIn K (.ref f30) = true)
    (a31 : PySem.W.nsIn K mainGlobals "_law_things" = some (some (.ref f31))) (l31 : K.lookup f31 = some ⟨oc31, od31, .func (PySem.W.fnOf "_law_things" "_law_things" (defArgs s_l_things) (defBody s_l_things) (defScope s_l_things) .none kV31 dc31 pm31 an31 cd31 ct31), sl31⟩) (c31 : PySem.W.codeIn K cd31 "_law_things" = true) (k31 : PySem.W.keepIn K (.ref f31) = true)
    (a32 : PySem.W.nsIn K mainGlobals "_law_sums" = some (some (.ref f32))) (l32 : K.lookup f32 = some ⟨oc32, od32, .func (PySem.W.fnOf "_law_sums" "_law_sums" (defArgs s_l_sums) (defBody s_l_sums) (defScope s_l_sums) .none kV32 dc32 pm32 an32 cd32 ct32), sl32⟩) (c32 : PySem.W.codeIn K cd32 "_law_sums" = true) (k32 : PySem.W.keepIn K (.ref f32) = true)
    (a33 : PySem.W.nsIn K mainGlobals "law" = some (some (.ref f33))) (l33 : K.lookup f33 = some ⟨oc33, od33, .func (PySem.W.fnOf "law" "law" (defArgs s_law) (defBody s_law) (defScope s_law) .none kV33 dc33 pm33 an33 cd33 ct33), sl33⟩) (c33 : PySem.W.codeIn K cd33 "law" = true) (k33 : PySem.W.keepIn K (.ref f33) = true)
    (z_ValueError : PySem.W.nsIn K mainGlobals "ValueError" = some none)
    (z_abs : PySem.W.nsIn K mainGlobals "abs" = some none)
    (z_all : PySem.W.nsIn K mainGlobals "all" = some none)
    (z_bool : PySem.W.nsIn K mainGlobals "bool" = some none)
    (z_int : PySem.W.nsIn K mainGlobals "int" = some none)
    (z_isinstance : PySem.W.nsIn K mainGlobals "isinstance" = some none)
    (z_len : PySem.W.nsIn K mainGlobals "len" = some none)
    (z_list : PySem.W.nsIn K mainGlobals "list" = some none)
    (z_max : PySem.W.nsIn K mainGlobals "max" = some none)
    (z_min : PySem.W.nsIn K mainGlobals "min" = some none)
    (z_range : PySem.W.nsIn K mainGlobals "range" = some none)
    (z_str : PySem.W.nsIn K mainGlobals "str" = some none)
    (z_tuple : PySem.W.nsIn K mainGlobals "tuple" = some none)
    (ac_BodyError : PySem.W.nsIn K mainGlobals "BodyError" = some (some (.ref c_BodyError)))
    (ac_NoShare : PySem.W.nsIn K mainGlobals "NoShare" = some (some (.ref c_NoShare)))
    (ac_NoWay : PySem.W.nsIn K mainGlobals "NoWay" = some (some (.ref c_NoWay)))
    (ac_BadShape : PySem.W.nsIn K mainGlobals "BadShape" = some (some (.ref c_BadShape)))
    (x_NoWay : PySem.W.excIn K c_NoWay [.type "ValueError", .type "Exception", .type "BaseException", .type "object"] "ValueError.__new__" = true)
    (kc_NoWay : PySem.W.keepIn K (.ref c_NoWay) = true)
    (bc_NoWay : PySem.W.subIn K (.ref c_NoWay) (.type "BaseException") = some true)
    (tc_NoWay : PySem.W.typeIn K (.ref c_NoWay) = some (.type "type"))
    (sc_NoWay : PySem.W.subIn K (.ref c_NoWay) (.ref c_NoWay) = some true)
    (hg_NoWay : PySem.W.findIn K (.ref c_NoWay) "__getattribute__" = some (some (.builtin "BaseException.__getattribute__")))
    (hk_NoWay : PySem.W.findIn K (.ref c_NoWay) "__getattr__" = some none)
    (hd_NoWay : PySem.W.hasDictIn K c_NoWay = true)
    (ha_NoWay : PySem.W.findIn K (.ref c_NoWay) "__class__" = some (some (.builtin "object.__class__")))
    (hn_NoWay : PySem.W.specialIn K (.builtin "object.__class__") "__get__" = some (some (.builtin "getset_descriptor.__get__")))
    (ht_NoWay : PySem.W.takesIn K (.builtin "object.__class__") = some true)
    (hm_NoWay : PySem.W.mroIn K c_NoWay (.type "object") = some true)
    (ic_BodyError : PySem.W.isClsIn K c_BodyError = true)
    (it_BodyError : PySem.W.typeIn K (.ref c_BodyError) = some (.type "type"))
    (is_NoWay_BodyError : PySem.W.subIn K (.ref c_NoWay) (.ref c_BodyError) = some true)
    (is_NoWay_ValueError : PySem.W.subIn K (.ref c_NoWay) (.type "ValueError") = some true)
    (ic_NoShare : PySem.W.isClsIn K c_NoShare = true)
    (it_NoShare : PySem.W.typeIn K (.ref c_NoShare) = some (.type "type"))
    (is_NoWay_NoShare : PySem.W.subIn K (.ref c_NoWay) (.ref c_NoShare) = some false)
    (ic_BadShape : PySem.W.isClsIn K c_BadShape = true)
    (it_BadShape : PySem.W.typeIn K (.ref c_BadShape) = some (.type "type"))
    (is_NoWay_BadShape : PySem.W.subIn K (.ref c_NoWay) (.ref c_BadShape) = some false)
    (an_LENGTHY : PySem.W.nsIn K mainGlobals "LENGTHY" = some (some (.int 4000 k_LENGTHY)))
    (aSt : PySem.W.nsIn K mainGlobals "STILL" = some (some (.ref aS)))
    (lSt : K.lookup aS = some ⟨.type "tuple", oS, .seq #[.ref a1S, .ref a2S] nS, sS⟩)
    (l1S : K.lookup a1S = some ⟨.type "tuple", o1, .seq #[.int 0 t1, .int 1 t2] n1, s1⟩)
    (l2S : K.lookup a2S = some ⟨.type "tuple", o2, .seq #[.int 0 t3, .int 1 t4] n2, s2⟩)
    : ∃ fd : FuncData, (∀ (s : Shared) (v : Value), BindsTo s fd ⟨[v], []⟩ [("_law_script", v)]) ∧ ∀ base : Heap, K.In base → base.Ns mainGlobals mg → FnOk l.prog w K mg base CX0 7 fa fd ["_law_script"] (sp_law K) := by
  have e := hfa.symm.trans (PySem.W.mg_of X G a33)
  cases e
  have T : Tx K mg { f_p_is_whole := f0, fd_p_is_whole := PySem.W.fnOf "is_whole" "is_whole" (defArgs s_p_is_whole) (defBody s_p_is_whole) (defScope s_p_is_whole) .none kV0 dc0 pm0 an0 cd0 ct0, f_p_common_divisor := f1, fd_p_common_divisor := PySem.W.fnOf "common_divisor" "common_divisor" (defArgs s_p_common_divisor) (defBody s_p_common_divisor) (defScope s_p_common_divisor) .none kV1 dc1 pm1 an1 cd1 ct1, f_p_is_share := f2, fd_p_is_share := PySem.W.fnOf "is_share" "is_share" (defArgs s_p_is_share) (defBody s_p_is_share) (defScope s_p_is_share) .none kV2 dc2 pm2 an2 cd2 ct2, f_p_plus := f3, fd_p_plus := PySem.W.fnOf "plus" "plus" (defArgs s_p_plus) (defBody s_p_plus) (defScope s_p_plus) .none kV3 dc3 pm3 an3 cd3 ct3, f_p_minus := f4, fd_p_minus := PySem.W.fnOf "minus" "minus" (defArgs s_p_minus) (defBody s_p_minus) (defScope s_p_minus) .none kV4 dc4 pm4 an4 cd4 ct4, f_p_times := f5, fd_p_times := PySem.W.fnOf "times" "times" (defArgs s_p_times) (defBody s_p_times) (defScope s_p_times) .none kV5 dc5 pm5 an5 cd5 ct5, f_p_is_spot := f6, fd_p_is_spot := PySem.W.fnOf "is_spot" "is_spot" (defArgs s_p_is_spot) (defBody s_p_is_spot) (defScope s_p_is_spot) .none kV6 dc6 pm6 an6 cd6 ct6, f_p_is_way := f7, fd_p_is_way := PySem.W.fnOf "is_way" "is_way" (defArgs s_p_is_way) (defBody s_p_is_way) (defScope s_p_is_way) .none kV7 dc7 pm7 an7 cd7 ct7, f_p_way_of := f8, fd_p_way_of := PySem.W.fnOf "way_of" "way_of" (defArgs s_p_way_of) (defBody s_p_way_of) (defScope s_p_way_of) .none kV8 dc8 pm8 an8 cd8 ct8, f_p_along := f9, fd_p_along := PySem.W.fnOf "along" "along" (defArgs s_p_along) (defBody s_p_along) (defScope s_p_along) .none kV9 dc9 pm9 an9 cd9 ct9, f_p_across := f10, fd_p_across := PySem.W.fnOf "across" "across" (defArgs s_p_across) (defBody s_p_across) (defScope s_p_across) .none kV10 dc10 pm10 an10 cd10 ct10, f_p_spot_plus := f11, fd_p_spot_plus := PySem.W.fnOf "spot_plus" "spot_plus" (defArgs s_p_spot_plus) (defBody s_p_spot_plus) (defScope s_p_spot_plus) .none kV11 dc11 pm11 an11 cd11 ct11, f_p_spot_minus := f12, fd_p_spot_minus := PySem.W.fnOf "spot_minus" "spot_minus" (defArgs s_p_spot_minus) (defBody s_p_spot_minus) (defScope s_p_spot_minus) .none kV12 dc12 pm12 an12 cd12 ct12, f_p_spot_times := f13, fd_p_spot_times := PySem.W.fnOf "spot_times" "spot_times" (defArgs s_p_spot_times) (defBody s_p_spot_times) (defScope s_p_spot_times) .none kV13 dc13 pm13 an13 cd13 ct13, f_l_cell := f14, fd_l_cell := PySem.W.fnOf "_law_cell" "_law_cell" (defArgs s_l_cell) (defBody s_l_cell) (defScope s_l_cell) .none kV14 dc14 pm14 an14 cd14 ct14, f_l_mixed := f15, fd_l_mixed := PySem.W.fnOf "_law_mixed" "_law_mixed" (defArgs s_l_mixed) (defBody s_l_mixed) (defScope s_l_mixed) .none kV15 dc15 pm15 an15 cd15 ct15, f_l_deck := f16, fd_l_deck := PySem.W.fnOf "_law_deck" "_law_deck" (defArgs s_l_deck) (defBody s_l_deck) (defScope s_l_deck) .none kV16 dc16 pm16 an16 cd16 ct16, f_l_take := f17, fd_l_take := PySem.W.fnOf "_law_take" "_law_take" (defArgs s_l_take) (defBody s_l_take) (defScope s_l_take) .none kV17 dc17 pm17 an17 cd17 ct17, f_l_gcd := f18, fd_l_gcd := PySem.W.fnOf "_law_gcd" "_law_gcd" (defArgs s_l_gcd) (defBody s_l_gcd) (defScope s_l_gcd) .none kV18 dc18 pm18 an18 cd18 ct18, f_l_share := f19, fd_l_share := PySem.W.fnOf "_law_share" "_law_share" (defArgs s_l_share) (defBody s_l_share) (defScope s_l_share) .none kV19 dc19 pm19 an19 cd19 ct19, f_l_is_share := f20, fd_l_is_share := PySem.W.fnOf "_law_is_share" "_law_is_share" (defArgs s_l_is_share) (defBody s_l_is_share) (defScope s_l_is_share) .none kV20 dc20 pm20 an20 cd20 ct20, f_l_truth := f21, fd_l_truth := PySem.W.fnOf "_law_truth" "_law_truth" (defArgs s_l_truth) (defBody s_l_truth) (defScope s_l_truth) .none kV21 dc21 pm21 an21 cd21 ct21, f_l_number := f22, fd_l_number := PySem.W.fnOf "_law_number" "_law_number" (defArgs s_l_number) (defBody s_l_number) (defScope s_l_number) .none kV22 dc22 pm22 an22 cd22 ct22, f_l_part := f23, fd_l_part := PySem.W.fnOf "_law_part" "_law_part" (defArgs s_l_part) (defBody s_l_part) (defScope s_l_part) .none kV23 dc23 pm23 an23 cd23 ct23, f_l_drawn_spot := f24, fd_l_drawn_spot := PySem.W.fnOf "_law_drawn_spot" "_law_drawn_spot" (defArgs s_l_drawn_spot) (defBody s_l_drawn_spot) (defScope s_l_drawn_spot) .none kV24 dc24 pm24 an24 cd24 ct24, f_l_sum := f25, fd_l_sum := PySem.W.fnOf "_law_sum" "_law_sum" (defArgs s_l_sum) (defBody s_l_sum) (defScope s_l_sum) .none kV25 dc25 pm25 an25 cd25 ct25, f_l_is_spot := f26, fd_l_is_spot := PySem.W.fnOf "_law_is_spot" "_law_is_spot" (defArgs s_l_is_spot) (defBody s_l_is_spot) (defScope s_l_is_spot) .none kV26 dc26 pm26 an26 cd26 ct26, f_l_is_way := f27, fd_l_is_way := PySem.W.fnOf "_law_is_way" "_law_is_way" (defArgs s_l_is_way) (defBody s_l_is_way) (defScope s_l_is_way) .none kV27 dc27 pm27 an27 cd27 ct27, f_l_refused := f28, fd_l_refused := PySem.W.fnOf "_law_refused" "_law_refused" (defArgs s_l_refused) (defBody s_l_refused) (defScope s_l_refused) .none kV28 dc28 pm28 an28 cd28 ct28, f_l_way := f29, fd_l_way := PySem.W.fnOf "_law_way" "_law_way" (defArgs s_l_way) (defBody s_l_way) (defScope s_l_way) .none kV29 dc29 pm29 an29 cd29 ct29, f_l_ways := f30, fd_l_ways := PySem.W.fnOf "_law_ways" "_law_ways" (defArgs s_l_ways) (defBody s_l_ways) (defScope s_l_ways) .none kV30 dc30 pm30 an30 cd30 ct30, f_l_things := f31, fd_l_things := PySem.W.fnOf "_law_things" "_law_things" (defArgs s_l_things) (defBody s_l_things) (defScope s_l_things) .none kV31 dc31 pm31 an31 cd31 ct31, f_l_sums := f32, fd_l_sums := PySem.W.fnOf "_law_sums" "_law_sums" (defArgs s_l_sums) (defBody s_l_sums) (defScope s_l_sums) .none kV32 dc32 pm32 an32 cd32 ct32, f_law := fa, fd_law := PySem.W.fnOf "law" "law" (defArgs s_law) (defBody s_law) (defScope s_law) .none kV33 dc33 pm33 an33 cd33 ct33, c_BodyError := c_BodyError, c_NoShare := c_NoShare, c_NoWay := c_NoWay, c_BadShape := c_BadShape, k_LENGTHY := k_LENGTHY, n_STILL := aS } := { F_p_is_whole := fun_mk (st := s_p_is_whole) l0 c0 k0, b_p_is_whole := (fun_mk (st := s_p_is_whole) l0 c0 k0).binds (ps := ["thing"]) fun _ _ _ _ _ _ us hl => match us, hl with | [_], _ => rfl, g_p_is_whole := PySem.W.mg_of X G a0, F_p_common_divisor := fun_mk (st := s_p_common_divisor) l1 c1 k1, b_p_common_divisor := (fun_mk (st := s_p_common_divisor) l1 c1 k1).binds (ps := ["one", "other"]) fun _ _ _ _ _ _ us hl => match us, hl with | [_, _], _ => rfl, g_p_common_divisor := PySem.W.mg_of X G a1, F_p_is_share := fun_mk (st := s_p_is_share) l2 c2 k2, b_p_is_share := (fun_mk (st := s_p_is_share) l2 c2 k2).binds (ps := ["thing"]) fun _ _ _ _ _ _ us hl => match us, hl with | [_], _ => rfl, g_p_is_share := PySem.W.mg_of X G a2, F_p_plus := fun_mk (st := s_p_plus) l3 c3 k3, b_p_plus := (fun_mk (st := s_p_plus) l3 c3 k3).binds (ps := ["one", "other"]) fun _ _ _ _ _ _ us hl => match us, hl with | [_, _], _ => rfl, g_p_plus := PySem.W.mg_of X G a3, F_p_minus := fun_mk (st := s_p_minus) l4 c4 k4, b_p_minus := (fun_mk (st := s_p_minus) l4 c4 k4).binds (ps := ["one", "other"]) fun _ _ _ _ _ _ us hl => match us, hl with | [_, _], _ => rfl, g_p_minus := PySem.W.mg_of X G a4, F_p_times := fun_mk (st := s_p_times) l5 c5 k5, b_p_times := (fun_mk (st := s_p_times) l5 c5 k5).binds (ps := ["one", "other"]) fun _ _ _ _ _ _ us hl => match us, hl with | [_, _], _ => rfl, g_p_times := PySem.W.mg_of X G a5, F_p_is_spot := fun_mk (st := s_p_is_spot) l6 c6 k6, b_p_is_spot := (fun_mk (st := s_p_is_spot) l6 c6 k6).binds (ps := ["thing"]) fun _ _ _ _ _ _ us hl => match us, hl with | [_], _ => rfl, g_p_is_spot := PySem.W.mg_of X G a6, F_p_is_way := fun_mk (st := s_p_is_way) l7 c7 k7, b_p_is_way := (fun_mk (st := s_p_is_way) l7 c7 k7).binds (ps := ["thing"]) fun _ _ _ _ _ _ us hl => match us, hl with | [_], _ => rfl, g_p_is_way := PySem.W.mg_of X G a7, F_p_way_of := fun_mk (st := s_p_way_of) l8 c8 k8, b_p_way_of := (fun_mk (st := s_p_way_of) l8 c8 k8).binds (ps := ["p", "q"]) fun _ _ _ _ _ _ us hl => match us, hl with | [_, _], _ => rfl, g_p_way_of := PySem.W.mg_of X G a8, F_p_along := fun_mk (st := s_p_along) l9 c9 k9, b_p_along := (fun_mk (st := s_p_along) l9 c9 k9).binds (ps := ["way", "spot"]) fun _ _ _ _ _ _ us hl => match us, hl with | [_, _], _ => rfl, g_p_along := PySem.W.mg_of X G a9, F_p_across := fun_mk (st := s_p_across) l10 c10 k10, b_p_across := (fun_mk (st := s_p_across) l10 c10 k10).binds (ps := ["way", "spot"]) fun _ _ _ _ _ _ us hl => match us, hl with | [_, _], _ => rfl, g_p_across := PySem.W.mg_of X G a10, F_p_spot_plus := fun_mk (st := s_p_spot_plus) l11 c11 k11, b_p_spot_plus := (fun_mk (st := s_p_spot_plus) l11 c11 k11).binds (ps := ["one", "other"]) fun _ _ _ _ _ _ us hl => match us, hl with | [_, _], _ => rfl, g_p_spot_plus := PySem.W.mg_of X G a11, F_p_spot_minus := fun_mk (st := s_p_spot_minus) l12 c12 k12, b_p_spot_minus := (fun_mk (st := s_p_spot_minus) l12 c12 k12).binds (ps := ["one", "other"]) fun _ _ _ _ _ _ us hl => match us, hl with | [_, _], _ => rfl, g_p_spot_minus := PySem.W.mg_of X G a12, F_p_spot_times := fun_mk (st := s_p_spot_times) l13 c13 k13, b_p_spot_times := (fun_mk (st := s_p_spot_times) l13 c13 k13).binds (ps := ["spot", "share"]) fun _ _ _ _ _ _ us hl => match us, hl with | [_, _], _ => rfl, g_p_spot_times := PySem.W.mg_of X G a13, F_l_cell := fun_mk (st := s_l_cell) l14 c14 k14, b_l_cell := (fun_mk (st := s_l_cell) l14 c14 k14).binds (ps := ["_law_script", "_law_k"]) fun _ _ _ _ _ _ us hl => match us, hl with | [_, _], _ => rfl, g_l_cell := PySem.W.mg_of X G a14, F_l_mixed := fun_mk (st := s_l_mixed) l15 c15 k15, b_l_mixed := (fun_mk (st := s_l_mixed) l15 c15 k15).binds (ps := ["_law_script", "_law_k", "_law_many"]) fun _ _ _ _ _ _ us hl => match us, hl with | [_, _, _], _ => rfl, g_l_mixed := PySem.W.mg_of X G a15, F_l_deck := fun_mk (st := s_l_deck) l16 c16 k16, b_l_deck := (fun_mk (st := s_l_deck) l16 c16 k16).binds (ps := ["_law_script"]) fun _ _ _ _ _ _ us hl => match us, hl with | [_], _ => rfl, g_l_deck := PySem.W.mg_of X G a16, F_l_take := fun_mk (st := s_l_take) l17 c17 k17, b_l_take := (fun_mk (st := s_l_take) l17 c17 k17).binds (ps := ["_law_deck_here", "_law_many"]) fun _ _ _ _ _ _ us hl => match us, hl with | [_, _], _ => rfl, g_l_take := PySem.W.mg_of X G a17, F_l_gcd := fun_mk (st := s_l_gcd) l18 c18 k18, b_l_gcd := (fun_mk (st := s_l_gcd) l18 c18 k18).binds (ps := ["_law_one", "_law_other"]) fun _ _ _ _ _ _ us hl => match us, hl with | [_, _], _ => rfl, g_l_gcd := PySem.W.mg_of X G a18, F_l_share := fun_mk (st := s_l_share) l19 c19 k19, b_l_share := (fun_mk (st := s_l_share) l19 c19 k19).binds (ps := ["_law_top", "_law_bottom"]) fun _ _ _ _ _ _ us hl => match us, hl with | [_, _], _ => rfl, g_l_share := PySem.W.mg_of X G a19, F_l_is_share := fun_mk (st := s_l_is_share) l20 c20 k20, b_l_is_share := (fun_mk (st := s_l_is_share) l20 c20 k20).binds (ps := ["_law_thing"]) fun _ _ _ _ _ _ us hl => match us, hl with | [_], _ => rfl, g_l_is_share := PySem.W.mg_of X G a20, F_l_truth := fun_mk (st := s_l_truth) l21 c21 k21, b_l_truth := (fun_mk (st := s_l_truth) l21 c21 k21).binds (ps := ["_law_found", "_law_due"]) fun _ _ _ _ _ _ us hl => match us, hl with | [_, _], _ => rfl, g_l_truth := PySem.W.mg_of X G a21, F_l_number := fun_mk (st := s_l_number) l22 c22 k22, b_l_number := (fun_mk (st := s_l_number) l22 c22 k22).binds (ps := ["_law_deck_here"]) fun _ _ _ _ _ _ us hl => match us, hl with | [_], _ => rfl, g_l_number := PySem.W.mg_of X G a22, F_l_part := fun_mk (st := s_l_part) l23 c23 k23, b_l_part := (fun_mk (st := s_l_part) l23 c23 k23).binds (ps := ["_law_deck_here"]) fun _ _ _ _ _ _ us hl => match us, hl with | [_], _ => rfl, g_l_part := PySem.W.mg_of X G a23, F_l_drawn_spot := fun_mk (st := s_l_drawn_spot) l24 c24 k24, b_l_drawn_spot := (fun_mk (st := s_l_drawn_spot) l24 c24 k24).binds (ps := ["_law_deck_here"]) fun _ _ _ _ _ _ us hl => match us, hl with | [_], _ => rfl, g_l_drawn_spot := PySem.W.mg_of X G a24, F_l_sum := fun_mk (st := s_l_sum) l25 c25 k25, b_l_sum := (fun_mk (st := s_l_sum) l25 c25 k25).binds (ps := ["_law_one", "_law_other", "_law_sign"]) fun _ _ _ _ _ _ us hl => match us, hl with | [_, _, _], _ => rfl, g_l_sum := PySem.W.mg_of X G a25, F_l_is_spot := fun_mk (st := s_l_is_spot) l26 c26 k26, b_l_is_spot := (fun_mk (st := s_l_is_spot) l26 c26 k26).binds (ps := ["_law_thing"]) fun _ _ _ _ _ _ us hl => match us, hl with | [_], _ => rfl, g_l_is_spot := PySem.W.mg_of X G a26, F_l_is_way := fun_mk (st := s_l_is_way) l27 c27 k27, b_l_is_way := (fun_mk (st := s_l_is_way) l27 c27 k27).binds (ps := ["_law_thing"]) fun _ _ _ _ _ _ us hl => match us, hl with | [_], _ => rfl, g_l_is_way := PySem.W.mg_of X G a27, F_l_refused := fun_mk (st := s_l_refused) l28 c28 k28, b_l_refused := (fun_mk (st := s_l_refused) l28 c28 k28).binds (ps := []) fun _ _ _ _ _ _ us hl => match us, hl with | [], _ => rfl, g_l_refused := PySem.W.mg_of X G a28, F_l_way := fun_mk (st := s_l_way) l29 c29 k29, b_l_way := (fun_mk (st := s_l_way) l29 c29 k29).binds (ps := ["_law_p", "_law_q"]) fun _ _ _ _ _ _ us hl => match us, hl with | [_, _], _ => rfl, g_l_way := PySem.W.mg_of X G a29, F_l_ways := fun_mk (st := s_l_ways) l30 c30 k30, b_l_ways := (fun_mk (st := s_l_ways) l30 c30 k30).binds (ps := ["_law_deck_here"]) fun _ _ _ _ _ _ us hl => match us, hl with | [_], _ => rfl, g_l_ways := PySem.W.mg_of X G a30, F_l_things := fun_mk (st := s_l_things) l31 c31 k31, b_l_things := (fun_mk (st := s_l_things) l31 c31 k31).binds (ps := ["_law_one", "_law_way_here", "_law_part_here"]) fun _ _ _ _ _ _ us hl => match us, hl with | [_, _, _], _ => rfl, g_l_things := PySem.W.mg_of X G a31, F_l_sums := fun_mk (st := s_l_sums) l32 c32 k32, b_l_sums := (fun_mk (st := s_l_sums) l32 c32 k32).binds (ps := ["_law_one", "_law_other", "_law_way_here", "_law_part_here"]) fun _ _ _ _ _ _ us hl => match us, hl with | [_, _, _, _], _ => rfl, g_l_sums := PySem.W.mg_of X G a32, F_law := fun_mk (st := s_law) l33 c33 k33, b_law := (fun_mk (st := s_law) l33 c33 k33).binds (ps := ["_law_script"]) fun _ _ _ _ _ _ us hl => match us, hl with | [_], _ => rfl, g_law := PySem.W.mg_of X G a33, m_ValueError := PySem.W.mg_none_of X G z_ValueError, m_abs := PySem.W.mg_none_of X G z_abs, m_all := PySem.W.mg_none_of X G z_all, m_bool := PySem.W.mg_none_of X G z_bool, m_int := PySem.W.mg_none_of X G z_int, m_isinstance := PySem.W.mg_none_of X G z_isinstance, m_len := PySem.W.mg_none_of X G z_len, m_list := PySem.W.mg_none_of X G z_list, m_max := PySem.W.mg_none_of X G z_max, m_min := PySem.W.mg_none_of X G z_min, m_range := PySem.W.mg_none_of X G z_range, m_str := PySem.W.mg_none_of X G z_str, m_tuple := PySem.W.mg_none_of X G z_tuple, g_BodyError := PySem.W.mg_of X G ac_BodyError, g_NoShare := PySem.W.mg_of X G ac_NoShare, g_NoWay := PySem.W.mg_of X G ac_NoWay, g_BadShape := PySem.W.mg_of X G ac_BadShape, x_NoWay := x_NoWay, k_NoWay := kc_NoWay, b_NoWay := bc_NoWay, t_NoWay := tc_NoWay, e_NoWay := PySem.W.exm_ref bc_NoWay hd_NoWay tc_NoWay sc_NoWay, E_NoWay := ⟨hg_NoWay, hk_NoWay, bc_NoWay, hd_NoWay, ha_NoWay, hn_NoWay, ht_NoWay, hm_NoWay⟩, i_NoWay_BodyError := kit_ref ic_BodyError it_BodyError is_NoWay_BodyError sc_NoWay, i_NoWay_ValueError := kit_type (by decide +kernel) is_NoWay_ValueError, i_NoWay_NoShare := kit_ref ic_NoShare it_NoShare is_NoWay_NoShare sc_NoWay, i_NoWay_BadShape := kit_ref ic_BadShape it_BadShape is_NoWay_BadShape sc_NoWay, g_LENGTHY := PySem.W.mg_of X G an_LENGTHY, g_STILL := PySem.W.mg_of X G aSt, t_STILL := ⟨a1S, a2S, fun H => .inr ⟨_, _, _, lSt, rfl, rfl, size63 (show 2 ≤ 1000 by decide), .cons rfl (.cons rfl .nil)⟩, fun H => .inr ⟨_, _, _, l1S, rfl, rfl, size63 (show 2 ≤ 1000 by decide), .cons ⟨_, rfl⟩ (.cons ⟨_, rfl⟩ .nil)⟩, fun H => .inr ⟨_, _, _, l2S, rfl, rfl, size63 (show 2 ≤ 1000 by decide), .cons ⟨_, rfl⟩ (.cons ⟨_, rfl⟩ .nil)⟩⟩ }
  exact ⟨PySem.W.fnOf "law" "law" (defArgs s_law) (defBody s_law) (defScope s_law) .none kV33 dc33 pm33 an33 cd33 ct33, fun s v => .of_eq rfl, fun base _ _ => ok_law T⟩
end R
open PySem PySem.W PyProof.Rows
set_option maxRecDepth 100000 in
set_option maxHeartbeats 0 in
theorem PySem.Challenge.cw_restbodies_k05_spots_and_ways_holds : PySem.Challenge.rw_restbodies_k05_spots_and_ways.Holds := by
  w_on; o_law; k_head; (case hw => w_witness2)
  k_fill
  refine L2.walk_of (l := PySem.Challenge.rw_restbodies_k05_spots_and_ways) (n := 63) (k := 7) (x := "_law_script") (CX := fun _ => L2.CX0) (sp := fun w => R.sp_law _) rfl (by decide) rfl ⟨rfl, by decide, by decide⟩ (fun w h Y => PySem.W.kIn_of Y) ?F (fun _ _ a ns hl hO hS => ⟨a, ns, rfl, hO, hS, hl, fun _ => rfl⟩) (fun _ _ _ _ _ h => h)
  case F =>
    intro w mg fa h KX G hmg
    refine' R.all_mk KX G hmg ?a0 ?l0 ?c0 ?k0 ?a1 ?l1 ?c1 ?k1 ?a2 ?l2 ?c2 ?k2 ?a3 ?l3 ?c3 ?k3 ?a4 ?l4 ?c4 ?k4 ?a5 ?l5 ?c5 ?k5 ?a6 ?l6 ?c6 ?k6 ?a7 ?l7 ?c7 ?k7 ?a8 ?l8 ?c8 ?k8 ?a9 ?l9 ?c9 ?k9 ?a10 ?l10 ?c10 ?k10 ?a11 ?l11 ?c11 ?k11 ?a12 ?l12 ?c12 ?k12 ?a13 ?l13 ?c13 ?k13 ?a14 ?l14 ?c14 ?k14 ?a15 ?l15 ?c15 ?k15 ?a16 ?l16 ?c16 ?k16 ?a17 ?l17 ?c17 ?k17 ?a18 ?l18 ?c18 ?k18 ?a19 ?l19 ?c19 ?k19 ?a20 ?l20 ?c20 ?k20 ?a21 ?l21 ?c21 ?k21 ?a22 ?l22 ?c22 ?k22 ?a23 ?l23 ?c23 ?k23 ?a24 ?l24 ?c24 ?k24 ?a25 ?l25 ?c25 ?k25 ?a26 ?l26 ?c26 ?k26 ?a27 ?l27 ?c27 ?k27 ?a28 ?l28 ?c28 ?k28 ?a29 ?l29 ?c29 ?k29 ?a30 ?l30 ?c30 ?k30 ?a31 ?l31 ?c31 ?k31 ?a32 ?l32 ?c32 ?k32 ?a33 ?l33 ?c33 ?k33 ?z_ValueError ?z_abs ?z_all ?z_bool ?z_int ?z_isinstance ?z_len ?z_list ?z_max ?z_min ?z_range ?z_str ?z_tuple ?ac_BodyError ?ac_NoShare ?ac_NoWay ?ac_BadShape ?x_NoWay ?kc_NoWay ?bc_NoWay ?tc_NoWay ?sc_NoWay ?hg_NoWay ?hk_NoWay ?hd_NoWay ?ha_NoWay ?hn_NoWay ?ht_NoWay ?hm_NoWay ?ic_BodyError ?it_BodyError ?is_NoWay_BodyError ?is_NoWay_ValueError ?ic_NoShare ?it_NoShare ?is_NoWay_NoShare ?ic_BadShape ?it_BadShape ?is_NoWay_BadShape ?an_LENGTHY ?aSt ?lSt ?l1S ?l2S
    (case a0 => k_is)
    (case l0 => k_is)
    (case c0 => k_is)
    (case k0 => k_is)
    (case a1 => k_is)
    (case l1 => k_is)
    (case c1 => k_is)
    (case k1 => k_is)
    (case a2 => k_is)
    (case l2 => k_is)
    (case c2 => k_is)
    (case k2 => k_is)
    (case a3 => k_is)
    (case l3 => k_is)
    (case c3 => k_is)
    (case k3 => k_is)
    (case a4 => k_is)
    (case l4 => k_is)
    (case c4 => k_is)
    (case k4 => k_is)
    (case a5 => k_is)
    (case l5 => k_is)
    (case c5 => k_is)
    (case k5 => k_is)
    (case a6 => k_is)
    (case l6 => k_is)
    (case c6 => k_is)
    (case k6 => k_is)
    (case a7 => k_is)
    (case l7 => k_is)
    (case c7 => k_is)
    (case k7 => k_is)
    (case a8 => k_is)
    (case l8 => k_is)
    (case c8 => k_is)
    (case k8 => k_is)
    (case a9 => k_is)
    (case l9 => k_is)
    (case c9 => k_is)
    (case k9 => k_is)
    (case a10 => k_is)
    (case l10 => k_is)
    (case c10 => k_is)
    (case k10 => k_is)
    (case a11 => k_is)
    (case l11 => k_is)
    (case c11 => k_is)
    (case k11 => k_is)
    (case a12 => k_is)
    (case l12 => k_is)
    (case c12 => k_is)
    (case k12 => k_is)
    (case a13 => k_is)
    (case l13 => k_is)
    (case c13 => k_is)
    (case k13 => k_is)
    (case a14 => k_is)
    (case l14 => k_is)
    (case c14 => k_is)
    (case k14 => k_is)
    (case a15 => k_is)
    (case l15 => k_is)
    (case c15 => k_is)
    (case k15 => k_is)
    (case a16 => k_is)
    (case l16 => k_is)
    (case c16 => k_is)
    (case k16 => k_is)
    (case a17 => k_is)
    (case l17 => k_is)
    (case c17 => k_is)
    (case k17 => k_is)
    (case a18 => k_is)
    (case l18 => k_is)
    (case c18 => k_is)
    (case k18 => k_is)
    (case a19 => k_is)
    (case l19 => k_is)
    (case c19 => k_is)
    (case k19 => k_is)
    (case a20 => k_is)
    (case l20 => k_is)
    (case c20 => k_is)
    (case k20 => k_is)
    (case a21 => k_is)
    (case l21 => k_is)
    (case c21 => k_is)
    (case k21 => k_is)
    (case a22 => k_is)
    (case l22 => k_is)
    (case c22 => k_is)
    (case k22 => k_is)
    (case a23 => k_is)
    (case l23 => k_is)
    (case c23 => k_is)
    (case k23 => k_is)
    (case a24 => k_is)
    (case l24 => k_is)
    (case c24 => k_is)
    (case k24 => k_is)
    (case a25 => k_is)
    (case l25 => k_is)
    (case c25 => k_is)
    (case k25 => k_is)
    (case a26 => k_is)
    (case l26 => k_is)
    (case c26 => k_is)
    (case k26 => k_is)
    (case a27 => k_is)
    (case l27 => k_is)
    (case c27 => k_is)
    (case k27 => k_is)
    (case a28 => k_is)
    (case l28 => k_is)
    (case c28 => k_is)
    (case k28 => k_is)
    (case a29 => k_is)
    (case l29 => k_is)
    (case c29 => k_is)
    (case k29 => k_is)
    (case a30 => k_is)
    (case l30 => k_is)
    (case c30 => k_is)
    (case k30 => k_is)
    (case a31 => k_is)
    (case l31 => k_is)
    (case c31 => k_is)
    (case k31 => k_is)
    (case a32 => k_is)
    (case l32 => k_is)
    (case c32 => k_is)
    (case k32 => k_is)
    (case a33 => k_is)
    (case l33 => k_is)
    (case c33 => k_is)
    (case k33 => k_is)
    (case z_ValueError => k_is)
    (case z_abs => k_is)
    (case z_all => k_is)
    (case z_bool => k_is)
    (case z_int => k_is)
    (case z_isinstance => k_is)
    (case z_len => k_is)
    (case z_list => k_is)
    (case z_max => k_is)
    (case z_min => k_is)
    (case z_range => k_is)
    (case z_str => k_is)
    (case z_tuple => k_is)
    (case ac_BodyError => k_is)
    (case ac_NoShare => k_is)
    (case ac_NoWay => k_is)
    (case ac_BadShape => k_is)
    (case x_NoWay => k_exc)
    (case kc_NoWay => k_is)
    (case bc_NoWay => k_is)
    (case tc_NoWay => k_is)
    (case sc_NoWay => k_is)
    (case hg_NoWay => k_is)
    (case hk_NoWay => k_is)
    (case hd_NoWay => k_is)
    (case ha_NoWay => k_is)
    (case hn_NoWay => k_is)
    (case ht_NoWay => k_is)
    (case hm_NoWay => k_is)
    (case ic_BodyError => k_is)
    (case it_BodyError => k_is)
    (case is_NoWay_BodyError => k_is)
    (case is_NoWay_ValueError => k_is)
    (case ic_NoShare => k_is)
    (case it_NoShare => k_is)
    (case is_NoWay_NoShare => k_is)
    (case ic_BadShape => k_is)
    (case it_BadShape => k_is)
    (case is_NoWay_BadShape => k_is)
    (case an_LENGTHY => k_is)
    (case aSt => k_is)
    (case lSt => k_is)
    (case l1S => k_is)
    (case l2S => k_is)
