import PyProof.Rows.All
import Wide.All
import OpenK.AllK
import Wide.FinOn
import HandS.ForMost
import HandS.Wide
import HandS.IsInst
import HandS.Defaults
import HandS.WideBits

import HandS.ForExc
import HandS.ExcIs
import HandS.Style
import PySem.Challenge.RW_restbodies_k14_whole_answers
set_option Elab.async false
set_option linter.all false
set_option maxRecDepth 100000
set_option maxHeartbeats 2000000
set_option synthInstance.maxSize 100000
set_option synthInstance.maxHeartbeats 2000000
namespace R
open PySem PySem.Spec PyProof.Rows L2
/-! ### the text -/
def topS (i : Nat) : Stmt := PySem.Challenge.pw_restbodies_k14_whole_answers.main.body.getD i (.Pass ⟨0, 0, 0, 0⟩)
abbrev s_p_common_divisor : Stmt := topS 8
theorem sc_p_common_divisor : FnScope ["one", "other"] ["one", "other"] (defScope s_p_common_divisor) := ⟨rfl, rfl, rfl, by decide +kernel, rfl, by decide +kernel, by decide +kernel⟩
abbrev s_p_plus : Stmt := topS 11
theorem sc_p_plus : FnScope ["one", "other", "top", "bottom", "more", "part", "divisor", "total", "again"] ["one", "other"] (defScope s_p_plus) := ⟨rfl, rfl, rfl, by decide +kernel, rfl, by decide +kernel, by decide +kernel⟩
abbrev s_p_minus : Stmt := topS 12
theorem sc_p_minus : FnScope ["one", "other", "top", "bottom"] ["one", "other"] (defScope s_p_minus) := ⟨rfl, rfl, rfl, by decide +kernel, rfl, by decide +kernel, by decide +kernel⟩
abbrev s_p_times : Stmt := topS 13
theorem sc_p_times : FnScope ["one", "other", "top", "bottom", "more", "part", "divisor", "again"] ["one", "other"] (defScope s_p_times) := ⟨rfl, rfl, rfl, by decide +kernel, rfl, by decide +kernel, by decide +kernel⟩
abbrev s_p_over : Stmt := topS 14
theorem sc_p_over : FnScope ["one", "other", "top", "bottom"] ["one", "other"] (defScope s_p_over) := ⟨rfl, rfl, rfl, by decide +kernel, rfl, by decide +kernel, by decide +kernel⟩
abbrev s_p_share_text : Stmt := topS 15
theorem sc_p_share_text : FnScope ["one", "top", "bottom"] ["one"] (defScope s_p_share_text) := ⟨rfl, rfl, rfl, by decide +kernel, rfl, by decide +kernel, by decide +kernel⟩
abbrev s_p_along : Stmt := topS 18
theorem sc_p_along : FnScope ["way", "spot", "p", "q", "x", "y"] ["way", "spot"] (defScope s_p_along) := ⟨rfl, rfl, rfl, by decide +kernel, rfl, by decide +kernel, by decide +kernel⟩
abbrev s_p_across : Stmt := topS 19
theorem sc_p_across : FnScope ["way", "spot", "p", "q", "x", "y"] ["way", "spot"] (defScope s_p_across) := ⟨rfl, rfl, rfl, by decide +kernel, rfl, by decide +kernel, by decide +kernel⟩
abbrev s_p_spot_times : Stmt := topS 20
theorem sc_p_spot_times : FnScope ["spot", "share"] ["spot", "share"] (defScope s_p_spot_times) := ⟨rfl, rfl, rfl, by decide +kernel, rfl, by decide +kernel, by decide +kernel⟩
abbrev s_p_onto_rail : Stmt := topS 22
theorem sc_p_onto_rail : FnScope ["rail", "spot", "mass", "p", "q", "part"] ["rail", "spot", "mass"] (defScope s_p_onto_rail) := ⟨rfl, rfl, rfl, by decide +kernel, rfl, by decide +kernel, by decide +kernel⟩
abbrev s_p_spot_words : Stmt := topS 23
theorem sc_p_spot_words : FnScope ["spot", "part"] ["spot"] (defScope s_p_spot_words) := ⟨rfl, rfl, rfl, by decide +kernel, rfl, by decide +kernel, by decide +kernel⟩
abbrev s_p_corner_words : Stmt := topS 24
theorem sc_p_corner_words : FnScope ["shape", "x", "y"] ["shape"] (defScope s_p_corner_words) := ⟨rfl, rfl, rfl, by decide +kernel, rfl, by decide +kernel, by decide +kernel⟩
abbrev s_p_wall_words : Stmt := topS 25
theorem sc_p_wall_words : FnScope ["row", "name", "shape", "mass", "rail", "place", "speed"] ["row"] (defScope s_p_wall_words) := ⟨rfl, rfl, rfl, by decide +kernel, rfl, by decide +kernel, by decide +kernel⟩
abbrev s_p_free_words : Stmt := topS 26
theorem sc_p_free_words : FnScope ["row", "name", "shape", "mass", "rail", "place", "speed"] ["row"] (defScope s_p_free_words) := ⟨rfl, rfl, rfl, by decide +kernel, rfl, by decide +kernel, by decide +kernel⟩
abbrev s_p_rail_words : Stmt := topS 27
theorem sc_p_rail_words : FnScope ["row", "name", "shape", "mass", "rail", "place", "speed", "ahead"] ["row"] (defScope s_p_rail_words) := ⟨rfl, rfl, rfl, by decide +kernel, rfl, by decide +kernel, by decide +kernel⟩
abbrev s_p_body_of : Stmt := topS 32
theorem sc_p_body_of : FnScope ["row", "name", "shape", "mass", "rail", "place", "speed"] ["row"] (defScope s_p_body_of) := ⟨rfl, rfl, rfl, by decide +kernel, rfl, by decide +kernel, by decide +kernel⟩
abbrev s_l_cell : Stmt := topS 34
theorem sc_l_cell : FnScope ["_law_script", "_law_k"] ["_law_script", "_law_k"] (defScope s_l_cell) := ⟨rfl, rfl, rfl, by decide +kernel, rfl, by decide +kernel, by decide +kernel⟩
abbrev s_l_mixed : Stmt := topS 35
theorem sc_l_mixed : FnScope ["_law_script", "_law_k", "_law_many", "_law_number_here"] ["_law_script", "_law_k", "_law_many"] (defScope s_l_mixed) := ⟨rfl, rfl, rfl, by decide +kernel, rfl, by decide +kernel, by decide +kernel⟩
abbrev s_l_deck : Stmt := topS 36
theorem sc_l_deck : FnScope ["_law_script", "_law_cell_here"] ["_law_script"] (defScope s_l_deck) := ⟨rfl, rfl, rfl, by decide +kernel, rfl, by decide +kernel, by decide +kernel⟩
abbrev s_l_take : Stmt := topS 37
theorem sc_l_take : FnScope ["_law_deck_here", "_law_many", "_law_cell_here"] ["_law_deck_here", "_law_many"] (defScope s_l_take) := ⟨rfl, rfl, rfl, by decide +kernel, rfl, by decide +kernel, by decide +kernel⟩
abbrev s_l_gcd : Stmt := topS 38
theorem sc_l_gcd : FnScope ["_law_one", "_law_other", "_law_rest"] ["_law_one", "_law_other"] (defScope s_l_gcd) := ⟨rfl, rfl, rfl, by decide +kernel, rfl, by decide +kernel, by decide +kernel⟩
abbrev s_l_whole : Stmt := topS 39
theorem sc_l_whole : FnScope ["_law_thing"] ["_law_thing"] (defScope s_l_whole) := ⟨rfl, rfl, rfl, by decide +kernel, rfl, by decide +kernel, by decide +kernel⟩
abbrev s_l_part : Stmt := topS 40
theorem sc_l_part : FnScope ["_law_top", "_law_bottom", "_law_by"] ["_law_top", "_law_bottom"] (defScope s_l_part) := ⟨rfl, rfl, rfl, by decide +kernel, rfl, by decide +kernel, by decide +kernel⟩
abbrev s_l_number : Stmt := topS 41
theorem sc_l_number : FnScope ["_law_deck_here", "_law_span"] ["_law_deck_here", "_law_span"] (defScope s_l_number) := ⟨rfl, rfl, rfl, by decide +kernel, rfl, by decide +kernel, by decide +kernel⟩
abbrev s_l_drawn : Stmt := topS 42
theorem sc_l_drawn : FnScope ["_law_deck_here", "_law_far", "_law_number_here"] ["_law_deck_here"] (defScope s_l_drawn) := ⟨rfl, rfl, rfl, by decide +kernel, rfl, by decide +kernel, by decide +kernel⟩
abbrev s_l_line : Stmt := topS 43
theorem sc_l_line : FnScope ["_law_deck_here", "_law_p", "_law_q", "_law_by"] ["_law_deck_here"] (defScope s_l_line) := ⟨rfl, rfl, rfl, by decide +kernel, rfl, by decide +kernel, by decide +kernel⟩
abbrev s_l_so_many : Stmt := topS 44
theorem sc_l_so_many : FnScope ["_law_spot", "_law_part_here", "_law_found", "_law_one"] ["_law_spot", "_law_part_here"] (defScope s_l_so_many) := ⟨rfl, rfl, rfl, by decide +kernel, rfl, by decide +kernel, by decide +kernel⟩
abbrev s_l_sum : Stmt := topS 45
theorem sc_l_sum : FnScope ["_law_one", "_law_other"] ["_law_one", "_law_other"] (defScope s_l_sum) := ⟨rfl, rfl, rfl, by decide +kernel, rfl, by decide +kernel, by decide +kernel⟩
abbrev s_l_added : Stmt := topS 46
theorem sc_l_added : FnScope ["_law_spot", "_law_other"] ["_law_spot", "_law_other"] (defScope s_l_added) := ⟨rfl, rfl, rfl, by decide +kernel, rfl, by decide +kernel, by decide +kernel⟩
abbrev s_l_dot : Stmt := topS 47
theorem sc_l_dot : FnScope ["_law_spot", "_law_other", "_law_here"] ["_law_spot", "_law_other"] (defScope s_l_dot) := ⟨rfl, rfl, rfl, by decide +kernel, rfl, by decide +kernel, by decide +kernel⟩
abbrev s_l_is_spot : Stmt := topS 48
theorem sc_l_is_spot : FnScope ["_law_found", "_law_one"] ["_law_found"] (defScope s_l_is_spot) := ⟨rfl, rfl, rfl, by decide +kernel, rfl, by decide +kernel, by decide +kernel⟩
abbrev s_l_push : Stmt := topS 49
theorem sc_l_push : FnScope ["_law_deck_here", "_law_line_here", "_law_way", "_law_spot"] ["_law_deck_here", "_law_line_here"] (defScope s_l_push) := ⟨rfl, rfl, rfl, by decide +kernel, rfl, by decide +kernel, by decide +kernel⟩
abbrev s_l_row : Stmt := topS 50
theorem sc_l_row : FnScope ["_law_deck_here", "_law_kind", "_law_line_here", "_law_shape", "_law_heavy", "_law_place", "_law_still"] ["_law_deck_here", "_law_kind", "_law_line_here"] (defScope s_l_row) := ⟨rfl, rfl, rfl, by decide +kernel, rfl, by decide +kernel, by decide +kernel⟩
abbrev s_l_alone : Stmt := topS 51
theorem sc_l_alone : FnScope ["_law_body", "_law_row_here", "_law_push_here", "_law_answer", "_law_mays", "_law_kick", "_law_own", "_law_left", "_law_one"] ["_law_body", "_law_row_here", "_law_push_here", "_law_answer", "_law_mays"] (defScope s_l_alone) := ⟨rfl, rfl, rfl, by decide +kernel, rfl, by decide +kernel, by decide +kernel⟩
abbrev s_l_two : Stmt := topS 52
theorem sc_l_two : FnScope ["_law_body", "_law_one", "_law_other", "_law_here", "_law_there"] ["_law_body", "_law_one", "_law_other", "_law_here", "_law_there"] (defScope s_l_two) := ⟨rfl, rfl, rfl, by decide +kernel, rfl, by decide +kernel, by decide +kernel⟩
abbrev s_law : Stmt := topS 53
theorem sc_law : FnScope ["_law_script", "_law_deck_here", "_law_kind", "_law_line_here", "_law_row_here", "_law_body", "_law_mays", "_law_pushes", "_law_answers", "_law_k", "_law_push_here"] ["_law_script"] (defScope s_law) := ⟨rfl, rfl, rfl, by decide +kernel, rfl, by decide +kernel, by decide +kernel⟩
abbrev s_m_Body___init__ : Stmt := inClass (topS 28) 0
theorem sc_m_Body___init__ : FnScope ["self", "row"] ["self", "row"] (defScope s_m_Body___init__) := ⟨rfl, rfl, rfl, by decide +kernel, rfl, by decide +kernel, by decide +kernel⟩
abbrev s_m_Wall_answer : Stmt := inClass (topS 29) 0
theorem sc_m_Wall_answer : FnScope ["self", "push"] ["self", "push"] (defScope s_m_Wall_answer) := ⟨rfl, rfl, rfl, by decide +kernel, rfl, by decide +kernel, by decide +kernel⟩
abbrev s_m_Wall_kick : Stmt := inClass (topS 29) 1
theorem sc_m_Wall_kick : FnScope ["self", "pull"] ["self", "pull"] (defScope s_m_Wall_kick) := ⟨rfl, rfl, rfl, by decide +kernel, rfl, by decide +kernel, by decide +kernel⟩
abbrev s_m_Wall_may : Stmt := inClass (topS 29) 2
theorem sc_m_Wall_may : FnScope ["self", "speed"] ["self", "speed"] (defScope s_m_Wall_may) := ⟨rfl, rfl, rfl, by decide +kernel, rfl, by decide +kernel, by decide +kernel⟩
abbrev s_m_Free_answer : Stmt := inClass (topS 30) 0
theorem sc_m_Free_answer : FnScope ["self", "push"] ["self", "push"] (defScope s_m_Free_answer) := ⟨rfl, rfl, rfl, by decide +kernel, rfl, by decide +kernel, by decide +kernel⟩
abbrev s_m_Free_kick : Stmt := inClass (topS 30) 1
theorem sc_m_Free_kick : FnScope ["self", "pull"] ["self", "pull"] (defScope s_m_Free_kick) := ⟨rfl, rfl, rfl, by decide +kernel, rfl, by decide +kernel, by decide +kernel⟩
abbrev s_m_Free_may : Stmt := inClass (topS 30) 2
theorem sc_m_Free_may : FnScope ["self", "speed"] ["self", "speed"] (defScope s_m_Free_may) := ⟨rfl, rfl, rfl, by decide +kernel, rfl, by decide +kernel, by decide +kernel⟩
abbrev s_m_Railed_answer : Stmt := inClass (topS 31) 0
theorem sc_m_Railed_answer : FnScope ["self", "push"] ["self", "push"] (defScope s_m_Railed_answer) := ⟨rfl, rfl, rfl, by decide +kernel, rfl, by decide +kernel, by decide +kernel⟩
abbrev s_m_Railed_kick : Stmt := inClass (topS 31) 1
theorem sc_m_Railed_kick : FnScope ["self", "pull"] ["self", "pull"] (defScope s_m_Railed_kick) := ⟨rfl, rfl, rfl, by decide +kernel, rfl, by decide +kernel, by decide +kernel⟩
abbrev s_m_Railed_may : Stmt := inClass (topS 31) 2
theorem sc_m_Railed_may : FnScope ["self", "speed"] ["self", "speed"] (defScope s_m_Railed_may) := ⟨rfl, rfl, rfl, by decide +kernel, rfl, by decide +kernel, by decide +kernel⟩
/-! ### heaps -/
theorem upd_some {H : Hp} {p x : Addr} {o u : HO} (hp : H p = none) (h : H x = some u) : (upd H p o) x = some u := by
  rw [upd_ne (ne_of_none h hp)]
  exact h
theorem same_upd {H : Hp} {p : Addr} {o : HO} (h : H p = none) : Same H (upd H p o) := fun b x e => upd_some h e
theorem alloc {H G : Hp} {p : Addr} {o : HO} (e : upd H p o = G) (hp : H p = none) : Same H G ∧ G p = some o := by
  subst e
  exact ⟨same_upd hp, upd_same⟩
theorem Same.seqT {K : PySem.W.Frag} {H H' : Hp} {a : Addr} {xs : List V} (e : Same H H') (h : SqT K H a xs) : SqT K H' a xs := by
  rcases h with (h | ⟨o, h⟩) | h
  · exact .inl (.inl (e _ _ h))
  · exact .inl (.inr ⟨o, e _ _ h⟩)
  · exact .inr h
/-- all but what stands at d and b is as it was -/
def Kp (d b : Addr) (H H' : Hp) : Prop := ∀ x o, x ≠ d → x ≠ b → H x = some o → H' x = some o
theorem Kp.refl {d b : Addr} {H : Hp} : Kp d b H H := fun _ _ _ _ h => h
theorem Kp.trans {d b : Addr} {H H1 H2 : Hp} (u : Kp d b H H1) (v : Kp d b H1 H2) : Kp d b H H2 := fun x o h1 h2 h => v x o h1 h2 (u x o h1 h2 h)
theorem Kp.same {d b : Addr} {H H' : Hp} (s : Same H H') : Kp d b H H' := fun x o _ _ h => s x o h
theorem Kp.free {d b : Addr} {H H' : Hp} (u : Kp d b H H') {x : Addr} (hd : H d ≠ none) (hb : H b ≠ none) (h : H' x = none) (h1 : H' d ≠ none) (h2 : H' b ≠ none) : H x = none := by
  cases e : H x with
  | none => rfl
  | some o =>
    by_cases e1 : x = d
    · subst e1; exact absurd h h1
    by_cases e2 : x = b
    · subst e2; exact absurd h h2
    rw [u x o e1 e2 e] at h
    cases h
/-- the law's script -/
def Sc (K : PySem.W.Frag) (H : Hp) (s : Addr) (ns : List Int) : Prop := (∃ o, H s = some (.frz o (.lst (ns.map V.int)))) ∨ ∀ H', SqL K H' s (ns.map V.int)
theorem Sc.seq {K : PySem.W.Frag} {H : Hp} {s : Addr} {ns : List Int} (h : Sc K H s ns) : SqL K H s (ns.map V.int) := by
  rcases h with ⟨o, h⟩ | h
  · exact .inl (.inr ⟨o, h⟩)
  · exact h H
theorem Sc.mk {K : PySem.W.Frag} {H : Hp} {s : Addr} {ns : List Int} (hO : Only H) (h : SqL K H s (ns.map V.int)) : Sc K H s ns := by
  rcases h with (h | ⟨o, h⟩) | h
  · rcases hO s with e | ⟨o, xs, e⟩
    · rw [e] at h; cases h
    · rw [e] at h; cases h
  · exact .inl ⟨o, h⟩
  · exact .inr fun H' => .inr h
theorem Sc.upd {K : PySem.W.Frag} {H : Hp} {s b : Addr} {ns : List Int} {u : HO} (h : Sc K H s ns) (hb : H b = none ∨ ∃ xs, H b = some (.lst xs)) : Sc K (upd H b u) s ns := by
  rcases h with ⟨o, h⟩ | h
  · refine .inl ⟨o, ?_⟩
    have n : s ≠ b := fun e => by
      subst e
      rcases hb with e | ⟨xs, e⟩ <;> rw [e] at h <;> cases h
    rw [upd_ne n]
    exact h
  · exact .inr h
theorem Sc.keep {K : PySem.W.Frag} {H H' : Hp} {s : Addr} {ns : List Int} (h : Sc K H s ns) (k : Same H H') : Sc K H' s ns := by
  rcases h with ⟨o, h⟩ | h
  · exact .inl ⟨o, k _ _ h⟩
  · exact .inr h
/-- the deck at d, its cells at b, drawn at most c times -/
structure Deck (K : PySem.W.Frag) (H : Hp) (d b : Addr) (c : Int) : Prop where
  ex : ∃ (s : Addr) (ns cs : List Int) (i k : Int), H d = some (.lst [.ref s, .ref b, .int i, .int k]) ∧ H b = some (.lst (cs.map V.int)) ∧ Sc K H s ns ∧ 0 ≤ i ∧ 0 ≤ k ∧ k ≤ c
  ne : b ≠ d
theorem Deck.keep {K : PySem.W.Frag} {H H' : Hp} {d b : Addr} {c : Int} (D : Deck K H d b c) (k : Same H H') : Deck K H' d b c := by
  obtain ⟨⟨s, ns, cs, i, j, h1, h2, h3, h4⟩, n⟩ := D
  exact ⟨⟨s, ns, cs, i, j, k _ _ h1, k _ _ h2, h3.keep k, h4⟩, n⟩
theorem Deck.le {K : PySem.W.Frag} {H : Hp} {d b : Addr} {c c' : Int} (D : Deck K H d b c) (h : c ≤ c') : Deck K H d b c' := by
  obtain ⟨⟨s, ns, cs, i, j, h1, h2, h3, h4, h5, h6⟩, n⟩ := D
  exact ⟨⟨s, ns, cs, i, j, h1, h2, h3, h4, h5, by omega⟩, n⟩
/-- an object beside the deck stands -/
theorem Deck.tup {K : PySem.W.Frag} {H H' : Hp} {d b x : Addr} {c : Int} {xs : List V} (D : Deck K H d b c) (k : Kp d b H H') (h : H x = some (.tup xs)) : H' x = some (.tup xs) := by
  obtain ⟨⟨s, ns, cs, i, j, h1, h2, _⟩, n⟩ := D
  exact k x _ (fun e => by rw [e, h1] at h; cases h) (fun e => by rw [e, h2] at h; cases h) h
theorem Deck.seqT {K : PySem.W.Frag} {H H' : Hp} {d b x : Addr} {c : Int} {xs : List V} (D : Deck K H d b c) (k : Kp d b H H') (h : SqT K H x xs) : SqT K H' x xs := by
  obtain ⟨⟨s, ns, cs, i, j, h1, h2, _⟩, n⟩ := D
  rcases h with (h | ⟨o, h⟩) | h
  · exact .inl (.inl (k x _ (fun e => by rw [e, h1] at h; cases h) (fun e => by rw [e, h2] at h; cases h) h))
  · exact .inl (.inr ⟨o, k x _ (fun e => by rw [e, h1] at h; cases h) (fun e => by rw [e, h2] at h; cases h) h⟩)
  · exact .inr h
theorem Deck.hd {K : PySem.W.Frag} {H : Hp} {d b : Addr} {c : Int} (D : Deck K H d b c) : H d ≠ none := by
  obtain ⟨⟨s, ns, cs, i, j, h1, _⟩, n⟩ := D
  rw [h1]; exact fun e => nomatch e
theorem Deck.hb {K : PySem.W.Frag} {H : Hp} {d b : Addr} {c : Int} (D : Deck K H d b c) : H b ≠ none := by
  obtain ⟨⟨s, ns, cs, i, j, _, h1, _⟩, n⟩ := D
  rw [h1]; exact fun e => nomatch e
theorem Deck.free {K : PySem.W.Frag} {H H' : Hp} {d b x : Addr} {c c' : Int} (D : Deck K H d b c) (D' : Deck K H' d b c') (k : Kp d b H H') (h : H' x = none) : H x = none := k.free D.hd D.hb h D'.hd D'.hb
theorem Deck.ne_d {K : PySem.W.Frag} {H : Hp} {d b x : Addr} {c : Int} (D : Deck K H d b c) (h : H x = none) : x ≠ d := fun e => D.hd (e ▸ h)
theorem Deck.ne_b {K : PySem.W.Frag} {H : Hp} {d b x : Addr} {c : Int} (D : Deck K H d b c) (h : H x = none) : x ≠ b := fun e => D.hb (e ▸ h)
/-! ### numbers -/
theorem log2_lt {n k : Nat} (h : n < 2 ^ k) (h0 : 0 < k) : n.log2 < k := PySem.Flt.log2_lt_of h0 h
theorem size63 {n : Nat} (h : n ≤ 1000) : n ≤ sizeLine := Nat.le_of_lt (small1000 h)
theorem abs_nn (i : Int) : 0 ≤ (if i < 0 then -i else i) := by
  split <;> omega
theorem abs_nat (i : Int) : (if i < 0 then -i else i) = (i.natAbs : Int) := by
  split <;> omega
/-! ### the facts of the text -/
structure Ad where
  f_p_common_divisor : Addr
  fd_p_common_divisor : FuncData
  f_p_plus : Addr
  fd_p_plus : FuncData
  f_p_minus : Addr
  fd_p_minus : FuncData
  f_p_times : Addr
  fd_p_times : FuncData
  f_p_over : Addr
  fd_p_over : FuncData
  f_p_share_text : Addr
  fd_p_share_text : FuncData
  f_p_along : Addr
  fd_p_along : FuncData
  f_p_across : Addr
  fd_p_across : FuncData
  f_p_spot_times : Addr
  fd_p_spot_times : FuncData
  f_p_onto_rail : Addr
  fd_p_onto_rail : FuncData
  f_p_spot_words : Addr
  fd_p_spot_words : FuncData
  f_p_corner_words : Addr
  fd_p_corner_words : FuncData
  f_p_wall_words : Addr
  fd_p_wall_words : FuncData
  f_p_free_words : Addr
  fd_p_free_words : FuncData
  f_p_rail_words : Addr
  fd_p_rail_words : FuncData
  f_p_body_of : Addr
  fd_p_body_of : FuncData
  f_l_cell : Addr
  fd_l_cell : FuncData
  f_l_mixed : Addr
  fd_l_mixed : FuncData
  f_l_deck : Addr
  fd_l_deck : FuncData
  f_l_take : Addr
  fd_l_take : FuncData
  f_l_gcd : Addr
  fd_l_gcd : FuncData
  f_l_whole : Addr
  fd_l_whole : FuncData
  f_l_part : Addr
  fd_l_part : FuncData
  f_l_number : Addr
  fd_l_number : FuncData
  f_l_drawn : Addr
  fd_l_drawn : FuncData
  f_l_line : Addr
  fd_l_line : FuncData
  f_l_so_many : Addr
  fd_l_so_many : FuncData
  f_l_sum : Addr
  fd_l_sum : FuncData
  f_l_added : Addr
  fd_l_added : FuncData
  f_l_dot : Addr
  fd_l_dot : FuncData
  f_l_is_spot : Addr
  fd_l_is_spot : FuncData
  f_l_push : Addr
  fd_l_push : FuncData
  f_l_row : Addr
  fd_l_row : FuncData
  f_l_alone : Addr
  fd_l_alone : FuncData
  f_l_two : Addr
  fd_l_two : FuncData
  f_law : Addr
  fd_law : FuncData
  c_BodyError : Addr
  c_NoShare : Addr
  c_Body : Addr
  c_Wall : Addr
  c_Free : Addr
  c_Railed : Addr
  f_m_Body___init__ : Addr
  fd_m_Body___init__ : FuncData
  f_m_Wall_answer : Addr
  fd_m_Wall_answer : FuncData
  f_m_Wall_kick : Addr
  fd_m_Wall_kick : FuncData
  f_m_Wall_may : Addr
  fd_m_Wall_may : FuncData
  f_m_Free_answer : Addr
  fd_m_Free_answer : FuncData
  f_m_Free_kick : Addr
  fd_m_Free_kick : FuncData
  f_m_Free_may : Addr
  fd_m_Free_may : FuncData
  f_m_Railed_answer : Addr
  fd_m_Railed_answer : FuncData
  f_m_Railed_kick : Addr
  fd_m_Railed_kick : FuncData
  f_m_Railed_may : Addr
  fd_m_Railed_may : FuncData
  n_STILL : Addr
  n_NOUGHT : Addr
  k_LENGTHY : Tok
structure Tx (K : PySem.W.Frag) (mg : Str → Option Value) (A : Ad) : Prop where
  F_p_common_divisor : Fun K "common_divisor" "common_divisor" s_p_common_divisor A.f_p_common_divisor A.fd_p_common_divisor
  b_p_common_divisor : Binds K A.fd_p_common_divisor ["one", "other"] []
  g_p_common_divisor : mg "common_divisor" = some (.ref A.f_p_common_divisor)
  F_p_plus : Fun K "plus" "plus" s_p_plus A.f_p_plus A.fd_p_plus
  b_p_plus : Binds K A.fd_p_plus ["one", "other"] []
  g_p_plus : mg "plus" = some (.ref A.f_p_plus)
  F_p_minus : Fun K "minus" "minus" s_p_minus A.f_p_minus A.fd_p_minus
  b_p_minus : Binds K A.fd_p_minus ["one", "other"] []
  g_p_minus : mg "minus" = some (.ref A.f_p_minus)
  F_p_times : Fun K "times" "times" s_p_times A.f_p_times A.fd_p_times
  b_p_times : Binds K A.fd_p_times ["one", "other"] []
  g_p_times : mg "times" = some (.ref A.f_p_times)
  F_p_over : Fun K "over" "over" s_p_over A.f_p_over A.fd_p_over
  b_p_over : Binds K A.fd_p_over ["one", "other"] []
  g_p_over : mg "over" = some (.ref A.f_p_over)
  F_p_share_text : Fun K "share_text" "share_text" s_p_share_text A.f_p_share_text A.fd_p_share_text
  b_p_share_text : Binds K A.fd_p_share_text ["one"] []
  g_p_share_text : mg "share_text" = some (.ref A.f_p_share_text)
  F_p_along : Fun K "along" "along" s_p_along A.f_p_along A.fd_p_along
  b_p_along : Binds K A.fd_p_along ["way", "spot"] []
  g_p_along : mg "along" = some (.ref A.f_p_along)
  F_p_across : Fun K "across" "across" s_p_across A.f_p_across A.fd_p_across
  b_p_across : Binds K A.fd_p_across ["way", "spot"] []
  g_p_across : mg "across" = some (.ref A.f_p_across)
  F_p_spot_times : Fun K "spot_times" "spot_times" s_p_spot_times A.f_p_spot_times A.fd_p_spot_times
  b_p_spot_times : Binds K A.fd_p_spot_times ["spot", "share"] []
  g_p_spot_times : mg "spot_times" = some (.ref A.f_p_spot_times)
  F_p_onto_rail : Fun K "onto_rail" "onto_rail" s_p_onto_rail A.f_p_onto_rail A.fd_p_onto_rail
  b_p_onto_rail : Binds K A.fd_p_onto_rail ["rail", "spot", "mass"] []
  g_p_onto_rail : mg "onto_rail" = some (.ref A.f_p_onto_rail)
  F_p_spot_words : Fun K "spot_words" "spot_words" s_p_spot_words A.f_p_spot_words A.fd_p_spot_words
  b_p_spot_words : Binds K A.fd_p_spot_words ["spot"] []
  g_p_spot_words : mg "spot_words" = some (.ref A.f_p_spot_words)
  F_p_corner_words : Fun K "corner_words" "corner_words" s_p_corner_words A.f_p_corner_words A.fd_p_corner_words
  b_p_corner_words : Binds K A.fd_p_corner_words ["shape"] []
  g_p_corner_words : mg "corner_words" = some (.ref A.f_p_corner_words)
  F_p_wall_words : Fun K "wall_words" "wall_words" s_p_wall_words A.f_p_wall_words A.fd_p_wall_words
  b_p_wall_words : Binds K A.fd_p_wall_words ["row"] []
  g_p_wall_words : mg "wall_words" = some (.ref A.f_p_wall_words)
  F_p_free_words : Fun K "free_words" "free_words" s_p_free_words A.f_p_free_words A.fd_p_free_words
  b_p_free_words : Binds K A.fd_p_free_words ["row"] []
  g_p_free_words : mg "free_words" = some (.ref A.f_p_free_words)
  F_p_rail_words : Fun K "rail_words" "rail_words" s_p_rail_words A.f_p_rail_words A.fd_p_rail_words
  b_p_rail_words : Binds K A.fd_p_rail_words ["row"] []
  g_p_rail_words : mg "rail_words" = some (.ref A.f_p_rail_words)
  F_p_body_of : Fun K "body_of" "body_of" s_p_body_of A.f_p_body_of A.fd_p_body_of
  b_p_body_of : Binds K A.fd_p_body_of ["row"] []
  g_p_body_of : mg "body_of" = some (.ref A.f_p_body_of)
  F_l_cell : Fun K "_law_cell" "_law_cell" s_l_cell A.f_l_cell A.fd_l_cell
  b_l_cell : Binds K A.fd_l_cell ["_law_script", "_law_k"] []
  g_l_cell : mg "_law_cell" = some (.ref A.f_l_cell)
  F_l_mixed : Fun K "_law_mixed" "_law_mixed" s_l_mixed A.f_l_mixed A.fd_l_mixed
  b_l_mixed : Binds K A.fd_l_mixed ["_law_script", "_law_k", "_law_many"] []
  g_l_mixed : mg "_law_mixed" = some (.ref A.f_l_mixed)
  F_l_deck : Fun K "_law_deck" "_law_deck" s_l_deck A.f_l_deck A.fd_l_deck
  b_l_deck : Binds K A.fd_l_deck ["_law_script"] []
  g_l_deck : mg "_law_deck" = some (.ref A.f_l_deck)
  F_l_take : Fun K "_law_take" "_law_take" s_l_take A.f_l_take A.fd_l_take
  b_l_take : Binds K A.fd_l_take ["_law_deck_here", "_law_many"] []
  g_l_take : mg "_law_take" = some (.ref A.f_l_take)
  F_l_gcd : Fun K "_law_gcd" "_law_gcd" s_l_gcd A.f_l_gcd A.fd_l_gcd
  b_l_gcd : Binds K A.fd_l_gcd ["_law_one", "_law_other"] []
  g_l_gcd : mg "_law_gcd" = some (.ref A.f_l_gcd)
  F_l_whole : Fun K "_law_whole" "_law_whole" s_l_whole A.f_l_whole A.fd_l_whole
  b_l_whole : Binds K A.fd_l_whole ["_law_thing"] []
  g_l_whole : mg "_law_whole" = some (.ref A.f_l_whole)
  F_l_part : Fun K "_law_part" "_law_part" s_l_part A.f_l_part A.fd_l_part
  b_l_part : Binds K A.fd_l_part ["_law_top", "_law_bottom"] []
  g_l_part : mg "_law_part" = some (.ref A.f_l_part)
  F_l_number : Fun K "_law_number" "_law_number" s_l_number A.f_l_number A.fd_l_number
  b_l_number : Binds K A.fd_l_number ["_law_deck_here", "_law_span"] []
  g_l_number : mg "_law_number" = some (.ref A.f_l_number)
  F_l_drawn : Fun K "_law_drawn" "_law_drawn" s_l_drawn A.f_l_drawn A.fd_l_drawn
  b_l_drawn : Binds K A.fd_l_drawn ["_law_deck_here"] []
  g_l_drawn : mg "_law_drawn" = some (.ref A.f_l_drawn)
  F_l_line : Fun K "_law_line" "_law_line" s_l_line A.f_l_line A.fd_l_line
  b_l_line : Binds K A.fd_l_line ["_law_deck_here"] []
  g_l_line : mg "_law_line" = some (.ref A.f_l_line)
  F_l_so_many : Fun K "_law_so_many" "_law_so_many" s_l_so_many A.f_l_so_many A.fd_l_so_many
  b_l_so_many : Binds K A.fd_l_so_many ["_law_spot", "_law_part_here"] []
  g_l_so_many : mg "_law_so_many" = some (.ref A.f_l_so_many)
  F_l_sum : Fun K "_law_sum" "_law_sum" s_l_sum A.f_l_sum A.fd_l_sum
  b_l_sum : Binds K A.fd_l_sum ["_law_one", "_law_other"] []
  g_l_sum : mg "_law_sum" = some (.ref A.f_l_sum)
  F_l_added : Fun K "_law_added" "_law_added" s_l_added A.f_l_added A.fd_l_added
  b_l_added : Binds K A.fd_l_added ["_law_spot", "_law_other"] []
  g_l_added : mg "_law_added" = some (.ref A.f_l_added)
  F_l_dot : Fun K "_law_dot" "_law_dot" s_l_dot A.f_l_dot A.fd_l_dot
  b_l_dot : Binds K A.fd_l_dot ["_law_spot", "_law_other"] []
  g_l_dot : mg "_law_dot" = some (.ref A.f_l_dot)
  F_l_is_spot : Fun K "_law_is_spot" "_law_is_spot" s_l_is_spot A.f_l_is_spot A.fd_l_is_spot
  b_l_is_spot : Binds K A.fd_l_is_spot ["_law_found"] []
  g_l_is_spot : mg "_law_is_spot" = some (.ref A.f_l_is_spot)
  F_l_push : Fun K "_law_push" "_law_push" s_l_push A.f_l_push A.fd_l_push
  b_l_push : Binds K A.fd_l_push ["_law_deck_here", "_law_line_here"] []
  g_l_push : mg "_law_push" = some (.ref A.f_l_push)
  F_l_row : Fun K "_law_row" "_law_row" s_l_row A.f_l_row A.fd_l_row
  b_l_row : Binds K A.fd_l_row ["_law_deck_here", "_law_kind", "_law_line_here"] []
  g_l_row : mg "_law_row" = some (.ref A.f_l_row)
  F_l_alone : Fun K "_law_alone" "_law_alone" s_l_alone A.f_l_alone A.fd_l_alone
  b_l_alone : Binds K A.fd_l_alone ["_law_body", "_law_row_here", "_law_push_here", "_law_answer", "_law_mays"] []
  g_l_alone : mg "_law_alone" = some (.ref A.f_l_alone)
  F_l_two : Fun K "_law_two" "_law_two" s_l_two A.f_l_two A.fd_l_two
  b_l_two : Binds K A.fd_l_two ["_law_body", "_law_one", "_law_other", "_law_here", "_law_there"] []
  g_l_two : mg "_law_two" = some (.ref A.f_l_two)
  F_law : Fun K "law" "law" s_law A.f_law A.fd_law
  b_law : Binds K A.fd_law ["_law_script"] []
  g_law : mg "law" = some (.ref A.f_law)
  m_abs : mg "abs" = none
  m_bool : mg "bool" = none
  m_int : mg "int" = none
  m_isinstance : mg "isinstance" = none
  m_len : mg "len" = none
  m_max : mg "max" = none
  m_min : mg "min" = none
  m_range : mg "range" = none
  m_str : mg "str" = none
  m_tuple : mg "tuple" = none
  g_STILL : mg "STILL" = some (.ref A.n_STILL)
  g_NOUGHT : mg "NOUGHT" = some (.ref A.n_NOUGHT)
  t_NOUGHT : ∀ H, SqT K H A.n_NOUGHT [.int 0, .int 1]
  g_LENGTHY : mg "LENGTHY" = some (.int 4000 A.k_LENGTHY)
  g_BodyError : mg "BodyError" = some (.ref A.c_BodyError)
  g_NoShare : mg "NoShare" = some (.ref A.c_NoShare)
  g_Body : mg "Body" = some (.ref A.c_Body)
  g_Wall : mg "Wall" = some (.ref A.c_Wall)
  g_Free : mg "Free" = some (.ref A.c_Free)
  g_Railed : mg "Railed" = some (.ref A.c_Railed)
  F_m_Body___init__ : Fun K "__init__" "Body.__init__" s_m_Body___init__ A.f_m_Body___init__ A.fd_m_Body___init__
  b_m_Body___init__ : Binds K A.fd_m_Body___init__ ["self", "row"] []
  F_m_Wall_answer : Fun K "answer" "Wall.answer" s_m_Wall_answer A.f_m_Wall_answer A.fd_m_Wall_answer
  b_m_Wall_answer : Binds K A.fd_m_Wall_answer ["self", "push"] []
  mt_m_Wall_answer : Meth K A.c_Wall "answer" A.f_m_Wall_answer
  F_m_Wall_kick : Fun K "kick" "Wall.kick" s_m_Wall_kick A.f_m_Wall_kick A.fd_m_Wall_kick
  b_m_Wall_kick : Binds K A.fd_m_Wall_kick ["self", "pull"] []
  mt_m_Wall_kick : Meth K A.c_Wall "kick" A.f_m_Wall_kick
  F_m_Wall_may : Fun K "may" "Wall.may" s_m_Wall_may A.f_m_Wall_may A.fd_m_Wall_may
  b_m_Wall_may : Binds K A.fd_m_Wall_may ["self", "speed"] []
  mt_m_Wall_may : Meth K A.c_Wall "may" A.f_m_Wall_may
  F_m_Free_answer : Fun K "answer" "Free.answer" s_m_Free_answer A.f_m_Free_answer A.fd_m_Free_answer
  b_m_Free_answer : Binds K A.fd_m_Free_answer ["self", "push"] []
  mt_m_Free_answer : Meth K A.c_Free "answer" A.f_m_Free_answer
  F_m_Free_kick : Fun K "kick" "Free.kick" s_m_Free_kick A.f_m_Free_kick A.fd_m_Free_kick
  b_m_Free_kick : Binds K A.fd_m_Free_kick ["self", "pull"] []
  mt_m_Free_kick : Meth K A.c_Free "kick" A.f_m_Free_kick
  F_m_Free_may : Fun K "may" "Free.may" s_m_Free_may A.f_m_Free_may A.fd_m_Free_may
  b_m_Free_may : Binds K A.fd_m_Free_may ["self", "speed"] []
  mt_m_Free_may : Meth K A.c_Free "may" A.f_m_Free_may
  F_m_Railed_answer : Fun K "answer" "Railed.answer" s_m_Railed_answer A.f_m_Railed_answer A.fd_m_Railed_answer
  b_m_Railed_answer : Binds K A.fd_m_Railed_answer ["self", "push"] []
  mt_m_Railed_answer : Meth K A.c_Railed "answer" A.f_m_Railed_answer
  F_m_Railed_kick : Fun K "kick" "Railed.kick" s_m_Railed_kick A.f_m_Railed_kick A.fd_m_Railed_kick
  b_m_Railed_kick : Binds K A.fd_m_Railed_kick ["self", "pull"] []
  mt_m_Railed_kick : Meth K A.c_Railed "kick" A.f_m_Railed_kick
  F_m_Railed_may : Fun K "may" "Railed.may" s_m_Railed_may A.f_m_Railed_may A.fd_m_Railed_may
  b_m_Railed_may : Binds K A.fd_m_Railed_may ["self", "speed"] []
  mt_m_Railed_may : Meth K A.c_Railed "may" A.f_m_Railed_may
  cl_Wall : Cls K A.c_Wall
  mk_Wall : Mk K A.c_Wall A.f_m_Body___init__
  na_Wall_row : NoAttr K A.c_Wall "row"
  na_Wall_name : NoAttr K A.c_Wall "name"
  na_Wall_mass : NoAttr K A.c_Wall "mass"
  cl_Free : Cls K A.c_Free
  mk_Free : Mk K A.c_Free A.f_m_Body___init__
  na_Free_row : NoAttr K A.c_Free "row"
  na_Free_name : NoAttr K A.c_Free "name"
  na_Free_mass : NoAttr K A.c_Free "mass"
  cl_Railed : Cls K A.c_Railed
  mk_Railed : Mk K A.c_Railed A.f_m_Body___init__
  na_Railed_row : NoAttr K A.c_Railed "row"
  na_Railed_name : NoAttr K A.c_Railed "name"
  na_Railed_mass : NoAttr K A.c_Railed "mass"
  x_NoShare : PySem.W.excIn K A.c_NoShare [.type "ValueError", .type "Exception", .type "BaseException", .type "object"] "ValueError.__new__" = true
  k_NoShare : PySem.W.keepIn K (.ref A.c_NoShare) = true
  b_NoShare : PySem.W.subIn K (.ref A.c_NoShare) (.type "BaseException") = some true
  t_NoShare : PySem.W.typeIn K (.ref A.c_NoShare) = some (.type "type")
  e_NoShare : PySem.W.exmOne K (.ref A.c_NoShare) (.ref A.c_NoShare) = some true
  E_NoShare : ExcC K A.c_NoShare
  t_STILL : ∃ a1 a2, (∀ H, SqT K H A.n_STILL [.ref a1, .ref a2]) ∧ (∀ H, SqT K H a1 [.int 0, .int 1]) ∧ (∀ H, SqT K H a2 [.int 0, .int 1])
section
variable {P : Program} {w : World} {K : PySem.W.Frag} {mg : Str → Option Value} {base : Heap} {A : Ad}
theorem ixN_nat {n j : Nat} (h : j < n) : ixN n (j : Int) = some j := by
  unfold ixN
  rw [if_pos (by omega), if_pos (by omega)]
  rfl
theorem ty_tup {H : Hp} {a : Addr} {xs : List V} (h : SqT K H a xs) : TyX K H (.ref a) (.type "tuple") := by
  rcases h with (h | ⟨o, h⟩) | ⟨o, its, n, h, hc, _⟩
  · exact .base (.tup h)
  · exact .fTuple h
  · exact .kTuple h hc

/-! ### an except suite whose error is of a known class -/
def tOwn (D : Addr) (cls : Value) (d : Option Addr) (t : TS) : TS := fun e σ H => cls = .ref D ∧ d = none ∧ t e σ H
theorem suite_own {X : Cx} {ss : List Stmt} {t : TS} {D : Addr} {oe : Obj} {cls : Value} {d : Option Addr} (hz : Zc cls d oe) (h : Zc (.ref D) none oe → PSs X ss t) : PSs X ss (tOwn D cls d t) := ⟨fun pins s σ H E I q => by
  obtain ⟨rfl, rfl, q⟩ := q
  exact (h hz).run pins s σ H E I q⟩
theorem kit_ref {K : PySem.W.Frag} {D C : Addr} {b : Bool} (hc : PySem.W.isClsIn K C = true) (ht : PySem.W.typeIn K (.ref C) = some (.type "type")) (hs : PySem.W.subIn K (.ref D) (.ref C) = some b) (hd : PySem.W.subIn K (.ref D) (.ref D) = some true) : PySem.W.kitOne K (.ref D) (.ref C) = some b := by
  unfold PySem.W.kitOne
  by_cases e : D = C
  · subst e
    rw [hd] at hs
    cases hs
    rw [if_pos (beq_self_eq_true _)]
  · have hne : ¬ ((Value.ref D == Value.ref C) = true) := fun z => e (Value.ref.inj (beq_iff_eq.mp z))
    rw [if_neg hne]
    have h2 : ((PySem.W.clsIn K C).isSome && PySem.W.typeIn K (.ref C) == some (.type "type")) = true := by
      have h2' : (PySem.W.clsIn K C).isSome = true := hc
      rw [h2', ht] <;> rfl
    show (if ((PySem.W.clsIn K C).isSome && PySem.W.typeIn K (.ref C) == some (.type "type")) = true then PySem.W.subIn K (.ref D) (.ref C) else none) = some b
    rw [if_pos h2]
    exact hs
theorem kit_type {K : PySem.W.Frag} {D : Addr} {n : String} {b : Bool} (hm : PySem.W.kitMeta n = true) (hs : PySem.W.subIn K (.ref D) (.type n) = some b) : PySem.W.kitOne K (.ref D) (.type n) = some b := by
  unfold PySem.W.kitOne
  have hne : ¬ ((Value.ref D == Value.type n) = true) := fun z => nomatch (beq_iff_eq.mp z)
  rw [if_neg hne]
  show (if PySem.W.kitMeta n = true then PySem.W.subIn K (.ref D) (.type n) else none) = some b
  rw [if_pos hm]
  exact hs

/-! ### a cell of the script -/
def sp_l_cell (K : PySem.W.Frag) : Sp := fun vs H Q _ => ∃ (s : Addr) (ns : List Int) (k : Int), vs = [.ref s, .int k] ∧ SqL K H s (ns.map V.int) ∧ 0 ≤ k ∧ k ≤ 1000000 ∧ ∀ r, 0 ≤ r → Q (.int r) H
theorem ok_l_cell (T : Tx K mg A) : FnOk P w K mg base CX0 1 A.f_l_cell A.fd_l_cell ["_law_script", "_law_k"] (sp_l_cell K) := by
  refine T.F_l_cell.ok sc_l_cell (fun vs H Q E h => ?_) (fun cdv Ar outer s H vs Q E hr h => ?_)
  · obtain ⟨s, ns, k, rfl, _⟩ := h
    rfl
  · obtain ⟨s, ns, k, rfl, hS, h0, h1, q⟩ := h
    refine ⟨_, (pss_cons (ps_if (pt_cmpR op_eq (pe_callB call_len_seq (by rfl) T.m_len (by decide +kernel) (pa_cons (pv 0) pa_nil)) pe_int (nomark _))
      (pss_one (ps_ret (pe_op op_add (pe_op op_mul pe_int (pv 1)) pe_int)))
      pss_nil)
    (pss_one (ps_ret (pe_callB call_abs (by rfl) T.m_abs (by decide +kernel) (pa_cons (pe_ix ix_list (pv 0) (pe_op op_mod (pv 1) (pe_callB call_len_seq (by rfl) T.m_len (by decide +kernel) (pa_cons (pv 0) pa_nil))) (fun _ _ => rfl)) pa_nil))))), ?_⟩
    refine ⟨.ref s, rfl, s, ns.map V.int, rfl, .inl hS, rfl, _, rfl, ite2 (fun e => ?_) (fun e => ?_)⟩
    · exact ⟨_, rfl, 7, k, rfl, rfl, .inl (by decide), _, _, rfl, rfl, q _ (by omega)⟩
    · have hl : ns.length ≠ 0 := fun z => e (decide_eq_true (by rw [List.length_map, z]; rfl))
      have hp : (0 : Int) < ((ns.map V.int).length : Int) := by
        rw [List.length_map]
        omega
      have hm0 : 0 ≤ k % ((ns.map V.int).length : Int) := Int.emod_nonneg _ (by omega)
      have hm1 : k % ((ns.map V.int).length : Int) < ((ns.map V.int).length : Int) := Int.emod_lt_of_pos _ hp
      obtain ⟨j, hj⟩ : ∃ j : Nat, (j : Int) = k % ((ns.map V.int).length : Int) := ⟨_, Int.toNat_of_nonneg hm0⟩
      have hj2 : j < ns.length := by
        rw [List.length_map] at hj hm1
        omega
      have ha : atI (ns.map V.int) (k % ((ns.map V.int).length : Int)) = some (.int ns[j]) := by
        rw [← hj]
        exact atI_nat (by rw [List.getElem?_map, List.getElem?_eq_getElem hj2]; rfl)
      exact ⟨_, rfl, _, rfl, _, rfl, s, _, rfl, .inl hS, k, _, rfl, rfl, hp, s, _, _, _, rfl, rfl, hS, ha, _, rfl, q _ (abs_nn _)⟩
/-! ### a mixed number -/
def sp_l_mixed (K : PySem.W.Frag) : Sp := fun vs H Q _ => ∃ (s : Addr) (ns : List Int) (k m : Int), vs = [.ref s, .int k, .int m] ∧ SqL K H s (ns.map V.int) ∧ 0 ≤ k ∧ k ≤ 1000000 ∧ 0 < m ∧ ∀ r, 0 ≤ r → r < m → Q (.int r) H
theorem mixed_bound {r k : Int} (h0 : 0 ≤ r) (h1 : r < 1000003) (k0 : 0 ≤ k) (k1 : k ≤ 1000000) : ((r + 5) * (k + 2) + 7919 * k).natAbs < 2 ^ 64 := by
  have e1 : (r + 5) * (k + 2) ≤ 1000008 * 1000002 := Int.mul_le_mul (by omega) (by omega) (by omega) (by omega)
  have e0 : 0 ≤ (r + 5) * (k + 2) := Int.mul_nonneg (by omega) (by omega)
  omega
theorem ok_l_mixed (T : Tx K mg A) : FnOk P w K mg base CX0 2 A.f_l_mixed A.fd_l_mixed ["_law_script", "_law_k", "_law_many"] (sp_l_mixed K) := by
  refine T.F_l_mixed.ok sc_l_mixed (fun vs H Q E h => ?_) (fun cdv Ar outer s H vs Q E hr h => ?_)
  · obtain ⟨s, ns, k, m, rfl, _⟩ := h
    rfl
  · obtain ⟨s, ns, k, m, rfl, hS, h0, h1, hm, q⟩ := h
    refine ⟨_, (pss_cons (ps_set (i := 3) sc_l_mixed.nd rfl (.inl rfl) (pe_op op_mod (pe_op op_pow (pe_op op_add (pe_op op_mul (pe_op op_add (pe_op op_mod (pe_call (ok_l_cell T) (hr.mono (by decide)) (by rfl) T.g_l_cell T.F_l_cell.kp T.b_l_cell .nil pass0 (pa_cons (pv 0) (pa_cons (pv 1) pa_nil))) pe_int) pe_int) (pe_op op_add (pv 1) pe_int)) (pe_op op_mul pe_int (pv 1))) pe_int) pe_int))
    (pss_one (ps_ret (pe_op op_mod (pe_op op_fdivW (pv 3) pe_int) (pv 2))))), ?_⟩
    refine ⟨_, rfl, _, rfl, s, ns, k, rfl, hS, h0, h1, fun r hr0 => ?_⟩
    have c0 : 0 ≤ r % 1000003 := Int.emod_nonneg _ (by decide)
    have c1 : r % 1000003 < 1000003 := Int.emod_lt_of_pos _ (by decide)
    refine ⟨r, 1000003, rfl, rfl, (show (0 : Int) < 1000003 by decide), _, _, rfl, rfl, _, rfl, _, _, rfl, rfl, _, _, rfl, rfl, ?_, _, rfl, _, _, rfl, rfl, .inl (by decide), _, _, rfl, rfl, _, _, rfl, rfl, ⟨by decide, by decide, ?_⟩, _, _, rfl, rfl, (show (0 : Int) < 2147483647 by decide), ?_⟩
    · exact .inl ⟨by omega, by omega⟩
    · exact mixed_bound c0 c1 h0 h1
    · refine ⟨_, rfl, _, _, rfl, rfl, ⟨by decide, by decide⟩, _, rfl, _, _, rfl, rfl, hm, ?_⟩
      exact q _ (Int.emod_nonneg _ (by omega)) (Int.emod_lt_of_pos _ hm)
/-! ### the deck is made -/
def sp_l_deck (K : PySem.W.Frag) : Sp := fun vs H Q _ => ∃ (s : Addr) (ns : List Int), vs = [.ref s] ∧ Sc K H s ns ∧ ns.length ≤ 63 ∧ ∀ H' d b, H d = none → H b = none → Deck K H' d b 0 → Same H H' → Q (.ref d) H'
theorem ok_l_deck (T : Tx K mg A) : FnOk P w K mg base CX0 1 A.f_l_deck A.fd_l_deck ["_law_script"] (sp_l_deck K) := by
  refine T.F_l_deck.ok sc_l_deck (fun vs H Q E h => ?_) (fun cdv Ar outer s H vs Q E hr h => ?_)
  · obtain ⟨s, ns, rfl, _⟩ := h
    rfl
  · obtain ⟨s, ns, rfl, hS, hlen, q⟩ := h
    refine ⟨_, (pss_one (ps_ret (pe_lst (pa_cons (pv 0) (pa_cons (pe_lc (own := [("_law_cell_here", 1)]) rfl sc_l_deck.nd (pi_list (pv 0)) (blkOk_by (own := [("_law_cell_here", 1)]) (N := ["_law_script", "_law_cell_here"]) (sc := defScope s_l_deck) (by decide +kernel)) (fun _ _ _ _ _ => (pg_name (i := 1) sc_l_deck.nd rfl (Or.inl rfl))) (fun _ _ _ _ _ => (pts_one (pt_cmpR op_ge (pe_callB call_abs (by rfl) T.m_abs (by decide +kernel) (pa_cons (pv 1) pa_nil)) (pe_op op_pow pe_int pe_int) (nomark _)))) (fun _ _ _ _ _ => (pe_callB call_abs (by rfl) T.m_abs (by decide +kernel) (pa_cons (pv 1) pa_nil)))) (pa_cons pe_int (pa_cons pe_int pa_nil))))))), ?_⟩
    refine ⟨_, rfl, _, rfl, s, rfl, ⟨_, hS.seq⟩, fun D hD => lc_list (K := K) (a := s) (xs := ns.map V.int) (fun i H' => ∃ cs : List Int, Same H H' ∧ Sc K H' s ns ∧ H' D = some (.lst (cs.map V.int)) ∧ cs.length ≤ i) ?_ ?_ ?_ ?_⟩
    · exact ⟨[], same_upd hD, hS.upd (.inl hD), upd_same, Nat.le_refl _⟩
    · rintro i H' _ ⟨cs, _, h, _⟩
      exact h.seq
    · rintro i x H' hx ⟨cs, sm, hs, hd, hc⟩
      obtain ⟨n, rfl⟩ : ∃ n : Int, x = .int n := by
        rw [List.getElem?_map] at hx
        cases e : ns[i]? with
        | none => rw [e] at hx; cases hx
        | some n => rw [e] at hx; exact ⟨n, (Option.some.inj hx).symm⟩
      have hi : i < ns.length := by
        have := (List.getElem?_eq_some_iff.mp hx).1
        rw [List.length_map] at this
        exact this
      refine ⟨rfl, _, rfl, n, rfl, 10, 18, rfl, rfl, ⟨by decide, by decide, by decide⟩, _, _, rfl, rfl, _, rfl, ite2 (fun e => ?_) (fun e => ?_)⟩
      · refine ⟨_, rfl, n, rfl, cs.map V.int, hd, small1000 (by rw [List.length_map]; omega), cs ++ [(if n < 0 then -n else n)], ?_, ?_, ?_, ?_⟩
        · exact fun x o h => by
            rw [upd_ne (ne_of_none h hD)]
            exact sm _ _ h
        · exact hs.upd (.inr ⟨_, hd⟩)
        · rw [upd_same, List.map_append]
          rfl
        · rw [List.length_append]
          exact Nat.succ_le_succ hc
      · exact ⟨cs, sm, hs, hd, Nat.le_succ_of_le hc⟩
    · rintro H' ⟨cs, sm, hs, hd, hc⟩
      refine ⟨size63 (show 4 ≤ 1000 by decide), fun d hn => ?_⟩
      have ne : D ≠ d := ne_of_none hd hn
      refine q _ d D (sm.free hn) hD ⟨⟨s, ns, cs, 0, 0, upd_same, ?_, hs.upd (.inl hn), by omega, by omega, by omega⟩, ne⟩ (sm.trans (same_upd hn))
      rw [upd_ne ne]
      exact hd
/-! ### a number is taken -/
def sp_l_take (K : PySem.W.Frag) : Sp := fun vs H Q _ => ∃ (d b : Addr) (c m : Int), vs = [.ref d, .int m] ∧ Deck K H d b c ∧ c < 1000000 ∧ 0 < m ∧ m.natAbs.log2 < 9000 ∧ ∀ H' r, Deck K H' d b (c + 1) → Kp d b H H' → 0 ≤ r → r < m → Q (.int r) H'
theorem ok_l_take (T : Tx K mg A) : FnOk P w K mg base CX0 3 A.f_l_take A.fd_l_take ["_law_deck_here", "_law_many"] (sp_l_take K) := by
  refine T.F_l_take.ok sc_l_take (fun vs H Q E h => ?_) (fun cdv Ar outer s H vs Q E hr h => ?_)
  · obtain ⟨d, b, c, m, rfl, _⟩ := h
    rfl
  · obtain ⟨d, b, c, m, rfl, ⟨⟨s, ns, cs, i0, k, hd, hb, hS, hi0, hk0, hk1⟩, ne⟩, hc, hm, hm2, q⟩ := h
    refine ⟨_, (pss_cons (ps_while PassesOwn.never (pt_cmpR op_lt (pe_ix ix_list (pv 0) pe_int (fun _ _ => rfl)) (pe_callB call_len_seq (by rfl) T.m_len (by decide +kernel) (pa_cons (pe_ix ix_list (pv 0) pe_int (fun _ _ => rfl)) pa_nil)) (nomark _))
      (pss_cons (ps_set (i := 2) sc_l_take.nd rfl (.inl rfl) (pe_ix ix_list (pe_ix ix_list (pv 0) pe_int (fun _ _ => rfl)) (pe_ix ix_list (pv 0) pe_int (fun _ _ => rfl)) (fun _ _ => rfl)))
    (pss_cons (ps_if (pt_cmpR op_gt (pv 2) pe_int (nomark _))
      (pss_cons (ps_asg (pe_op op_fdivW (pv 2) (pv 1)) (pg_sub (pe_ix ix_list (pv 0) pe_int (fun _ _ => rfl)) (pe_ix ix_list (pv 0) pe_int (fun _ _ => rfl)) set_list))
    (pss_one (ps_ret (pe_op op_mod (pv 2) (pv 1)))))
      pss_nil)
    (pss_one (ps_asg (pe_op op_add (pe_ix ix_list (pv 0) pe_int (fun _ _ => rfl)) pe_int) (pg_sub (pv 0) pe_int set_list))))))
    (pss_cons (ps_asg (pe_op op_add (pe_ix ix_list (pv 0) pe_int (fun _ _ => rfl)) pe_int) (pg_sub (pv 0) pe_int set_list))
    (pss_one (ps_ret (pe_call (ok_l_mixed T) (hr.mono (by decide)) (by rfl) T.g_l_mixed T.F_l_mixed.kp T.b_l_mixed .nil pass0 (pa_cons (pe_ix ix_list (pv 0) pe_int (fun _ _ => rfl)) (pa_cons (pe_ix ix_list (pv 0) pe_int (fun _ _ => rfl)) (pa_cons (pv 1) pa_nil)))))))), ?_⟩
    refine ⟨fun n σ H' => ∃ (y : Option V) (i : Int), σ = [some (.ref d), some (.int m), y] ∧ 0 ≤ i ∧ n = cs.length - i.toNat ∧ H' d = some (.lst [.ref s, .ref b, .int i, .int k]) ∧ H' b = some (.lst (cs.map V.int)) ∧ Sc K H' s ns ∧ Kp d b H H', ⟨_, none, i0, rfl, hi0, rfl, hd, hb, hS, Kp.refl⟩, fun n σ H' hW => ?_⟩
    obtain ⟨y, i, rfl, hi, hn, hd', hb', hS', kp⟩ := hW
    refine ⟨_, rfl, d, _, 2, .int i, rfl, rfl, SqL.of hd', rfl, _, rfl, d, _, 1, .ref b, rfl, rfl, SqL.of hd', rfl, b, _, rfl, .inl (SqL.of hb'), i, _, rfl, rfl, _, rfl, ite2 (fun e => ?_) (fun e => ?_)⟩
    · -- a turn
      have hlt : i < ((cs.map V.int).length : Int) := of_decide_eq_true e
      rw [List.length_map] at hlt
      obtain ⟨j, rfl⟩ : ∃ j : Nat, i = (j : Int) := ⟨_, (Int.toNat_of_nonneg hi).symm⟩
      have hj : j < cs.length := by omega
      have ha : atI (cs.map V.int) (j : Int) = some (.int cs[j]) := atI_nat (by rw [List.getElem?_map, List.getElem?_eq_getElem hj]; rfl)
      refine ⟨fun σ' H'' => ∃ (y : Option V), σ' = [some (.ref d), some (.int m), y] ∧ H'' d = some (.lst [.ref s, .ref b, .int ((j : Int) + 1), .int k]) ∧ H'' b = some (.lst (cs.map V.int)) ∧ Sc K H'' s ns ∧ Kp d b H H'', ?_, ?_⟩
      · rintro σ' H'' ⟨y, e1, e2, e3, e4, e5⟩
        exact ⟨cs.length - ((j : Int) + 1).toNat, by omega, y, _, e1, by omega, rfl, e2, e3, e4, e5⟩
      · refine ⟨_, rfl, d, _, 1, .ref b, rfl, rfl, SqL.of hd', rfl, _, rfl, d, _, 2, .int (j : Int), rfl, rfl, SqL.of hd', rfl, b, _, (j : Int), .int cs[j], rfl, rfl, SqL.of hb', ha, ?_⟩
        refine ⟨_, rfl, cs[j], 0, rfl, rfl, _, rfl, ite2 (fun e2 => ?_) (fun e2 => ?_)⟩
        · -- the cell is drawn from
          refine ⟨_, rfl, _, rfl, cs[j], m, rfl, rfl, ⟨hm, hm2⟩, _, rfl, d, _, 1, .ref b, rfl, rfl, SqL.of hd', rfl, _, rfl, d, _, 2, .int (j : Int), rfl, rfl, SqL.of hd', rfl, b, _, (j : Int), j, rfl, rfl, hb', ?_, ?_⟩
          · exact ixN_nat (by rw [List.length_map]; exact hj)
          · refine ⟨_, rfl, _, rfl, cs[j], m, rfl, rfl, hm, ?_⟩
            refine q _ _ ⟨⟨s, ns, cs.set j (cs[j] / m), (j : Int), k, ?_, ?_, hS'.upd (.inr ⟨_, hb'⟩), by omega, hk0, by omega⟩, ne⟩ ?_ (Int.emod_nonneg _ (by omega)) (Int.emod_lt_of_pos _ hm)
            · rw [upd_ne (Ne.symm ne)]
              exact hd'
            · rw [upd_same, List.map_set]
            · intro x o h1 h2 h
              rw [upd_ne h2]
              exact kp x o h1 h2 h
        · -- the next cell
          refine ⟨_, rfl, d, _, 2, .int (j : Int), rfl, rfl, SqL.of hd', rfl, _, _, rfl, rfl, _, rfl, d, _, 2, 2, rfl, rfl, hd', rfl, ?_⟩
          refine ⟨_, rfl, ?_, ?_, hS'.upd (.inr ⟨_, hd'⟩), ?_⟩
          · rw [upd_same]; rfl
          · rw [upd_ne ne]; exact hb'
          · intro x o h1 h2 h
            rw [upd_ne h1]
            exact kp x o h1 h2 h
    · -- no cell is left
      refine ⟨_, rfl, d, _, 3, .int k, rfl, rfl, SqL.of hd', rfl, _, _, rfl, rfl, _, rfl, d, _, 3, 3, rfl, rfl, hd', rfl, ?_⟩
      have hd2 : (upd H' d (.lst ([V.ref s, V.ref b, V.int i, V.int k].set 3 (V.int (k + 1))))) d = some (.lst [.ref s, .ref b, .int i, .int (k + 1)]) := upd_same
      have hS2 : Sc K (upd H' d (.lst ([V.ref s, V.ref b, V.int i, V.int k].set 3 (V.int (k + 1))))) s ns := hS'.upd (.inr ⟨_, hd'⟩)
      refine ⟨_, rfl, d, _, 0, .ref s, rfl, rfl, SqL.of hd2, rfl, _, rfl, d, _, 3, .int (k + 1), rfl, rfl, SqL.of hd2, rfl, _, rfl, s, ns, k + 1, m, rfl, hS2.seq, by omega, by omega, hm, fun r h0 h1 => ?_⟩
      refine q _ r ⟨⟨s, ns, cs, i, k + 1, hd2, ?_, hS2, hi, by omega, by omega⟩, ne⟩ ?_ h0 h1
      · rw [upd_ne ne]; exact hb'
      · intro x o h1 h2 h
        rw [upd_ne h1]
        exact kp x o h1 h2 h

/-! ### divisors -/
def gcdI (a b : Int) : Int := ((Nat.gcd a.natAbs b.natAbs : Nat) : Int)
/-- a share's two numbers -/
def IsSh (t u : Int) : Prop := 1 ≤ u ∧ gcdI t u = 1
instance (t u : Int) : Decidable (IsSh t u) := inferInstanceAs (Decidable (_ ∧ _))
theorem gcdI_nn (a b : Int) : 0 ≤ gcdI a b := Int.natCast_nonneg _
theorem gcdI_pos {a b : Int} (h : b ≠ 0) : 0 < gcdI a b := by
  have : 0 < Nat.gcd a.natAbs b.natAbs := Nat.gcd_pos_of_pos_right _ (by omega)
  unfold gcdI
  omega
theorem gcdI_neg_l (a b : Int) : gcdI (-a) b = gcdI a b := by
  unfold gcdI
  rw [Int.natAbs_neg]
theorem gcdI_neg_r (a b : Int) : gcdI a (-b) = gcdI a b := by
  unfold gcdI
  rw [Int.natAbs_neg]
theorem gcdI_dvd_l (a b : Int) : gcdI a b ∣ a := by
  unfold gcdI
  exact Int.ofNat_dvd_left.mpr (Nat.gcd_dvd_left _ _)
theorem gcdI_dvd_r (a b : Int) : gcdI a b ∣ b := by
  unfold gcdI
  exact Int.ofNat_dvd_left.mpr (Nat.gcd_dvd_right _ _)
/-- a share is told by what it is worth -/
theorem share_uniq {t u t' u' : Int} (h : IsSh t u) (h' : IsSh t' u') (e : t * u' = t' * u) : t = t' ∧ u = u' := by
  obtain ⟨u1, g1⟩ := h
  obtain ⟨u2, g2⟩ := h'
  have c1 : Nat.gcd t.natAbs u.natAbs = 1 := by unfold gcdI at g1; omega
  have c2 : Nat.gcd t'.natAbs u'.natAbs = 1 := by unfold gcdI at g2; omega
  have en : t.natAbs * u'.natAbs = t'.natAbs * u.natAbs := by
    rw [← Int.natAbs_mul, ← Int.natAbs_mul, e]
  have d1 : u.natAbs ∣ u'.natAbs := (Nat.Coprime.symm c1).dvd_of_dvd_mul_left (by rw [en]; exact Nat.dvd_mul_left _ _)
  have d2 : u'.natAbs ∣ u.natAbs := (Nat.Coprime.symm c2).dvd_of_dvd_mul_left (by rw [← en]; exact Nat.dvd_mul_left _ _)
  have eu : u = u' := by
    have := Nat.dvd_antisymm d1 d2
    omega
  subst eu
  exact ⟨Int.eq_of_mul_eq_mul_right (by omega) e, rfl⟩
theorem dvd_le_natAbs {g a : Int} (h : g ∣ a) (ha : a ≠ 0) : g.natAbs ≤ a.natAbs := Nat.le_of_dvd (by omega) (Int.natAbs_dvd_natAbs.mpr h)
theorem div_natAbs_le {a g : Int} (hg : 0 < g) (h : g ∣ a) : (a / g).natAbs ≤ a.natAbs := by
  obtain ⟨q, rfl⟩ := h
  rw [Int.mul_ediv_cancel_left _ (by omega), Int.natAbs_mul]
  exact Nat.le_mul_of_pos_left _ (by omega)
/-- a over b (b above nought) in lowest terms -/
theorem low_is {a b : Int} (hb : 0 < b) : IsSh (a / gcdI a b) (b / gcdI a b) ∧ (a / gcdI a b) * b = (b / gcdI a b) * a ∧ (a / gcdI a b).natAbs ≤ a.natAbs ∧ (b / gcdI a b).natAbs ≤ b.natAbs := by
  have hg : 0 < gcdI a b := gcdI_pos (by omega)
  have d1 := gcdI_dvd_l a b
  have d2 := gcdI_dvd_r a b
  refine ⟨⟨?_, ?_⟩, ?_, div_natAbs_le hg d1, div_natAbs_le hg d2⟩
  · have : 0 < b / gcdI a b := Int.ediv_pos_of_pos_of_dvd hb (by omega) d2
    omega
  · unfold gcdI at hg d1 d2 ⊢
    have e1 : (a / ((Nat.gcd a.natAbs b.natAbs : Nat) : Int)).natAbs = a.natAbs / Nat.gcd a.natAbs b.natAbs := by
      rw [Int.natAbs_ediv_of_dvd d1]
      rfl
    have e2 : (b / ((Nat.gcd a.natAbs b.natAbs : Nat) : Int)).natAbs = b.natAbs / Nat.gcd a.natAbs b.natAbs := by
      rw [Int.natAbs_ediv_of_dvd d2]
      rfl
    rw [e1, e2, Nat.gcd_div_gcd_div_gcd_of_pos_right (by omega)]
    rfl
  · obtain ⟨x, hx⟩ := d1
    obtain ⟨y, hy⟩ := d2
    have q1 : a / gcdI a b = x := (Int.eq_ediv_of_mul_eq_right (by omega) hx.symm).symm
    have q2 : b / gcdI a b = y := (Int.eq_ediv_of_mul_eq_right (by omega) hy.symm).symm
    rw [q1, q2]
    conv => lhs; rw [hy]
    conv => rhs; rw [hx]
    rw [Int.mul_left_comm, Int.mul_left_comm y, Int.mul_comm x y]
theorem log_le {m n k : Nat} (h : m ≤ n) (hn : n < 2 ^ k) (h0 : 0 < k) : m.log2 < k := log2_lt (Nat.lt_of_le_of_lt h hn) h0
/-! ### the law's gcd -/
def sp_gcd : Sp := fun vs H Q _ => ∃ a b : Int, vs = [.int a, .int b] ∧ Q (.int (gcdI a b)) H
theorem ok_l_gcd (T : Tx K mg A) : FnOk P w K mg base CX0 1 A.f_l_gcd A.fd_l_gcd ["_law_one", "_law_other"] sp_gcd := by
  refine T.F_l_gcd.ok sc_l_gcd (fun vs H Q E h => ?_) (fun cdv Ar outer s H vs Q E hr h => ?_)
  · obtain ⟨a, b, rfl, _⟩ := h
    rfl
  · obtain ⟨a, b, rfl, q⟩ := h
    refine ⟨_, (pss_cons (ps_set (i := 0) sc_l_gcd.nd rfl (.inl rfl) (pe_callB call_abs (by rfl) T.m_abs (by decide +kernel) (pa_cons (pv 0) pa_nil)))
    (pss_cons (ps_set (i := 1) sc_l_gcd.nd rfl (.inl rfl) (pe_callB call_abs (by rfl) T.m_abs (by decide +kernel) (pa_cons (pv 1) pa_nil)))
    (pss_cons (ps_while PassesOwn.never (pt_cmpR op_gt (pv 1) pe_int (nomark _))
      (pss_cons (ps_set (i := 2) sc_l_gcd.nd rfl (.inl rfl) (pe_op op_mod (pv 0) (pv 1)))
    (pss_cons (ps_set (i := 0) sc_l_gcd.nd rfl (.inl rfl) (pv 1))
    (pss_one (ps_set (i := 1) sc_l_gcd.nd rfl (.inl rfl) (pv 2))))))
    (pss_one (ps_ret (pv 0)))))), ?_⟩
    refine ⟨_, rfl, a, rfl, _, rfl, b, rfl, ?_⟩
    refine ⟨fun n σ H' => ∃ (x y : Nat) (r : Option V), σ = [some (.int (x : Int)), some (.int (y : Int)), r] ∧ n = y ∧ H' = H ∧ Nat.gcd x y = Nat.gcd a.natAbs b.natAbs, ⟨_, a.natAbs, b.natAbs, none, ?_, rfl, rfl, rfl⟩, fun n σ H' hW => ?_⟩
    · rw [abs_nat, abs_nat]
      rfl
    · obtain ⟨x, y, r, rfl, rfl, rfl, g⟩ := hW
      refine ⟨_, rfl, (n : Int), 0, rfl, rfl, _, rfl, ite2 (fun e => ?_) (fun e => ?_)⟩
      · have hy : 0 < n := by
          have := of_decide_eq_true e
          omega
        refine ⟨fun σ' H'' => ∃ r, σ' = [some (.int (n : Int)), some (.int ((x % n : Nat) : Int)), r] ∧ H'' = H', ?_, ?_⟩
        · rintro σ' H'' ⟨r, e1, rfl⟩
          exact ⟨x % n, Nat.mod_lt _ hy, n, x % n, r, e1, rfl, rfl, by rw [← g, Nat.gcd_comm x n, Nat.gcd_rec n x, Nat.gcd_comm]⟩
        · refine ⟨_, rfl, _, rfl, (x : Int), (n : Int), rfl, rfl, by omega, _, rfl, _, rfl, _, rfl, rfl⟩
      · have hy : n = 0 := by
          have : ¬ (0 < (n : Int)) := fun z => e (decide_eq_true z)
          omega
        subst hy
        refine ⟨_, rfl, ?_⟩
        have : (x : Int) = gcdI a b := by
          unfold gcdI
          rw [← g, Nat.gcd_zero_right]
        rw [this]
        exact q

/-! ### the law's own share -/
def Bd (n : Nat) (x : Int) : Prop := x.natAbs < 2 ^ n
theorem Bd.le {n m : Nat} {x : Int} (h : Bd n x) (l : n ≤ m) : Bd m x := Nat.lt_of_lt_of_le h (Nat.pow_le_pow_right (by decide) l)
theorem Bd.mul {n m : Nat} {x y : Int} (h : Bd n x) (g : Bd m y) : Bd (n + m) (x * y) := wide_lt h g
theorem Bd.of_le {n : Nat} {x y : Int} (h : Bd n x) (l : y.natAbs ≤ x.natAbs) : Bd n y := Nat.lt_of_le_of_lt l h
theorem Bd.neg {n : Nat} {x : Int} (h : Bd n x) : Bd n (-x) := by
  unfold Bd
  rw [Int.natAbs_neg]
  exact h
theorem Bd.add {n : Nat} {x y : Int} (h : Bd n x) (g : Bd n y) : Bd (n + 1) (x + y) := by
  unfold Bd at *
  rw [Nat.pow_succ]
  omega
theorem Bd.mulW {n m : Nat} {x y : Int} (h : Bd n x) (g : Bd m y) (hn : n ≤ 400000) (hm : m ≤ 400000) : CMulW x y := wide_mul (a := n + 1) (b := m + 1) (h.le (Nat.le_succ _)) (g.le (Nat.le_succ _)) (by omega) (by omega) (by omega)
theorem Bd.divW {n : Nat} {x y : Int} (h : Bd n y) (h0 : 0 < y) (hn : n < 9000) : CDivW x y := wide_div (b := n + 1) h0 (h.le (Nat.le_succ _)) (by omega) (by omega)
theorem gcdI_bd {n : Nat} {a b : Int} (h : Bd n b) (hb : b ≠ 0) : Bd n (gcdI a b) := h.of_le (by
  unfold gcdI
  exact Nat.le_of_dvd (by omega) (Nat.gcd_dvd_right _ _))

/-! ### data -/
def shD (x : Int × Int) : PyData := .tuple [.int x.1, .int x.2]
theorem lay_shs : ∀ xs : List (Int × Int), PyData.canLayAll0 (xs.map shD) = true
  | [] => rfl
  | x :: r => by
    rw [List.map_cons, PyData.canLayAll0, lay_shs r]
    rfl
theorem depth_shs : ∀ xs : List (Int × Int), PyData.depthAll (xs.map shD) ≤ 1
  | [] => Nat.zero_le _
  | x :: r => by
    rw [List.map_cons, PyData.depthAll]
    exact Nat.max_le.mpr ⟨Nat.le_refl 1, depth_shs r⟩
theorem shaped_shs (xs : List (Int × Int)) : SeqAt.shaped (.list (xs.map shD)) = true := by
  unfold SeqAt.shaped
  rw [PyData.canLay0, lay_shs, PyData.depth, Bool.true_and]
  have := depth_shs xs
  exact decide_eq_true (by omega)
theorem shaped_sh (x : Int × Int) : SeqAt.shaped (shD x) = true := rfl
theorem eqv_shs (xs : List (Int × Int)) : PyData.eqv (.list (xs.map shD)) (.list (xs.map shD)) = true := SeqAt.eqv_refl _ (by rw [PyData.canLay0, lay_shs])
theorem eqv_sh (x : Int × Int) : PyData.eqv (shD x) (shD x) = true := SeqAt.eqv_refl _ rfl
/-- a share lies at v -/
def ShAt (K : PySem.W.Frag) (H : Hp) (v : V) (x : Int × Int) : Prop := ∃ a, v = .ref a ∧ SqT K H a [.int x.1, .int x.2]
theorem ShAt.keep {K : PySem.W.Frag} {H H' : Hp} {v : V} {x : Int × Int} (h : ShAt K H v x) (k : Same H H') : ShAt K H' v x := by
  obtain ⟨a, e, h⟩ := h
  exact ⟨a, e, Same.seqT k h⟩
theorem ShAt.deck {K : PySem.W.Frag} {H H' : Hp} {v : V} {x : Int × Int} {d b : Addr} {c : Int} (h : ShAt K H v x) (D : Deck K H d b c) (k : Kp d b H H') : ShAt K H' v x := by
  obtain ⟨a, e, h⟩ := h
  exact ⟨a, e, D.seqT k h⟩
theorem ShAt.dp {K : PySem.W.Frag} {H : Hp} {v : V} {x : Int × Int} (h : ShAt K H v x) : Dp K H v (shD x) := by
  obtain ⟨a, rfl, h⟩ := h
  exact .tup h (.cons (.int _) (.cons (.int _) .nil))
abbrev RowAt (K : PySem.W.Frag) (H : Hp) : List V → List (Int × Int) → Prop := Paired (ShAt K H)
theorem paired_imp {α β : Type} {F G : α → β → Prop} (h : ∀ a b, F a b → G a b) : ∀ {l : List α} {m : List β}, Paired F l m → Paired G l m
  | _, _, .nil => .nil
  | _, _, .cons a r => .cons (h _ _ a) (paired_imp h r)
theorem paired_get {α β : Type} {F : α → β → Prop} : ∀ {l : List α} {m : List β} {i : Nat} {a : α}, Paired F l m → l[i]? = some a → ∃ b, m[i]? = some b ∧ F a b
  | _, _, _, _, .nil, e => by cases e
  | _, _, 0, _, .cons a _, e => by
    cases e
    exact ⟨_, rfl, a⟩
  | _, _, i + 1, _, .cons _ r, e => paired_get (i := i) r e
theorem paired_get' {α β : Type} {F : α → β → Prop} : ∀ {l : List α} {m : List β} {i : Nat} {b : β}, Paired F l m → m[i]? = some b → ∃ a, l[i]? = some a ∧ F a b
  | _, _, _, _, .nil, e => by cases e
  | _, _, 0, _, .cons a _, e => by
    cases e
    exact ⟨_, rfl, a⟩
  | _, _, i + 1, _, .cons _ r, e => paired_get' (i := i) r e
theorem RowAt.keep {K : PySem.W.Frag} {H H' : Hp} {vs : List V} {xs : List (Int × Int)} (h : RowAt K H vs xs) (k : Same H H') : RowAt K H' vs xs := paired_imp (fun _ _ s => s.keep k) h
theorem RowAt.deck {K : PySem.W.Frag} {H H' : Hp} {vs : List V} {xs : List (Int × Int)} {d b : Addr} {c : Int} (h : RowAt K H vs xs) (D : Deck K H d b c) (k : Kp d b H H') : RowAt K H' vs xs := paired_imp (fun _ _ s => s.deck D k) h
theorem RowAt.dp {K : PySem.W.Frag} {H : Hp} : ∀ {vs : List V} {xs : List (Int × Int)}, RowAt K H vs xs → DpAll K H vs (xs.map shD)
  | _, _, .nil => .nil
  | _, _, .cons a r => .cons a.dp (RowAt.dp r)
/-- what changes an object other than a tuple leaves the tuples -/
theorem SqT.upd_lst {K : PySem.W.Frag} {H : Hp} {a p : Addr} {xs ys : List V} {o : HO} (h : SqT K H a xs) (hp : H p = some (.lst ys)) : SqT K (upd H p o) a xs := by
  rcases h with (h | ⟨o', h⟩) | h
  · refine .inl (.inl ?_)
    rw [upd_ne (fun e => by rw [e, hp] at h; cases h)]
    exact h
  · refine .inl (.inr ⟨o', ?_⟩)
    rw [upd_ne (fun e => by rw [e, hp] at h; cases h)]
    exact h
  · exact .inr h
theorem RowAt.upd_lst {K : PySem.W.Frag} {H : Hp} {p : Addr} {vs ys : List V} {xs : List (Int × Int)} {o : HO} (h : RowAt K H vs xs) (hp : H p = some (.lst ys)) : RowAt K (upd H p o) vs xs := paired_imp (fun _ _ ⟨a, e, s⟩ => ⟨a, e, SqT.upd_lst s hp⟩) h
theorem Deck.upd {K : PySem.W.Frag} {H : Hp} {d b p : Addr} {c : Int} {ys : List V} {o : HO} (D : Deck K H d b c) (hp : H p = some (.lst ys)) (n1 : p ≠ d) (n2 : p ≠ b) : Deck K (upd H p o) d b c := by
  obtain ⟨⟨s, ns, cs, i, k, h1, h2, h3, h4⟩, n⟩ := D
  refine ⟨⟨s, ns, cs, i, k, ?_, ?_, h3.upd (.inr ⟨_, hp⟩), h4⟩, n⟩
  · rw [upd_ne (Ne.symm n1)]; exact h1
  · rw [upd_ne (Ne.symm n2)]; exact h2
theorem for_enum {K : PySem.W.Frag} {a : Addr} {xs : List V} {g : TG} {tb : TS} {D : Ends} {σ : L2.St} {H : Hp} (Pv : Nat → L2.St → Hp → Prop) (h0 : Pv 0 σ H) (hl : ∀ i σ H, i ≤ xs.length → Pv i σ H → SqL K H a xs)
    (hs : ∀ i x σ H p, xs[i]? = some x → Pv i σ H → H p = none → g (.ref p) σ (upd H p (.tup [.int (i : Nat), x])) fun σ2 H2 => tb { D with nx := Pv (i + 1), ct := Pv (i + 1), bk := D.nx } σ2 H2) (hd : ∀ σ H, Pv xs.length σ H → D.nx σ H) :
    ∃ W : Nat → Nat → L2.St → Hp → Prop, (∃ m, W 0 m σ H) ∧ ∀ i m σ H, W i m σ H →
      ((Ite K a).stop i H ∧ D.nx σ H) ∨ ((Ite K a).go i H ∧ ∃ N : L2.St → Hp → Prop, (∀ σ' H', N σ' H' → ∃ m', m' < m ∧ W (i + 1) m' σ' H') ∧ ∀ x H', (Ite K a).yld i H x H' → g x σ H' fun σ2 H2 => tb { D with nx := N, ct := N, bk := D.nx } σ2 H2) := by
  refine ⟨fun i m σ H => m = xs.length - i ∧ i ≤ xs.length ∧ Pv i σ H, ⟨xs.length, by simp, Nat.zero_le _, h0⟩, ?_⟩
  rintro i m σ H ⟨rfl, hi, p⟩
  have q := hl i σ H hi p
  by_cases hlt : i < xs.length
  · refine .inr ⟨⟨xs, xs[i], q, by simp [hlt]⟩, Pv (i + 1), fun σ' H' p' => ⟨xs.length - (i + 1), by omega, rfl, hlt, p'⟩, fun x H' y => ?_⟩
    obtain ⟨t, z, rfl, ht, rfl, y⟩ := y
    exact hs i z σ H t (y xs q) p ht
  · have e : i = xs.length := by omega
    subst e
    exact .inl ⟨⟨xs, q, Nat.le_refl _⟩, hd σ H p⟩

/-! ### fractions -/
theorem isSh_q (q : Rat) : IsSh q.num q.den := by
  refine ⟨by have := q.den_pos; omega, ?_⟩
  unfold gcdI
  rw [Int.natAbs_natCast]
  exact congrArg Int.ofNat q.reduced
theorem divInt_cross {a b : Int} (hb : b ≠ 0) : a * ((Rat.divInt a b).den : Int) = (Rat.divInt a b).num * b := by
  have h : Rat.divInt a b = Rat.divInt (Rat.divInt a b).num ((Rat.divInt a b).den : Int) := (Rat.num_divInt_den _).symm
  exact (Rat.divInt_eq_divInt_iff hb (by have := (Rat.divInt a b).den_pos; omega)).mp h
theorem rep_of {t u : Int} {q : Rat} (h : IsSh t u) (e : t * (q.den : Int) = q.num * u) : t = q.num ∧ u = (q.den : Int) := share_uniq h (isSh_q q) e
theorem rep_divInt {t u a b : Int} (h : IsSh t u) (hb : b ≠ 0) (e : t * b = u * a) : t = (Rat.divInt a b).num ∧ u = ((Rat.divInt a b).den : Int) := by
  have hu : u ≠ 0 := by have := h.1; omega
  have eq : Rat.divInt t u = Rat.divInt a b := (Rat.divInt_eq_divInt_iff hu hb).mpr (by rw [e, Int.mul_comm])
  rw [← eq]
  exact rep_of h (divInt_cross hu)
theorem low_bd {t u a b : Int} (h : IsSh t u) (hb : 0 < b) (e : t * b = u * a) : t.natAbs ≤ a.natAbs ∧ u.natAbs ≤ b.natAbs := by
  obtain ⟨h1, h2, h3, h4⟩ := low_is (a := a) (b := b) hb
  have hu : u ≠ 0 := by have := h.1; omega
  have e1 := rep_divInt h (by omega) e
  have e2 := rep_divInt h1 (by omega) h2
  rw [e1.1, e1.2, ← e2.1, ← e2.2]
  exact ⟨h3, h4⟩
def BdQ (n : Nat) (q : Rat) : Prop := Bd n q.num ∧ Bd n (q.den : Int)
theorem BdQ.le {n m : Nat} {q : Rat} (h : BdQ n q) (l : n ≤ m) : BdQ m q := ⟨h.1.le l, h.2.le l⟩
theorem divInt_bd {a b : Int} {n : Nat} (hb : 0 < b) (ha : Bd n a) (hn : Bd n b) : BdQ n (Rat.divInt a b) := by
  have h := low_bd (isSh_q (Rat.divInt a b)) hb (by rw [← divInt_cross (by omega), Int.mul_comm])
  exact ⟨ha.of_le h.1, hn.of_le h.2⟩
theorem den_pos (q : Rat) : (0 : Int) < (q.den : Int) := by have := q.den_pos; omega
theorem add_divInt (p q : Rat) : p + q = Rat.divInt (p.num * q.den + q.num * p.den) (p.den * q.den) := by
  have h := Rat.divInt_add_divInt p.num q.num (d₁ := p.den) (d₂ := q.den) (by have := den_pos p; omega) (by have := den_pos q; omega)
  rw [Rat.num_divInt_den, Rat.num_divInt_den] at h
  exact h
theorem mul_divInt (p q : Rat) : p * q = Rat.divInt (p.num * q.num) (p.den * q.den) := by
  have h := Rat.divInt_mul_divInt p.num q.num (d₁ := p.den) (d₂ := q.den)
  rw [Rat.num_divInt_den, Rat.num_divInt_den] at h
  exact h
theorem BdQ.add {n m : Nat} {p q : Rat} (h : BdQ n p) (g : BdQ m q) : BdQ (n + m + 1) (p + q) := by
  rw [add_divInt]
  refine divInt_bd (Int.mul_pos (den_pos p) (den_pos q)) ?_ ((h.2.mul g.2).le (Nat.le_succ _))
  exact (h.1.mul g.2).add ((g.1.mul h.2).le (by omega))
theorem BdQ.mul {n m : Nat} {p q : Rat} (h : BdQ n p) (g : BdQ m q) : BdQ (n + m) (p * q) := by
  rw [mul_divInt]
  exact divInt_bd (Int.mul_pos (den_pos p) (den_pos q)) (h.1.mul g.1) (h.2.mul g.2)
theorem BdQ.neg {n : Nat} {q : Rat} (h : BdQ n q) : BdQ n (-q) := by
  refine ⟨?_, h.2⟩
  rw [Rat.neg_num]
  exact h.1.neg
theorem BdQ.sub {n m : Nat} {p q : Rat} (h : BdQ n p) (g : BdQ m q) : BdQ (n + m + 1) (p - q) := by
  rw [Rat.sub_eq_add_neg]
  exact h.add g.neg
theorem neg_num (q : Rat) : (-q).num = -q.num := Rat.neg_num q
theorem neg_den (q : Rat) : (-q).den = q.den := rfl
/-- one over a fraction -/
theorem inv_rep {q : Rat} (h : 0 < q.num) : (q⁻¹).num = q.den ∧ ((q⁻¹).den : Int) = q.num := by
  have hs := isSh_q q
  have e := rep_divInt (t := (q.den : Int)) (u := q.num) (a := (q.den : Int)) (b := q.num) ⟨by omega, by
    have := hs.2
    unfold gcdI at this ⊢
    rw [Nat.gcd_comm]
    exact this⟩ (by omega) (Int.mul_comm _ _)
  rw [Rat.inv_def]
  exact ⟨e.1.symm, e.2.symm⟩
theorem inv_rep_neg {q : Rat} (h : q.num < 0) : (q⁻¹).num = -(q.den : Int) ∧ ((q⁻¹).den : Int) = -q.num := by
  have hs := isSh_q q
  have e := rep_divInt (t := -(q.den : Int)) (u := -q.num) (a := (q.den : Int)) (b := q.num) ⟨by omega, by
    rw [gcdI_neg_l, gcdI_neg_r]
    have := hs.2
    unfold gcdI at this ⊢
    rw [Nat.gcd_comm]
    exact this⟩ (by omega) (by rw [Int.neg_mul, Int.neg_mul, Int.mul_comm])
  rw [Rat.inv_def]
  exact ⟨e.1.symm, e.2.symm⟩
/-! ### divisors, further -/
theorem cop_iff {a b : Int} : gcdI a b = 1 ↔ ∀ k : Nat, (k : Int) ∣ a → (k : Int) ∣ b → k = 1 := by
  constructor
  · intro h k h1 h2
    have h3 : k ∣ Nat.gcd a.natAbs b.natAbs := Nat.dvd_gcd (Int.ofNat_dvd_left.mp h1) (Int.ofNat_dvd_left.mp h2)
    have h4 : Nat.gcd a.natAbs b.natAbs = 1 := by unfold gcdI at h; omega
    rw [h4] at h3
    exact Nat.dvd_one.mp h3
  · intro h
    have := h (Nat.gcd a.natAbs b.natAbs) (gcdI_dvd_l a b) (gcdI_dvd_r a b)
    unfold gcdI
    rw [this]
    rfl
theorem cop_comm {a b : Int} (h : gcdI a b = 1) : gcdI b a = 1 := cop_iff.mpr fun k h1 h2 => cop_iff.mp h k h2 h1
theorem cop_dvd_l {a a' b : Int} (h : gcdI a b = 1) (d : a' ∣ a) : gcdI a' b = 1 := cop_iff.mpr fun k h1 h2 => cop_iff.mp h k (Int.dvd_trans h1 d) h2
theorem cop_dvd_r {a b b' : Int} (h : gcdI a b = 1) (d : b' ∣ b) : gcdI a b' = 1 := cop_iff.mpr fun k h1 h2 => cop_iff.mp h k h1 (Int.dvd_trans h2 d)
theorem cop_mul_r {a b c : Int} (h : gcdI a b = 1) (g : gcdI a c = 1) : gcdI a (b * c) = 1 := by
  unfold gcdI at *
  rw [Int.natAbs_mul]
  have h1 : Nat.Coprime a.natAbs b.natAbs := by unfold Nat.Coprime; omega
  have h2 : Nat.Coprime a.natAbs c.natAbs := by unfold Nat.Coprime; omega
  have h3 : Nat.Coprime a.natAbs (b.natAbs * c.natAbs) := Nat.Coprime.mul_right h1 h2
  unfold Nat.Coprime at h3
  omega
theorem cop_mul_l {a b c : Int} (h : gcdI a c = 1) (g : gcdI b c = 1) : gcdI (a * b) c = 1 := cop_comm (cop_mul_r (cop_comm h) (cop_comm g))
theorem cop_add {x y a : Int} (h : gcdI x a = 1) (d : a ∣ y) : gcdI (x + y) a = 1 := cop_iff.mpr fun k h1 h2 => cop_iff.mp h k ((Int.dvd_add_left (Int.dvd_trans h2 d)).mp h1) h2
theorem cop_div {a b : Int} (h : b ≠ 0) : gcdI (a / gcdI a b) (b / gcdI a b) = 1 := by
  rcases Int.lt_or_gt_of_ne h with h | h
  · have := (low_is (a := a) (b := -b) (by omega)).1.2
    rw [gcdI_neg_r, Int.neg_ediv_of_dvd (gcdI_dvd_r a b), gcdI_neg_r] at this
    exact this
  · exact (low_is h).1.2
theorem div_mul {g a : Int} (h : g ∣ a) : g * (a / g) = a := Int.mul_ediv_cancel' h
theorem div_dvd {g a : Int} (h : g ∣ a) : a / g ∣ a := ⟨g, by rw [Int.mul_comm]; exact (div_mul h).symm⟩
/-! ### sums and products of shares, as the program reckons them -/
theorem plus_one {t u t' u' : Int} (h : IsSh t u) (h' : IsSh t' u') (e : gcdI u u' = 1) : IsSh (t * u' + t' * u) (u * u') := by
  have hu : 0 < u * u' := Int.mul_pos (by have := h.1; omega) (by have := h'.1; omega)
  refine ⟨by omega, cop_mul_r ?_ ?_⟩
  · exact cop_add (cop_mul_l h.2 (cop_comm e)) (Int.dvd_mul_left ..)
  · rw [Int.add_comm]
    exact cop_add (cop_mul_l h'.2 e) (Int.dvd_mul_left ..)
theorem plus_two {t u t' u' d tot g : Int} (h : IsSh t u) (h' : IsSh t' u') (ed : gcdI u u' = d) (et : t * (u' / d) + t' * (u / d) = tot) (eg : gcdI tot d = g) :
    IsSh (tot / g) (u / d * (u' / g)) ∧ (tot / g) * (u * u') = (u / d * (u' / g)) * (t * u' + t' * u) := by
  have hu1 := h.1
  have hu2 := h'.1
  have d0 : 0 < d := by rw [← ed]; exact gcdI_pos (by omega)
  have g0 : 0 < g := by rw [← eg]; exact gcdI_pos (by omega)
  have da : d ∣ u := by rw [← ed]; exact gcdI_dvd_l _ _
  have db : d ∣ u' := by rw [← ed]; exact gcdI_dvd_r _ _
  have gt : g ∣ tot := by rw [← eg]; exact gcdI_dvd_l _ _
  have gd : g ∣ d := by rw [← eg]; exact gcdI_dvd_r _ _
  have hab : gcdI (u / d) (u' / d) = 1 := by rw [← ed]; exact cop_div (by omega)
  have hgd : gcdI (tot / g) (d / g) = 1 := by rw [← eg]; exact cop_div (by omega)
  obtain ⟨a, rfl⟩ := da
  obtain ⟨b, rfl⟩ := db
  obtain ⟨e, rfl⟩ := gd
  obtain ⟨f, rfl⟩ := gt
  have g1 : g ≠ 0 := by omega
  have d1 : g * e ≠ 0 := by omega
  rw [Int.mul_ediv_cancel_left _ d1] at et hab ⊢
  rw [Int.mul_ediv_cancel_left _ d1] at et hab
  rw [Int.mul_ediv_cancel_left _ g1] at hgd ⊢
  rw [Int.mul_ediv_cancel_left _ g1] at hgd
  have eb : g * e * b / g = e * b := by rw [Int.mul_assoc, Int.mul_ediv_cancel_left _ g1]
  rw [eb]
  have e0 : 0 < e := by
    rcases Int.lt_trichotomy e 0 with z | z | z
    · have := Int.mul_neg_of_pos_of_neg g0 z
      omega
    · rw [z] at d0; simp at d0
    · exact z
  have a0 : 0 < a := Int.pos_of_mul_pos_right (a := g * e) (by omega) d0
  have b0 : 0 < b := Int.pos_of_mul_pos_right (a := g * e) (by omega) d0
  have c1 : gcdI f a = 1 := by
    refine cop_dvd_l (a := g * f) ?_ (Int.dvd_mul_left ..)
    rw [← et]
    exact cop_add (cop_mul_l (cop_dvd_r h.2 (Int.dvd_mul_left ..)) (cop_comm hab)) (Int.dvd_mul_left ..)
  have c2 : gcdI f b = 1 := by
    refine cop_dvd_l (a := g * f) ?_ (Int.dvd_mul_left ..)
    rw [← et, Int.add_comm]
    exact cop_add (cop_mul_l (cop_dvd_r h'.2 (Int.dvd_mul_left ..)) hab) (Int.dvd_mul_left ..)
  refine ⟨⟨?_, cop_mul_r c1 (cop_mul_r hgd c2)⟩, ?_⟩
  · have := Int.mul_pos a0 (Int.mul_pos e0 b0)
    omega
  · have : a * (e * b) * (t * (g * e * b) + t' * (g * e * a)) = a * (e * b) * (g * e) * (t * b + t' * a) := by grind
    rw [this, et]
    grind
theorem times_one {t u t' u' d e : Int} (h : IsSh t u) (h' : IsSh t' u') (ed : gcdI t u' = d) (ee : gcdI t' u = e) :
    IsSh ((t / d) * (t' / e)) ((u / e) * (u' / d)) ∧ ((t / d) * (t' / e)) * (u * u') = ((u / e) * (u' / d)) * (t * t') := by
  have hu1 := h.1
  have hu2 := h'.1
  have d0 : 0 < d := by rw [← ed]; exact gcdI_pos (by omega)
  have e0 : 0 < e := by rw [← ee]; exact gcdI_pos (by omega)
  have d1 : d ∣ t := by rw [← ed]; exact gcdI_dvd_l _ _
  have d2 : d ∣ u' := by rw [← ed]; exact gcdI_dvd_r _ _
  have d3 : e ∣ t' := by rw [← ee]; exact gcdI_dvd_l _ _
  have d4 : e ∣ u := by rw [← ee]; exact gcdI_dvd_r _ _
  have c1 : gcdI (t / d) (u' / d) = 1 := by rw [← ed]; exact cop_div (by omega)
  have c2 : gcdI (t' / e) (u / e) = 1 := by rw [← ee]; exact cop_div (by omega)
  have c3 : gcdI (t / d) (u / e) = 1 := cop_dvd_l (cop_dvd_r h.2 (div_dvd d4)) (div_dvd d1)
  have c4 : gcdI (t' / e) (u' / d) = 1 := cop_dvd_l (cop_dvd_r h'.2 (div_dvd d2)) (div_dvd d3)
  refine ⟨⟨?_, cop_mul_l (cop_mul_r c3 c1) (cop_mul_r c2 c4)⟩, ?_⟩
  · have := Int.mul_pos (Int.ediv_pos_of_pos_of_dvd (show 0 < u by omega) (by omega) d4) (Int.ediv_pos_of_pos_of_dvd (show 0 < u' by omega) (by omega) d2)
    omega
  · have m1 := div_mul d1
    have m2 := div_mul d2
    have m3 := div_mul d3
    have m4 := div_mul d4
    generalize t / d = x at *
    generalize u' / d = y at *
    generalize t' / e = v at *
    generalize u / e = z at *
    subst m1 m2 m3 m4
    grind
theorem gcdI_bd2 {n : Nat} {p q : Int} (h : Bd n p) (g : Bd n q) (h0 : ¬ (p = 0 ∧ q = 0)) : Bd n (gcdI p q) := by
  by_cases hq : q = 0
  · have hp : p ≠ 0 := fun z => h0 ⟨z, hq⟩
    refine h.of_le ?_
    unfold gcdI
    exact Nat.le_of_dvd (by omega) (Nat.gcd_dvd_left _ _)
  · exact gcdI_bd g hq
theorem gcdI_comm (p q : Int) : gcdI p q = gcdI q p := by
  unfold gcdI
  rw [Nat.gcd_comm]
theorem gcdI_pos2 {p q : Int} (h0 : ¬ (p = 0 ∧ q = 0)) : 0 < gcdI p q := by
  by_cases hq : q = 0
  · rw [gcdI_comm]
    exact gcdI_pos fun z => h0 ⟨z, hq⟩
  · exact gcdI_pos hq
theorem cop_div2 {p q : Int} (h0 : ¬ (p = 0 ∧ q = 0)) : gcdI (p / gcdI p q) (q / gcdI p q) = 1 := by
  by_cases hq : q = 0
  · have hp : p ≠ 0 := fun z => h0 ⟨z, hq⟩
    rw [gcdI_comm p q]
    exact cop_comm (cop_div hp)
  · exact cop_div hq
/-- a fraction by what it is worth -/
theorem eq_divInt {q : Rat} {a b : Int} (hb : b ≠ 0) (h : q * (b : Rat) = (a : Rat)) : q = Rat.divInt a b := by
  rw [Rat.divInt_eq_div, ← h]
  have : (b : Rat) ≠ 0 := fun z => hb (by exact_mod_cast z)
  grind
theorem num_eq (x : Rat) : (x.num : Rat) = x * ((x.den : Int) : Rat) := by
  have h : (((x.den : Int)) : Rat) ≠ 0 := fun z => by
    have hp := den_pos x
    have : ((x.den : Int)) = 0 := by exact_mod_cast z
    omega
  have e := Rat.num_divInt_den x
  rw [Rat.divInt_eq_div] at e
  have e2 := Rat.div_mul_cancel (a := (x.num : Rat)) h
  rw [e] at e2
  exact e2.symm

/-! ### a fraction's share lies at v -/
abbrev qp (q : Rat) : Int × Int := (q.num, (q.den : Int))
abbrev ShQ (K : PySem.W.Frag) (H : Hp) (v : V) (q : Rat) : Prop := ShAt K H v (qp q)
theorem shq_new {K : PySem.W.Frag} {H' : Hp} {p : Addr} {t u a b : Int} (e : H' p = some (.tup [.int t, .int u])) (h : IsSh t u) (hb : b ≠ 0) (c : t * b = u * a) : ShQ K H' (.ref p) (Rat.divInt a b) := by
  obtain ⟨h1, h2⟩ := rep_divInt h hb c
  refine ⟨p, rfl, .inl (.inl ?_)⟩
  rw [e, h1, h2]
theorem shq_int {K : PySem.W.Frag} {H : Hp} {v : V} {n : Int} (h : ShAt K H v (n, 1)) : ShQ K H v (n : Rat) := h
theorem eqv_q (q : Rat) : PyData.eqv (shD (qp q)) (shD (qp q)) = true := eqv_sh _

/-! ### the program's divisor -/
theorem bits_le {b : Int} (h : Bd 4000 b) : ¬ (((Builtin.Int.intBits (if b < 0 then -b else b) : Nat) : Int) > 4000) := by
  have := PyProof.Rows.intBits_le (a := (if b < 0 then -b else b)) (k := 4000) (by rw [abs_nat]; exact h)
  omega
def sp_pgcd : Sp := fun vs H Q _ => ∃ a b : Int, vs = [.int a, .int b] ∧ Bd 4000 b ∧ Q (.int (gcdI a b)) H
theorem ok_p_common_divisor (T : Tx K mg A) : FnOk P w K mg base CX0 1 A.f_p_common_divisor A.fd_p_common_divisor ["one", "other"] sp_pgcd := by
  refine T.F_p_common_divisor.ok sc_p_common_divisor (fun vs H Q E h => ?_) (fun cdv Ar outer s H vs Q E hr h => ?_)
  · obtain ⟨a, b, rfl, _⟩ := h
    rfl
  · obtain ⟨a, b, rfl, hb, q⟩ := h
    refine ⟨_, (pss_cons (ps_set (i := 0) sc_p_common_divisor.nd rfl (.inl rfl) (pe_callB call_abs (by rfl) T.m_abs (by decide +kernel) (pa_cons (pv 0) pa_nil)))
    (pss_cons (ps_set (i := 1) sc_p_common_divisor.nd rfl (.inl rfl) (pe_callB call_abs (by rfl) T.m_abs (by decide +kernel) (pa_cons (pv 1) pa_nil)))
    (pss_cons (ps_if (PW.pt (pw_and (pt_cmpR op_gt (pe_bits (pv 0)) (pe_glob (v := .int 4000) (by rfl) T.g_LENGTHY ⟨_, rfl⟩) (nomark _)) (pw_and1 (pt_cmpR op_gt (pe_bits (pv 1)) (pe_glob (v := .int 4000) (by rfl) T.g_LENGTHY ⟨_, rfl⟩) (nomark _)))))
      (pss_one ps_never)
      pss_nil)
    (pss_cons (ps_while PassesOwn.never (pt_cmpR op_ne (pv 1) pe_int (nomark _))
      (pss_one (ps_par (i := 0) (j := 1) (by rfl) sc_p_common_divisor.nd rfl rfl (by decide) rfl rfl (pa_cons (pv 1) (pa_cons (pe_op op_mod (pv 0) (pv 1)) pa_nil)) (by rfl))))
    (pss_one (ps_ret (pv 0))))))), ?_⟩
    refine ⟨_, rfl, a, rfl, _, rfl, b, rfl, ?_⟩
    refine ⟨_, rfl, _, rfl, _, _, rfl, rfl, _, rfl, ite2 (fun _ => ⟨_, rfl, _, rfl, _, _, rfl, rfl, _, rfl, ite2 (fun e => absurd (of_decide_eq_true e) (bits_le hb)) (fun _ => ?_)⟩) (fun _ => iteF ?_)⟩
    all_goals
      refine ⟨fun n σ H' => ∃ (x y : Nat), σ = [some (.int (x : Int)), some (.int (y : Int))] ∧ n = y ∧ H' = H ∧ Nat.gcd x y = Nat.gcd a.natAbs b.natAbs, ⟨_, a.natAbs, b.natAbs, ?_, rfl, rfl, rfl⟩, fun n σ H' hW => ?_⟩
      · rw [abs_nat, abs_nat]
        rfl
      · obtain ⟨x, y, rfl, rfl, rfl, g⟩ := hW
        refine ⟨_, rfl, rfl, _, rfl, ?_⟩
        by_cases hy : n = 0
        · subst hy
          refine iteNS rfl ⟨_, rfl, ?_⟩
          have : (x : Int) = gcdI a b := by
            unfold gcdI
            rw [← g, Nat.gcd_zero_right]
          rw [this]
          exact q
        · have hne : ¬ (V.int (n : Int) = V.int 0) := fun z => hy (by have := V.int.inj z; omega)
          rw [decide_eq_false hne]
          refine iteT ⟨fun σ' H'' => σ' = [some (.int (n : Int)), some (.int ((x % n : Nat) : Int))] ∧ H'' = H', ?_, ?_⟩
          · rintro σ' H'' ⟨e1, rfl⟩
            exact ⟨x % n, Nat.mod_lt _ (by omega), n, x % n, e1, rfl, rfl, by rw [← g, Nat.gcd_comm x n, Nat.gcd_rec n x, Nat.gcd_comm]⟩
          · exact ⟨_, rfl, _, rfl, _, rfl, (x : Int), (n : Int), rfl, rfl, (show (0 : Int) < n by omega), _, _, rfl, rfl, rfl⟩
/-! ### the sum -/
def sp_p_plus (K : PySem.W.Frag) : Sp := fun vs H Q _ => ∃ (v v' : V) (x y : Rat) (n m : Nat), vs = [v, v'] ∧ ShQ K H v x ∧ ShQ K H v' y ∧ BdQ n x ∧ BdQ m y ∧ n ≤ 4000 ∧ m ≤ 4000 ∧ ∀ H' r, Same H H' → ShQ K H' r (x + y) → Q r H'
theorem ok_p_plus (T : Tx K mg A) : FnOk P w K mg base CX0 2 A.f_p_plus A.fd_p_plus ["one", "other"] (sp_p_plus K) := by
  refine T.F_p_plus.ok sc_p_plus (fun vs H Q E h => ?_) (fun cdv Ar outer s H vs Q E hr h => ?_)
  · obtain ⟨v, v', x, y, n, m, rfl, _⟩ := h
    rfl
  · obtain ⟨_, _, x, y, n, m, rfl, ⟨a, rfl, ha⟩, ⟨b, rfl, hb⟩, bx, bY, hn, hm, q⟩ := h
    refine ⟨_, (pss_cons (ps_asg (pv 0) (pg_tup rfl (pgs_cons (pg_name (i := 2) sc_p_plus.nd rfl (.inl rfl)) (pgs_cons (pg_name (i := 3) sc_p_plus.nd rfl (.inl rfl)) pgs_nil))))
    (pss_cons (ps_asg (pv 1) (pg_tup rfl (pgs_cons (pg_name (i := 4) sc_p_plus.nd rfl (.inl rfl)) (pgs_cons (pg_name (i := 5) sc_p_plus.nd rfl (.inl rfl)) pgs_nil))))
    (pss_cons (ps_set (i := 6) sc_p_plus.nd rfl (.inl rfl) (pe_call (ok_p_common_divisor T) (hr.mono (by decide)) (by rfl) T.g_p_common_divisor T.F_p_common_divisor.kp T.b_p_common_divisor .nil pass0 (pa_cons (pv 3) (pa_cons (pv 5) pa_nil))))
    (pss_cons (ps_if (pt_cmpR op_eq (pv 6) pe_int (nomark _))
      (pss_one (ps_ret (pe_tup (pa_cons (pe_op op_add (pe_op op_mulW (pv 2) (pv 5)) (pe_op op_mulW (pv 4) (pv 3))) (pa_cons (pe_op op_mulW (pv 3) (pv 5)) pa_nil)))))
      pss_nil)
    (pss_cons (ps_set (i := 7) sc_p_plus.nd rfl (.inl rfl) (pe_op op_add (pe_op op_mulW (pv 2) (pe_op op_fdivW (pv 5) (pv 6))) (pe_op op_mulW (pv 4) (pe_op op_fdivW (pv 3) (pv 6)))))
    (pss_cons (ps_set (i := 8) sc_p_plus.nd rfl (.inl rfl) (pe_call (ok_p_common_divisor T) (hr.mono (by decide)) (by rfl) T.g_p_common_divisor T.F_p_common_divisor.kp T.b_p_common_divisor .nil pass0 (pa_cons (pv 7) (pa_cons (pv 6) pa_nil))))
    (pss_one (ps_ret (pe_tup (pa_cons (pe_op op_fdivW (pv 7) (pv 8)) (pa_cons (pe_op op_mulW (pe_op op_fdivW (pv 3) (pv 6)) (pe_op op_fdivW (pv 5) (pv 8))) pa_nil))))))))))), ?_⟩
    have hx := isSh_q x
    have hy := isSh_q y
    have dx := den_pos x
    have dy := den_pos y
    refine ⟨_, rfl, a, _, rfl, ha, rfl, _, _, rfl, _, _, rfl, rfl, ?_⟩
    refine ⟨_, rfl, b, _, rfl, hb, rfl, _, _, rfl, _, _, rfl, rfl, ?_⟩
    refine ⟨_, rfl, _, rfl, (x.den : Int), (y.den : Int), rfl, bY.2.le hm, ?_⟩
    refine ⟨_, rfl, rfl, _, rfl, ite2 (fun e => ?_) (fun e => ?_)⟩
    · have e1 : gcdI x.den y.den = 1 := V.int.inj (of_decide_eq_true e)
      refine ⟨_, rfl, _, rfl, x.num, (y.den : Int), rfl, rfl, bx.1.mulW bY.2 (by omega) (by omega), _, rfl, _, rfl, y.num, (x.den : Int), rfl, rfl, bY.1.mulW bx.2 (by omega) (by omega), _, _, rfl, rfl, _, rfl, _, rfl, (x.den : Int), (y.den : Int), rfl, rfl, bx.2.mulW bY.2 (by omega) (by omega), size63 (show 2 ≤ 1000 by decide), fun p hp => ?_⟩
      generalize hG : upd _ p _ = G
      obtain ⟨s, e⟩ := alloc hG hp
      refine q _ _ s ?_
      rw [add_divInt]
      exact shq_new e (plus_one hx hy e1) (by have := Int.mul_pos dx dy; omega) (Int.mul_comm _ _)
    · obtain ⟨d, hd⟩ : ∃ d, gcdI x.den y.den = d := ⟨_, rfl⟩
      rw [hd]
      have hdb : Bd m d := hd ▸ gcdI_bd bY.2 (by omega)
      have hd0 : 0 < d := hd ▸ gcdI_pos (by omega)
      have db1 : Bd m (y.den / d) := bY.2.of_le (div_natAbs_le hd0 (hd ▸ gcdI_dvd_r _ _))
      have db2 : Bd n (x.den / d) := bx.2.of_le (div_natAbs_le hd0 (hd ▸ gcdI_dvd_l _ _))
      refine ⟨_, rfl, _, rfl, _, rfl, (y.den : Int), d, rfl, rfl, hdb.divW hd0 (by omega), x.num, _, rfl, rfl, bx.1.mulW db1 (by omega) (by omega), _, rfl, _, rfl, _, rfl, (x.den : Int), d, rfl, rfl, hdb.divW hd0 (by omega), y.num, _, rfl, rfl, bY.1.mulW db2 (by omega) (by omega), _, _, rfl, rfl, ?_⟩
      refine ⟨_, rfl, _, rfl, _, d, rfl, hdb.le hm, ?_⟩
      obtain ⟨g, hg⟩ : ∃ g, gcdI (x.num * (y.den / d) + y.num * (x.den / d)) d = g := ⟨_, rfl⟩
      rw [hg]
      have hg0 : 0 < g := hg ▸ gcdI_pos (by omega)
      have hgb : Bd m g := hg ▸ gcdI_bd hdb (by omega)
      have db3 : Bd m (y.den / g) := bY.2.of_le (div_natAbs_le hg0 (Int.dvd_trans (hg ▸ gcdI_dvd_r _ _) (hd ▸ gcdI_dvd_r _ _)))
      refine ⟨_, rfl, _, rfl, _, g, rfl, rfl, hgb.divW hg0 (by omega), _, rfl, _, rfl, (x.den : Int), d, rfl, rfl, hdb.divW hd0 (by omega), _, rfl, _, rfl, (y.den : Int), g, rfl, rfl, hgb.divW hg0 (by omega), _, _, rfl, rfl, db2.mulW db3 (by omega) (by omega), size63 (show 2 ≤ 1000 by decide), fun p hp => ?_⟩
      generalize hG : upd _ p _ = G
      obtain ⟨s, e⟩ := alloc hG hp
      refine q _ _ s ?_
      rw [add_divInt]
      obtain ⟨h1, h2⟩ := plus_two hx hy hd rfl hg
      exact shq_new e h1 (by have := Int.mul_pos dx dy; omega) h2
/-! ### the product -/
def sp_p_times (K : PySem.W.Frag) : Sp := fun vs H Q _ => ∃ (v v' : V) (x y : Rat) (n m : Nat), vs = [v, v'] ∧ ShQ K H v x ∧ ShQ K H v' y ∧ BdQ n x ∧ BdQ m y ∧ n ≤ 4000 ∧ m ≤ 4000 ∧ ∀ H' r, Same H H' → ShQ K H' r (x * y) → Q r H'
theorem ok_p_times (T : Tx K mg A) : FnOk P w K mg base CX0 2 A.f_p_times A.fd_p_times ["one", "other"] (sp_p_times K) := by
  refine T.F_p_times.ok sc_p_times (fun vs H Q E h => ?_) (fun cdv Ar outer s H vs Q E hr h => ?_)
  · obtain ⟨v, v', x, y, n, m, rfl, _⟩ := h
    rfl
  · obtain ⟨_, _, x, y, n, m, rfl, ⟨a, rfl, ha⟩, ⟨b, rfl, hb⟩, bx, bY, hn, hm, q⟩ := h
    refine ⟨_, (pss_cons (ps_asg (pv 0) (pg_tup rfl (pgs_cons (pg_name (i := 2) sc_p_times.nd rfl (.inl rfl)) (pgs_cons (pg_name (i := 3) sc_p_times.nd rfl (.inl rfl)) pgs_nil))))
    (pss_cons (ps_asg (pv 1) (pg_tup rfl (pgs_cons (pg_name (i := 4) sc_p_times.nd rfl (.inl rfl)) (pgs_cons (pg_name (i := 5) sc_p_times.nd rfl (.inl rfl)) pgs_nil))))
    (pss_cons (ps_set (i := 6) sc_p_times.nd rfl (.inl rfl) (pe_call (ok_p_common_divisor T) (hr.mono (by decide)) (by rfl) T.g_p_common_divisor T.F_p_common_divisor.kp T.b_p_common_divisor .nil pass0 (pa_cons (pv 2) (pa_cons (pv 5) pa_nil))))
    (pss_cons (ps_set (i := 7) sc_p_times.nd rfl (.inl rfl) (pe_call (ok_p_common_divisor T) (hr.mono (by decide)) (by rfl) T.g_p_common_divisor T.F_p_common_divisor.kp T.b_p_common_divisor .nil pass0 (pa_cons (pv 4) (pa_cons (pv 3) pa_nil))))
    (pss_one (ps_ret (pe_tup (pa_cons (pe_op op_mulW (pe_op op_fdivW (pv 2) (pv 6)) (pe_op op_fdivW (pv 4) (pv 7))) (pa_cons (pe_op op_mulW (pe_op op_fdivW (pv 3) (pv 7)) (pe_op op_fdivW (pv 5) (pv 6))) pa_nil))))))))), ?_⟩
    have hx := isSh_q x
    have hy := isSh_q y
    have dx := den_pos x
    have dy := den_pos y
    refine ⟨_, rfl, a, _, rfl, ha, rfl, _, _, rfl, _, _, rfl, rfl, ?_⟩
    refine ⟨_, rfl, b, _, rfl, hb, rfl, _, _, rfl, _, _, rfl, rfl, ?_⟩
    refine ⟨_, rfl, _, rfl, x.num, (y.den : Int), rfl, bY.2.le hm, ?_⟩
    refine ⟨_, rfl, _, rfl, y.num, (x.den : Int), rfl, bx.2.le hn, ?_⟩
    obtain ⟨d, hd⟩ : ∃ d, gcdI x.num y.den = d := ⟨_, rfl⟩
    obtain ⟨e, he⟩ : ∃ e, gcdI y.num x.den = e := ⟨_, rfl⟩
    rw [hd, he]
    have hd0 : 0 < d := hd ▸ gcdI_pos (by omega)
    have he0 : 0 < e := he ▸ gcdI_pos (by omega)
    have hdb : Bd m d := hd ▸ gcdI_bd bY.2 (by omega)
    have heb : Bd n e := he ▸ gcdI_bd bx.2 (by omega)
    have b1 : Bd n (x.num / d) := bx.1.of_le (div_natAbs_le hd0 (hd ▸ gcdI_dvd_l _ _))
    have b2 : Bd m (y.num / e) := bY.1.of_le (div_natAbs_le he0 (he ▸ gcdI_dvd_l _ _))
    have b3 : Bd n (x.den / e) := bx.2.of_le (div_natAbs_le he0 (he ▸ gcdI_dvd_r _ _))
    have b4 : Bd m (y.den / d) := bY.2.of_le (div_natAbs_le hd0 (hd ▸ gcdI_dvd_r _ _))
    refine ⟨_, rfl, _, rfl, x.num, d, rfl, rfl, hdb.divW hd0 (by omega), _, rfl, _, rfl, y.num, e, rfl, rfl, heb.divW he0 (by omega), _, _, rfl, rfl, b1.mulW b2 (by omega) (by omega), _, rfl, _, rfl, (x.den : Int), e, rfl, rfl, heb.divW he0 (by omega), _, rfl, _, rfl, (y.den : Int), d, rfl, rfl, hdb.divW hd0 (by omega), _, _, rfl, rfl, b3.mulW b4 (by omega) (by omega), size63 (show 2 ≤ 1000 by decide), fun p hp => ?_⟩
    generalize hG : upd _ p _ = G
    obtain ⟨s, e⟩ := alloc hG hp
    refine q _ _ s ?_
    rw [mul_divInt]
    obtain ⟨h1, h2⟩ := times_one hx hy hd he
    exact shq_new e h1 (by have := Int.mul_pos dx dy; omega) h2
/-! ### the difference -/
def sp_p_minus (K : PySem.W.Frag) : Sp := fun vs H Q _ => ∃ (v v' : V) (x y : Rat) (n m : Nat), vs = [v, v'] ∧ ShQ K H v x ∧ ShQ K H v' y ∧ BdQ n x ∧ BdQ m y ∧ n ≤ 4000 ∧ m ≤ 4000 ∧ ∀ H' r, Same H H' → ShQ K H' r (x - y) → Q r H'
theorem ok_p_minus (T : Tx K mg A) : FnOk P w K mg base CX0 3 A.f_p_minus A.fd_p_minus ["one", "other"] (sp_p_minus K) := by
  refine T.F_p_minus.ok sc_p_minus (fun vs H Q E h => ?_) (fun cdv Ar outer s H vs Q E hr h => ?_)
  · obtain ⟨v, v', x, y, n, m, rfl, _⟩ := h
    rfl
  · obtain ⟨v, _, x, y, n, m, rfl, hv, ⟨b, rfl, hb⟩, bx, bY, hn, hm, q⟩ := h
    refine ⟨_, (pss_cons (ps_asg (pv 1) (pg_tup rfl (pgs_cons (pg_name (i := 2) sc_p_minus.nd rfl (.inl rfl)) (pgs_cons (pg_name (i := 3) sc_p_minus.nd rfl (.inl rfl)) pgs_nil))))
    (pss_one (ps_ret (pe_call (ok_p_plus T) (hr.mono (by decide)) (by rfl) T.g_p_plus T.F_p_plus.kp T.b_p_plus .nil pass0 (pa_cons (pv 0) (pa_cons (pe_tup (pa_cons (pe_un un_neg (pv 2)) (pa_cons (pv 3) pa_nil))) pa_nil)))))), ?_⟩
    refine ⟨_, rfl, b, _, rfl, hb, rfl, _, _, rfl, _, _, rfl, rfl, ?_⟩
    refine ⟨_, rfl, _, rfl, y.num, rfl, _, rfl, size63 (show 2 ≤ 1000 by decide), fun p hp => ?_⟩
    generalize hG : upd _ p _ = G
    obtain ⟨s, e⟩ := alloc hG hp
    refine ⟨v, .ref p, x, -y, n, m, rfl, hv.keep s, ⟨p, rfl, .inl (.inl e)⟩, bx, bY.neg, hn, hm, fun H' r s' h' => q _ _ (s.trans s') ?_⟩
    rw [Rat.sub_eq_add_neg]
    exact h'
/-! ### the quotient -/
def sp_p_over (K : PySem.W.Frag) (cN : Addr) : Sp := fun vs H Q E => ∃ (v v' : V) (x y : Rat) (n m : Nat), vs = [v, v'] ∧ ShQ K H v x ∧ ShQ K H v' y ∧ BdQ n x ∧ BdQ m y ∧ n ≤ 4000 ∧ m ≤ 4000 ∧ (y = 0 → E (.ref cN) none H) ∧ (y ≠ 0 → ∀ H' r, Same H H' → ShQ K H' r (x / y) → Q r H')
theorem ok_p_over (T : Tx K mg A) : FnOk P w K mg base (L2.CX P w) 3 A.f_p_over A.fd_p_over ["one", "other"] (sp_p_over K A.c_NoShare) := by
  refine T.F_p_over.okX sc_p_over (fun vs H Q E h => ?_) (fun cdv Ar outer s H vs Q E hr h => ?_)
  · obtain ⟨v, v', x, y, n, m, rfl, _⟩ := h
    rfl
  · obtain ⟨v, _, x, y, n, m, rfl, hv, ⟨b, rfl, hb⟩, bx, bY, hn, hm, qe, q⟩ := h
    refine ⟨_, (pss_cons (ps_asg (pv 1) (pg_tup rfl (pgs_cons (pg_name (i := 2) sc_p_over.nd rfl (.inl rfl)) (pgs_cons (pg_name (i := 3) sc_p_over.nd rfl (.inl rfl)) pgs_nil))))
    (pss_cons (ps_if (pt_cmpR op_eq (pv 2) pe_int (nomark _))
      (pss_one (ps_raise rfl (takes_of rfl rfl rfl rfl) (pmk_own PySem.F.excBase_ValueError T.x_NoShare T.g_NoShare T.k_NoShare (raises_own T.b_NoShare T.t_NoShare) rfl)))
      pss_nil)
    (pss_cons (ps_if (pt_cmpR op_lt (pv 2) pe_int (nomark _))
      (pss_one (ps_ret (pe_call (ok_p_times T) (hr.mono (by decide)) (by rfl) T.g_p_times T.F_p_times.kp T.b_p_times .nil pass0 (pa_cons (pv 0) (pa_cons (pe_tup (pa_cons (pe_un un_neg (pv 3)) (pa_cons (pe_un un_neg (pv 2)) pa_nil))) pa_nil)))))
      pss_nil)
    (pss_one (ps_ret (pe_call (ok_p_times T) (hr.mono (by decide)) (by rfl) T.g_p_times T.F_p_times.kp T.b_p_times .nil pass0 (pa_cons (pv 0) (pa_cons (pe_tup (pa_cons (pv 3) (pa_cons (pv 2) pa_nil))) pa_nil)))))))), ?_⟩
    refine ⟨_, rfl, b, _, rfl, hb, rfl, _, _, rfl, _, _, rfl, rfl, ?_⟩
    refine ⟨_, rfl, rfl, _, rfl, ite2 (fun e => ?_) (fun e => ?_)⟩
    · exact qe (Rat.num_eq_zero.mp (V.int.inj (of_decide_eq_true e)))
    · have h0 : y.num ≠ 0 := fun z => e (decide_eq_true (congrArg V.int z))
      have hy0 : y ≠ 0 := fun z => h0 (by rw [z]; rfl)
      refine ⟨_, rfl, _, _, rfl, rfl, _, rfl, ite2 (fun e2 => ?_) (fun e2 => ?_)⟩
      · have hneg : y.num < 0 := of_decide_eq_true e2
        obtain ⟨i1, i2⟩ := inv_rep_neg hneg
        refine ⟨_, rfl, _, rfl, (y.den : Int), rfl, _, rfl, y.num, rfl, size63 (show 2 ≤ 1000 by decide), fun p hp => ?_⟩
        generalize hG : upd _ p _ = G
        obtain ⟨s, e⟩ := alloc hG hp
        refine ⟨v, .ref p, x, y⁻¹, n, m, rfl, hv.keep s, ⟨p, rfl, .inl (.inl (show G p = some (.tup [.int (y⁻¹).num, .int ((y⁻¹).den : Int)]) from by rw [e, i1, i2]))⟩, bx, ⟨by rw [i1]; exact bY.2.neg, by rw [i2]; exact bY.1.neg⟩, hn, hm, fun H' r s' h' => q hy0 _ _ (s.trans s') ?_⟩
        rw [Rat.div_def]
        exact h'
      · have hpos : 0 < y.num := by
          have : ¬ y.num < 0 := fun z => e2 (decide_eq_true z)
          omega
        obtain ⟨i1, i2⟩ := inv_rep hpos
        refine ⟨_, rfl, _, rfl, _, rfl, size63 (show 2 ≤ 1000 by decide), fun p hp => ?_⟩
        generalize hG : upd _ p _ = G
        obtain ⟨s, e⟩ := alloc hG hp
        refine ⟨v, .ref p, x, y⁻¹, n, m, rfl, hv.keep s, ⟨p, rfl, .inl (.inl (show G p = some (.tup [.int (y⁻¹).num, .int ((y⁻¹).den : Int)]) from by rw [e, i1, i2]))⟩, bx, ⟨by rw [i1]; exact bY.2, by rw [i2]; exact bY.1⟩, hn, hm, fun H' r s' h' => q hy0 _ _ (s.trans s') ?_⟩
        rw [Rat.div_def]
        exact h'

/-! ### things of any kind -/
inductive Tg (K : PySem.W.Frag) (H : Hp) : V → Prop
  | int (i : Int) (h : Bd 4000 i) : Tg K H (.int i)
  | bl (b : Bool) : Tg K H (.bl b)
  | tup {a : Addr} {xs : List V} : SqT K H a xs → (∀ x ∈ xs, Tg K H x) → Tg K H (.ref a)
  | other {v : V} (t : String) : TyX K H v (.type t) → kitB t "tuple" = some false → kitB t "int" = some false → Tg K H v
theorem TyX.keep {K : PySem.W.Frag} {H H' : Hp} {v : V} {t : Value} (h : TyX K H v t) (k : Same H H') : TyX K H' v t := by
  cases h with
  | base b =>
    cases b with
    | non => exact .base .non
    | bl x => exact .base (.bl x)
    | int i => exact .base (.int i)
    | str x => exact .base (.str x)
    | flt x => exact .base (.flt x)
    | lst e => exact .base (.lst (k _ _ e))
    | frz e => exact .base (.frz (k _ _ e))
    | tup e => exact .base (.tup (k _ _ e))
    | dK e => exact .base (.dK (k _ _ e))
    | dT e => exact .base (.dT (k _ _ e))
    | ins e cl ha hn htk hm => exact .base (.ins (k _ _ e) cl ha hn htk hm)
  | byt b => exact .byt b
  | set e => exact .set (k _ _ e)
  | kList e c => exact .kList e c
  | kTuple e c => exact .kTuple e c
  | kDict e c => exact .kDict e c
  | fTuple e => exact .fTuple (k _ _ e)
  | fDict e => exact .fDict (k _ _ e)
theorem Tg.keep {K : PySem.W.Frag} {H H' : Hp} {v : V} (h : Tg K H v) (k : Same H H') : Tg K H' v := by
  induction h with
  | int i h => exact .int i h
  | bl b => exact .bl b
  | tup s _ ih => exact .tup (Same.seqT k s) ih
  | other t h1 h2 h3 => exact .other t (TyX.keep h1 k) h2 h3
theorem Tg.str {K : PySem.W.Frag} {H : Hp} (x : Str) : Tg K H (.str x) := .other "str" (.base (.str x)) (by decide +kernel) (by decide +kernel)
theorem Tg.non {K : PySem.W.Frag} {H : Hp} : Tg K H .non := .other "NoneType" (.base .non) (by decide +kernel) (by decide +kernel)
theorem Tg.lst {K : PySem.W.Frag} {H : Hp} {a : Addr} {xs : List V} (e : H a = some (.lst xs)) : Tg K H (.ref a) := .other "list" (.base (.lst e)) (by decide +kernel) (by decide +kernel)
theorem Tg.dK {K : PySem.W.Frag} {H : Hp} {a : Addr} {kvs : List (Key × V)} (e : H a = some (.dK kvs)) : Tg K H (.ref a) := .other "dict" (.base (.dK e)) (by decide +kernel) (by decide +kernel)
theorem Tg.shq {K : PySem.W.Frag} {H : Hp} {v : V} {x : Int × Int} (h : ShAt K H v x) (b1 : Bd 4000 x.1) (b2 : Bd 4000 x.2) : Tg K H v := by
  obtain ⟨a, rfl, h⟩ := h
  refine .tup h fun y hy => ?_
  simp only [List.mem_cons, List.not_mem_nil, or_false] at hy
  rcases hy with rfl | rfl
  · exact .int _ b1
  · exact .int _ b2
theorem Tg.bd {K : PySem.W.Frag} {H : Hp} {i : Int} (h : Tg K H (.int i)) : Bd 4000 i := by
  cases h with
  | int _ h => exact h
  | other t h1 h2 h3 =>
    cases h1 with
    | base b => cases b; exact absurd h3 (by decide +kernel)
/-- an expression that gives a thing, and lets all that stood stand -/
def Thg (K : PySem.W.Frag) (H0 : Hp) (σ : L2.St) (t : TE) : Prop := ∀ H Q, Same H0 H → (∀ v H', Same H H' → Tg K H' v → Q v H') → t σ H Q
def ThgA (K : PySem.W.Frag) (H0 : Hp) (σ : L2.St) (t : TA) (n : Nat) : Prop := ∀ H Q, Same H0 H → (∀ vs H', Same H H' → vs.length = n → (∀ v ∈ vs, Tg K H' v) → Q vs H') → t σ H Q
def IntE (H0 : Hp) (σ : L2.St) (t : TE) (n : Nat) : Prop := ∀ H Q, Same H0 H → (∀ i, Bd n i → Q (.int i) H) → t σ H Q
section
variable {K : PySem.W.Frag} {H0 : Hp} {σ : L2.St} {t t' : TE} {ta : TA} {n m : Nat}
theorem tg_var {i : Nat} {v : V} (g : Tg K H0 v) (h : σ[i]? = some (some v) := by rfl) : Thg K H0 σ (tVar i) := fun H _ s q => ⟨v, h, q v H (Same.refl _) (g.keep s)⟩
theorem tg_c {v : V} (g : ∀ H, Tg K H v) : Thg K H0 σ (tC v) := fun H _ _ q => q v H (Same.refl _) (g H)
theorem tgA_nil : ThgA K H0 σ tNil 0 := fun H _ _ q => q [] H (Same.refl _) rfl (fun _ h => by cases h)
theorem tgA_cons (h : Thg K H0 σ t) (r : ThgA K H0 σ ta n) : ThgA K H0 σ (tCons t ta) (n + 1) := fun H Q s q => h H _ s fun v H1 s1 g1 => r H1 _ (s.trans s1) fun vs H2 s2 hl g2 => q (v :: vs) H2 (s1.trans s2) (by rw [List.length_cons, hl]) (fun x hx => by
  rcases List.mem_cons.mp hx with rfl | hx
  · exact g1.keep s2
  · exact g2 x hx)
theorem tg_tup (h : ThgA K H0 σ ta n) (hn : n ≤ 1000) : Thg K H0 σ (tTup ta) := fun H Q s q => h H _ s fun vs H1 s1 hl g => ⟨size63 (by omega), fun p hp => q _ _ (s1.trans (same_upd hp)) (.tup (.inl (.inl upd_same)) fun x hx => (g x hx).keep (same_upd hp))⟩
theorem tg_lst (h : ThgA K H0 σ ta n) (hn : n ≤ 1000) : Thg K H0 σ (tLst ta) := fun H Q s q => h H _ s fun vs H1 s1 hl g => ⟨size63 (by omega), fun p hp => q _ _ (s1.trans (same_upd hp)) (.lst upd_same)⟩
theorem tg_int (h : IntE H0 σ t n) (hn : n ≤ 4000 := by decide) : Thg K H0 σ t := fun H Q s q => h H _ s fun i hi => q _ _ (Same.refl _) (.int i (hi.le hn))
theorem tg_str {c : List V → Hp → VK → Prop} (hc : ∀ i H Q, i.natAbs.log2 < 1920 → (∀ x, Q (.str x) H) → c [.int i] H Q) (h : IntE H0 σ t n) (hn : n < 1900) : Thg K H0 σ (tCB c (tCons t tNil)) := fun H Q s q => h H _ s fun i hi => hc i H _ (Nat.lt_of_lt_of_le (log2_lt (k := n + 1) (hi.le (Nat.le_succ _)) (by omega)) (by omega)) fun x => q _ _ (Same.refl _) (.str x)
theorem tg_list {c : List V → Hp → VK → Prop} {i : Nat} {a : Addr} {xs : List V} (hc : ∀ H Q, SqT K H a xs → (∀ l, H l = none → Q (.ref l) (upd H l (.lst xs))) → c [.ref a] H Q) (g : SqT K H0 a xs) (h : σ[i]? = some (some (.ref a)) := by rfl) : Thg K H0 σ (tCB c (tCons (tVar i) tNil)) := fun H Q s q => ⟨_, h, hc H _ (Same.seqT s g) fun l hl => q _ _ (same_upd hl) (.lst upd_same)⟩
theorem tg_dnew : Thg K H0 σ tDNewK := fun H Q _ q d hd => q _ _ (same_upd hd) (.dK upd_same)
theorem tg_disp {trs : List (TE × TE)} (h : ∀ H Q, Same H0 H → (∀ (kvs : List (Key × V)) H', kvs.length ≤ 15 → Same H H' → Q (kvs.map fun kv => (kV kv.1, kv.2)) H') → tPairs trs σ H Q) : Thg K H0 σ (tDisp trs) := fun H Q s q p hp => h _ _ (s.trans (same_upd hp)) fun kvs H' hl s' => ⟨s' _ _ upd_same, kvs, rfl, hl, q _ _ (fun b o e => by
  rw [upd_ne (ne_of_none e hp)]
  exact s' _ _ (same_upd hp _ _ e)) (.dK upd_same)⟩
theorem tg_cat1 {i : Nat} {a : Addr} {xs : List V} {k : Int} (g : SqT K H0 a xs) (hg : ∀ x ∈ xs, Tg K H0 x) (hx : xs ≠ []) (hl : xs.length ≤ 100) (hk : Bd 4000 k := by unfold Bd; decide +kernel) (h : σ[i]? = some (some (.ref a)) := by rfl) : Thg K H0 σ (tOp (rCatT K) (tVar i) (tTup (tCons (tC (.int k)) tNil))) := fun H Q s q => ⟨_, h, size63 (show 1 ≤ 1000 by decide), fun p hp => ⟨a, p, xs, [.int k], rfl, rfl, Same.seqT (s.trans (same_upd hp)) g, .inl (.inl upd_same), hx, size63 (by show xs.length + 1 ≤ 1000; omega), (fun z => by cases z), fun _ p2 hp2 => q _ _ ((same_upd hp).trans (same_upd hp2)) (.tup (.inl (.inl upd_same)) fun x hx => by
  rcases List.mem_append.mp hx with hx | hx
  · exact (hg x hx).keep ((s.trans (same_upd hp)).trans (same_upd hp2))
  · rw [List.mem_singleton.mp hx]; exact .int _ hk)⟩⟩
theorem tg_cut1 {i : Nat} {a : Addr} {x y : V} (g : SqT K H0 a [x, y]) (hx : Tg K H0 x) (h : σ[i]? = some (some (.ref a)) := by rfl) : Thg K H0 σ (tSl (rSlT K) (tVar i) tNoPart (tPart (tC (.int 1)))) := fun H Q s q => ⟨_, h, 1, rfl, a, [x, y], rfl, Same.seqT s g, (fun z => by cases z.2), fun p hp => q _ _ (same_upd hp) (.tup (xs := [x]) (.inl (.inl upd_same)) fun z hz => by
  rw [List.mem_singleton.mp hz]
  exact hx.keep (s.trans (same_upd hp)))⟩
theorem int_var {i : Nat} {k : Int} (hb : Bd n k) (h : σ[i]? = some (some (.int k)) := by rfl) : IntE H0 σ (tVar i) n := fun H Q _ q => ⟨_, h, q k hb⟩
theorem int_c {k : Int} (hb : Bd n k) : IntE H0 σ (tC (.int k)) n := fun H Q _ q => q k hb
theorem int_neg (h : IntE H0 σ t n) : IntE H0 σ (tUn (rU fun i => .int (-i)) t) n := fun H Q s q => h H _ s fun i hi => ⟨i, rfl, q _ hi.neg⟩
theorem int_mul (h : IntE H0 σ t n) (g : IntE H0 σ t' m) (hn : n ≤ 400000 := by decide) (hm : m ≤ 400000 := by decide) : IntE H0 σ (tOp (rI CMulW fun i j => .int (i * j)) t t') (n + m) := fun H Q s q => h H _ s fun i hi => g H _ s fun j hj => ⟨i, j, rfl, rfl, hi.mulW hj hn hm, q _ (hi.mul hj)⟩
theorem int_add (h : IntE H0 σ t n) (g : IntE H0 σ t' n) : IntE H0 σ (tOp (rI0 fun i j => .int (i + j)) t t') (n + 1) := fun H Q s q => h H _ s fun i hi => g H _ s fun j hj => ⟨i, j, rfl, rfl, q _ (hi.add hj)⟩
theorem int_sub (h : IntE H0 σ t n) (g : IntE H0 σ t' n) : IntE H0 σ (tOp (rI0 fun i j => .int (i - j)) t t') (n + 1) := fun H Q s q => h H _ s fun i hi => g H _ s fun j hj => ⟨i, j, rfl, rfl, q _ (by rw [Int.sub_eq_add_neg]; exact hi.add hj.neg)⟩
theorem int_le (h : IntE H0 σ t n) (l : n ≤ m) : IntE H0 σ t m := fun H Q s q => h H _ s fun i hi => q i (hi.le l)
theorem int_ix {i : Nat} {a : Addr} {xs : List V} {j k : Int} (g : SqT K H0 a xs) (e : atI xs j = some (.int k)) (hb : Bd n k) (h : σ[i]? = some (some (.ref a)) := by rfl) : IntE H0 σ (tOp (rIxT K) (tVar i) (tC (.int j))) n := fun H Q s q => ⟨_, h, a, xs, j, _, rfl, rfl, Same.seqT s g, e, q k hb⟩
end
section
variable {K : PySem.W.Frag} {H0 H : Hp} {σ : L2.St} {ta : TA} {n : Nat} {g : TG} {D : Ends}
theorem asg_lst (hn : n ≤ 100) (s : Same H0 H) (q : ∀ us p H', Same H H' → H' p = some (.lst us) → us.length = n → (∀ v ∈ us, Tg K H' v) → g (.ref p) σ H' D.nx) (h : ThgA K H0 σ ta n) : tAsg (tLst ta) g D σ H :=
  h H _ s fun us H1 s1 hl gs => ⟨size63 (by omega), fun p hp => q us p _ (s1.trans (same_upd hp)) upd_same hl fun v hv => (gs v hv).keep (same_upd hp)⟩
theorem asg_cat {j : Nat} {l : Addr} {xs : List V} (hn : n ≤ 100) (s : Same H0 H) (hl : H l = some (.lst xs)) (hx : xs.length ≤ 500) (q : ∀ us p H', Same H H' → H' p = some (.lst (xs ++ us)) → us.length = n → (∀ v ∈ us, Tg K H' v) → g (.ref p) σ H' D.nx) (h : ThgA K H0 σ ta n) (hj : σ[j]? = some (some (.ref l)) := by rfl) : tAsg (tOp rCat (tVar j) (tLst ta)) g D σ H :=
  ⟨_, hj, h H _ s fun us H1 s1 hl1 gs => ⟨size63 (by omega), fun p hp => ⟨l, p, xs, us, rfl, rfl, same_upd hp _ _ (s1 _ _ hl), upd_same, size63 (by omega), fun p2 hp2 => q us p2 _ ((s1.trans (same_upd hp)).trans (same_upd hp2)) upd_same hl1 fun v hv => (gs v hv).keep ((same_upd hp).trans (same_upd hp2))⟩⟩⟩
theorem ret_cat {j : Nat} {l : Addr} {xs : List V} (hn : n ≤ 100) (s : Same H0 H) (hl : H l = some (.lst xs)) (hx : xs.length ≤ 500) (q : ∀ us p H', Same H H' → H' p = some (.lst (xs ++ us)) → us.length = n → (∀ v ∈ us, Tg K H' v) → D.rt (.ref p) H') (h : ThgA K H0 σ ta n) (hj : σ[j]? = some (some (.ref l)) := by rfl) : tRet (tOp rCat (tVar j) (tLst ta)) D σ H :=
  ⟨_, hj, h H _ s fun us H1 s1 hl1 gs => ⟨size63 (by omega), fun p hp => ⟨l, p, xs, us, rfl, rfl, same_upd hp _ _ (s1 _ _ hl), upd_same, size63 (by omega), fun p2 hp2 => q us p2 _ ((s1.trans (same_upd hp)).trans (same_upd hp2)) upd_same hl1 fun v hv => (gs v hv).keep ((same_upd hp).trans (same_upd hp2))⟩⟩⟩
end
theorem all_app {K : PySem.W.Frag} {H : Hp} {xs ys : List V} (h : ∀ u ∈ xs, Tg K H u) (g : ∀ u ∈ ys, Tg K H u) : ∀ u ∈ xs ++ ys, Tg K H u := fun u hu => by
  rcases List.mem_append.mp hu with hu | hu
  · exact h u hu
  · exact g u hu
theorem all_keep {K : PySem.W.Frag} {H H' : Hp} {xs : List V} (h : ∀ u ∈ xs, Tg K H u) (k : Same H H') : ∀ u ∈ xs, Tg K H' u := fun u hu => (h u hu).keep k
/-- whole numbers among the things -/
def isW : V → Bool
  | .int _ => true
  | _ => false
/-- whether a thing is a share -/
inductive ShB (K : PySem.W.Frag) (H : Hp) : V → Bool → Prop
  | notup {v : V} {t : String} : TyX K H v (.type t) → kitB t "tuple" = some false → ShB K H v false
  | count {a : Addr} {xs : List V} : SqT K H a xs → xs.length ≠ 2 → ShB K H (.ref a) false
  | parts {a : Addr} {x y : V} : SqT K H a [x, y] → Tg K H x → Tg K H y → (isW x && isW y) = false → ShB K H (.ref a) false
  | nums {a : Addr} {t u : Int} : SqT K H a [.int t, .int u] → Bd 4000 t → Bd 4000 u → ShB K H (.ref a) (decide (IsSh t u))
theorem isW_int {v : V} (h : isW v = true) : ∃ i, v = .int i := by
  cases v with
  | int i => exact ⟨i, rfl⟩
  | _ => cases h
theorem Tg.pair {K : PySem.W.Frag} {H : Hp} {xs : List V} (h : ∀ x ∈ xs, Tg K H x) (hl : xs.length = 2) : ∃ x y, xs = [x, y] ∧ Tg K H x ∧ Tg K H y := by
  match xs, hl with
  | [x, y], _ => exact ⟨x, y, rfl, h x List.mem_cons_self, h y (List.mem_cons_of_mem _ List.mem_cons_self)⟩
theorem Tg.shB {K : PySem.W.Frag} {H : Hp} {v : V} (h : Tg K H v) : ∃ r, ShB K H v r := by
  cases h with
  | int i _ => exact ⟨_, .notup (.base (.int i)) (by decide +kernel)⟩
  | bl b => exact ⟨_, .notup (.base (.bl b)) (by decide +kernel)⟩
  | other t h1 h2 h3 => exact ⟨_, .notup h1 h2⟩
  | @tup a xs s g =>
    by_cases hl : xs.length = 2
    · obtain ⟨x, y, rfl, hx, hy⟩ := Tg.pair g hl
      by_cases hw : (isW x && isW y) = true
      · obtain ⟨h1, h2⟩ := Bool.and_eq_true_iff.mp hw
        obtain ⟨i, rfl⟩ := isW_int h1
        obtain ⟨j, rfl⟩ := isW_int h2
        exact ⟨_, .nums s hx.bd hy.bd⟩
      · exact ⟨_, .parts s hx hy (Bool.eq_false_iff.mpr hw)⟩
    · exact ⟨_, .count s hl⟩
theorem ne_two {n : Nat} (h : n ≠ 2) : (!decide (V.int (n : Int) = V.int 2)) = true := by
  rw [decide_eq_false (fun z => h (by have := V.int.inj z; omega))]
  rfl
def sp_shB (K : PySem.W.Frag) : Sp := fun vs H Q _ => ∃ v r, vs = [v] ∧ ShB K H v r ∧ Q (.bl r) H
theorem Tg.ty {K : PySem.W.Frag} {H : Hp} {v : V} (h : Tg K H v) : (∃ t, TyX K H v (.type t) ∧ kitB t "int" = some false ∧ isW v = false) ∨ ∃ t b, TyX K H v (.type t) ∧ kitB t "int" = some true ∧ kitB t "bool" = some b ∧ isW v = !b := by
  cases h with
  | int i _ => exact .inr ⟨"int", false, .base (.int i), by decide +kernel, by decide +kernel, rfl⟩
  | bl b => exact .inr ⟨"bool", true, .base (.bl b), by decide +kernel, by decide +kernel, rfl⟩
  | tup s _ => exact .inl ⟨"tuple", ty_tup s, by decide +kernel, rfl⟩
  | other t h1 h2 h3 =>
    refine .inl ⟨t, h1, h3, ?_⟩
    cases v with
    | int i =>
      cases h1 with
      | base b => cases b; exact absurd h3 (by decide +kernel)
    | _ => rfl

/-! ### spots -/
def SpQ (K : PySem.W.Frag) (H : Hp) (v : V) (x y : Rat) : Prop := ∃ (a : Addr) (v1 v2 : V), v = .ref a ∧ SqT K H a [v1, v2] ∧ ShQ K H v1 x ∧ ShQ K H v2 y
theorem SpQ.keep {K : PySem.W.Frag} {H H' : Hp} {v : V} {x y : Rat} (h : SpQ K H v x y) (k : Same H H') : SpQ K H' v x y := by
  obtain ⟨a, v1, v2, e, h1, h2, h3⟩ := h
  exact ⟨a, v1, v2, e, Same.seqT k h1, ShAt.keep h2 k, ShAt.keep h3 k⟩
theorem SpQ.deck {K : PySem.W.Frag} {H H' : Hp} {v : V} {x y : Rat} {d b : Addr} {c : Int} (h : SpQ K H v x y) (D : Deck K H d b c) (k : Kp d b H H') : SpQ K H' v x y := by
  obtain ⟨a, v1, v2, e, h1, h2, h3⟩ := h
  exact ⟨a, v1, v2, e, D.seqT k h1, ShAt.deck h2 D k, ShAt.deck h3 D k⟩
def spD (x y : Rat) : PyData := .tuple [shD (qp x), shD (qp y)]
theorem SpQ.dp {K : PySem.W.Frag} {H : Hp} {v : V} {x y : Rat} (h : SpQ K H v x y) : Dp K H v (spD x y) := by
  obtain ⟨a, v1, v2, rfl, h1, h2, h3⟩ := h
  exact .tup h1 (.cons h2.dp (.cons h3.dp .nil))
theorem shaped_sp (x y : Rat) : SeqAt.shaped (spD x y) = true := rfl
theorem eqv_sp (x y : Rat) : PyData.eqv (spD x y) (spD x y) = true := SeqAt.eqv_refl _ rfl
theorem SpQ.tg {K : PySem.W.Frag} {H : Hp} {v : V} {x y : Rat} (h : SpQ K H v x y) (b1 : BdQ 4000 x) (b2 : BdQ 4000 y) : Tg K H v := by
  obtain ⟨a, v1, v2, rfl, h1, h2, h3⟩ := h
  refine .tup h1 fun z hz => ?_
  simp only [List.mem_cons, List.not_mem_nil, or_false] at hz
  rcases hz with rfl | rfl
  · exact Tg.shq h2 b1.1 b1.2
  · exact Tg.shq h3 b2.1 b2.2
theorem bdq_int {n : Nat} {p : Int} (h : Bd n p) (hn : 0 < n) : BdQ n (p : Rat) := ⟨h, Nat.one_lt_two_pow (by omega)⟩
def sp_along (K : PySem.W.Frag) (f : Int → Int → Rat → Rat → Rat) : Sp := fun vs H Q _ => ∃ (a : Addr) (v : V) (p q : Int) (x y : Rat) (n m : Nat), vs = [.ref a, v] ∧ SqT K H a [.int p, .int q] ∧ SpQ K H v x y ∧ Bd m p ∧ Bd m q ∧ BdQ n x ∧ BdQ n y ∧ 0 < m ∧ n ≤ 1500 ∧ m ≤ 1500 ∧ ∀ H' r, Same H H' → ShQ K H' r (f p q x y) → Q r H'
theorem ok_p_along (T : Tx K mg A) : FnOk P w K mg base CX0 3 A.f_p_along A.fd_p_along ["way", "spot"] (sp_along K fun p q x y => p * x + q * y) := by
  refine T.F_p_along.ok sc_p_along (fun vs H Q E h => ?_) (fun cdv Ar outer s H vs Q E hr h => ?_)
  · obtain ⟨a, v, p, q, x, y, n, m, rfl, _⟩ := h
    rfl
  · obtain ⟨a, _, p, q, x, y, n, m, rfl, ha, ⟨b, v1, v2, rfl, hb, h1, h2⟩, bp, bq, bx, bY, hm0, hn, hm, Qk⟩ := h
    refine ⟨_, (pss_cons (ps_asg (pv 0) (pg_tup rfl (pgs_cons (pg_name (i := 2) sc_p_along.nd rfl (.inl rfl)) (pgs_cons (pg_name (i := 3) sc_p_along.nd rfl (.inl rfl)) pgs_nil))))
    (pss_cons (ps_asg (pv 1) (pg_tup rfl (pgs_cons (pg_name (i := 4) sc_p_along.nd rfl (.inl rfl)) (pgs_cons (pg_name (i := 5) sc_p_along.nd rfl (.inl rfl)) pgs_nil))))
    (pss_one (ps_ret (pe_call (ok_p_plus T) (hr.mono (by decide)) (by rfl) T.g_p_plus T.F_p_plus.kp T.b_p_plus .nil pass0 (pa_cons (pe_call (ok_p_times T) (hr.mono (by decide)) (by rfl) T.g_p_times T.F_p_times.kp T.b_p_times .nil pass0 (pa_cons (pe_tup (pa_cons (pv 2) (pa_cons pe_int pa_nil))) (pa_cons (pv 4) pa_nil))) (pa_cons (pe_call (ok_p_times T) (hr.mono (by decide)) (by rfl) T.g_p_times T.F_p_times.kp T.b_p_times .nil pass0 (pa_cons (pe_tup (pa_cons (pv 3) (pa_cons pe_int pa_nil))) (pa_cons (pv 5) pa_nil))) pa_nil))))))), ?_⟩
    refine ⟨_, rfl, a, _, rfl, ha, rfl, _, _, rfl, _, _, rfl, rfl, ?_⟩
    refine ⟨_, rfl, b, _, rfl, hb, rfl, _, _, rfl, _, _, rfl, rfl, ?_⟩
    refine ⟨_, rfl, size63 (show 2 ≤ 1000 by decide), fun a1 f1 => ?_⟩
    generalize hG1 : upd _ a1 _ = G1
    obtain ⟨s1, e1⟩ := alloc hG1 f1
    refine ⟨_, rfl, .ref a1, v1, (p : Rat), x, m, n, rfl, ⟨a1, rfl, .inl (.inl e1)⟩, h1.keep s1, bdq_int bp hm0, bx, by omega, by omega, fun H2 r2 s2 g2 => ?_⟩
    refine ⟨_, rfl, size63 (show 2 ≤ 1000 by decide), fun a3 f3 => ?_⟩
    generalize hG3 : upd _ a3 _ = G3
    obtain ⟨s3, e3⟩ := alloc hG3 f3
    refine ⟨_, rfl, .ref a3, v2, (q : Rat), y, m, n, rfl, ⟨a3, rfl, .inl (.inl e3)⟩, ((h2.keep s1).keep s2).keep s3, bdq_int bq hm0, bY, by omega, by omega, fun H4 r4 s4 g4 => ?_⟩
    refine ⟨r2, r4, (p : Rat) * x, (q : Rat) * y, m + n, m + n, rfl, (g2.keep s3).keep s4, g4, (bdq_int bp hm0).mul bx, (bdq_int bq hm0).mul bY, by omega, by omega, fun H5 r5 s5 g5 => ?_⟩
    exact Qk _ _ ((((s1.trans s2).trans s3).trans s4).trans s5) g5
theorem ok_p_across (T : Tx K mg A) : FnOk P w K mg base CX0 4 A.f_p_across A.fd_p_across ["way", "spot"] (sp_along K fun p q x y => p * y - q * x) := by
  refine T.F_p_across.ok sc_p_across (fun vs H Q E h => ?_) (fun cdv Ar outer s H vs Q E hr h => ?_)
  · obtain ⟨a, v, p, q, x, y, n, m, rfl, _⟩ := h
    rfl
  · obtain ⟨a, _, p, q, x, y, n, m, rfl, ha, ⟨b, v1, v2, rfl, hb, h1, h2⟩, bp, bq, bx, bY, hm0, hn, hm, Qk⟩ := h
    refine ⟨_, (pss_cons (ps_asg (pv 0) (pg_tup rfl (pgs_cons (pg_name (i := 2) sc_p_across.nd rfl (.inl rfl)) (pgs_cons (pg_name (i := 3) sc_p_across.nd rfl (.inl rfl)) pgs_nil))))
    (pss_cons (ps_asg (pv 1) (pg_tup rfl (pgs_cons (pg_name (i := 4) sc_p_across.nd rfl (.inl rfl)) (pgs_cons (pg_name (i := 5) sc_p_across.nd rfl (.inl rfl)) pgs_nil))))
    (pss_one (ps_ret (pe_call (ok_p_minus T) (hr.mono (by decide)) (by rfl) T.g_p_minus T.F_p_minus.kp T.b_p_minus .nil pass0 (pa_cons (pe_call (ok_p_times T) (hr.mono (by decide)) (by rfl) T.g_p_times T.F_p_times.kp T.b_p_times .nil pass0 (pa_cons (pe_tup (pa_cons (pv 2) (pa_cons pe_int pa_nil))) (pa_cons (pv 5) pa_nil))) (pa_cons (pe_call (ok_p_times T) (hr.mono (by decide)) (by rfl) T.g_p_times T.F_p_times.kp T.b_p_times .nil pass0 (pa_cons (pe_tup (pa_cons (pv 3) (pa_cons pe_int pa_nil))) (pa_cons (pv 4) pa_nil))) pa_nil))))))), ?_⟩
    refine ⟨_, rfl, a, _, rfl, ha, rfl, _, _, rfl, _, _, rfl, rfl, ?_⟩
    refine ⟨_, rfl, b, _, rfl, hb, rfl, _, _, rfl, _, _, rfl, rfl, ?_⟩
    refine ⟨_, rfl, size63 (show 2 ≤ 1000 by decide), fun a1 f1 => ?_⟩
    generalize hG1 : upd _ a1 _ = G1
    obtain ⟨s1, e1⟩ := alloc hG1 f1
    refine ⟨_, rfl, .ref a1, v2, (p : Rat), y, m, n, rfl, ⟨a1, rfl, .inl (.inl e1)⟩, h2.keep s1, bdq_int bp hm0, bY, by omega, by omega, fun H2 r2 s2 g2 => ?_⟩
    refine ⟨_, rfl, size63 (show 2 ≤ 1000 by decide), fun a3 f3 => ?_⟩
    generalize hG3 : upd _ a3 _ = G3
    obtain ⟨s3, e3⟩ := alloc hG3 f3
    refine ⟨_, rfl, .ref a3, v1, (q : Rat), x, m, n, rfl, ⟨a3, rfl, .inl (.inl e3)⟩, ((h1.keep s1).keep s2).keep s3, bdq_int bq hm0, bx, by omega, by omega, fun H4 r4 s4 g4 => ?_⟩
    refine ⟨r2, r4, (p : Rat) * y, (q : Rat) * x, m + n, m + n, rfl, (g2.keep s3).keep s4, g4, (bdq_int bp hm0).mul bY, (bdq_int bq hm0).mul bx, by omega, by omega, fun H5 r5 s5 g5 => ?_⟩
    exact Qk _ _ ((((s1.trans s2).trans s3).trans s4).trans s5) g5
def sp_p_spot_times (K : PySem.W.Frag) : Sp := fun vs H Q _ => ∃ (v v' : V) (x y z : Rat) (n m : Nat), vs = [v, v'] ∧ SpQ K H v x y ∧ ShQ K H v' z ∧ BdQ n x ∧ BdQ n y ∧ BdQ m z ∧ n ≤ 4000 ∧ m ≤ 4000 ∧ ∀ H' r, Same H H' → SpQ K H' r (x * z) (y * z) → Q r H'
theorem ok_p_spot_times (T : Tx K mg A) : FnOk P w K mg base CX0 3 A.f_p_spot_times A.fd_p_spot_times ["spot", "share"] (sp_p_spot_times K) := by
  refine T.F_p_spot_times.ok sc_p_spot_times (fun vs H Q E h => ?_) (fun cdv Ar outer s H vs Q E hr h => ?_)
  · obtain ⟨v, v', x, y, z, n, m, rfl, _⟩ := h
    rfl
  · obtain ⟨_, v', x, y, z, n, m, rfl, ⟨a, v1, v2, rfl, ha, h1, h2⟩, h3, b1, b2, b3, hn, hm, Qk⟩ := h
    refine ⟨_, (pss_one (ps_ret (pe_tup (pa_cons (pe_call (ok_p_times T) (hr.mono (by decide)) (by rfl) T.g_p_times T.F_p_times.kp T.b_p_times .nil pass0 (pa_cons (pe_ix ix_tup (pv 0) pe_int (fun _ _ => rfl)) (pa_cons (pv 1) pa_nil))) (pa_cons (pe_call (ok_p_times T) (hr.mono (by decide)) (by rfl) T.g_p_times T.F_p_times.kp T.b_p_times .nil pass0 (pa_cons (pe_ix ix_tup (pv 0) pe_int (fun _ _ => rfl)) (pa_cons (pv 1) pa_nil))) pa_nil))))), ?_⟩
    refine ⟨_, rfl, a, _, 0, _, rfl, rfl, ha, rfl, _, rfl, v1, v', x, z, n, m, rfl, h1, h3, b1, b3, hn, hm, fun H1 r1 s1 g1 => ?_⟩
    refine ⟨_, rfl, a, _, 1, _, rfl, rfl, Same.seqT s1 ha, rfl, _, rfl, v2, v', y, z, n, m, rfl, h2.keep s1, h3.keep s1, b2, b3, hn, hm, fun H2 r2 s2 g2 => ?_⟩
    refine ⟨size63 (show 2 ≤ 1000 by decide), fun p hp => ?_⟩
    generalize hG : upd _ p _ = G
    obtain ⟨s3, e3⟩ := alloc hG hp
    exact Qk _ _ ((s1.trans s2).trans s3) ⟨p, r1, r2, rfl, .inl (.inl e3), (g1.keep s2).keep s3, g2.keep s3⟩

/-! ### onto a rail -/
def railC (p q m : Int) (x y : Rat) : Rat := ((p : Rat) * x + (q : Rat) * y) / ((m * (p * p + q * q) : Int) : Rat)
def sp_p_onto_rail (K : PySem.W.Frag) : Sp := fun vs H Q _ => ∃ (a : Addr) (v : V) (p q m : Int) (x y : Rat) (n : Nat), vs = [.ref a, v, .int m] ∧ SqT K H a [.int p, .int q] ∧ SpQ K H v x y ∧ Bd 21 p ∧ Bd 21 q ∧ ¬ (p = 0 ∧ q = 0) ∧ 0 < m ∧ Bd 21 m ∧ BdQ n x ∧ BdQ n y ∧ n ≤ 500 ∧ ∀ H' r, Same H H' → SpQ K H' r ((p : Rat) * railC p q m x y) ((q : Rat) * railC p q m x y) → Q r H'
theorem sq_pos {p q : Int} (h : ¬ (p = 0 ∧ q = 0)) : 0 < p * p + q * q := by
  have h1 : 0 ≤ p * p := by rw [← Int.natAbs_mul_self]; exact Int.natCast_nonneg _
  have h2 : 0 ≤ q * q := by rw [← Int.natAbs_mul_self]; exact Int.natCast_nonneg _
  rcases Int.lt_or_eq_of_le (Int.add_nonneg h1 h2) with z | z
  · exact z
  · refine absurd ⟨?_, ?_⟩ h
    · rcases Int.mul_eq_zero.mp (show p * p = 0 by omega) with e | e <;> exact e
    · rcases Int.mul_eq_zero.mp (show q * q = 0 by omega) with e | e <;> exact e
theorem BdQ.div {n m : Nat} {x : Rat} {k : Int} (h : BdQ n x) (hk : 0 < k) (bk : Bd m k) (hm : 0 < m) : BdQ (n + m) (x / (k : Rat)) := by
  rw [Rat.div_def]
  refine h.mul ?_
  obtain ⟨i1, i2⟩ := inv_rep (q := (k : Rat)) hk
  exact ⟨by rw [i1]; exact Nat.one_lt_two_pow (by omega), by rw [i2]; exact bk⟩
theorem int_ne0 {k : Int} (h : 0 < k) : (k : Rat) ≠ 0 := fun z => by
  have : k = 0 := by exact_mod_cast z
  omega
theorem ok_p_onto_rail (T : Tx K mg A) : FnOk P w K mg base CX0 4 A.f_p_onto_rail A.fd_p_onto_rail ["rail", "spot", "mass"] (sp_p_onto_rail K) := by
  refine T.F_p_onto_rail.ok sc_p_onto_rail (fun vs H Q E h => ?_) (fun cdv Ar outer s H vs Q E hr h => ?_)
  · obtain ⟨a, v, p, q, m, x, y, n, rfl, _⟩ := h
    rfl
  · obtain ⟨a, v, p, q, m, x, y, n, rfl, ha, hv, bp, bq, h0, hm, bm, bx, bY, hn, Qk⟩ := h
    refine ⟨_, (pss_cons (ps_asg (pv 0) (pg_tup rfl (pgs_cons (pg_name (i := 3) sc_p_onto_rail.nd rfl (.inl rfl)) (pgs_cons (pg_name (i := 4) sc_p_onto_rail.nd rfl (.inl rfl)) pgs_nil))))
    (pss_cons (ps_set (i := 5) sc_p_onto_rail.nd rfl (.inl rfl) (pe_call (ok_p_over T) (hr.mono (by decide)) (by rfl) T.g_p_over T.F_p_over.kp T.b_p_over .nil passL (pa_cons (pe_call (ok_p_along T) (hr.mono (by decide)) (by rfl) T.g_p_along T.F_p_along.kp T.b_p_along .nil pass0 (pa_cons (pv 0) (pa_cons (pv 1) pa_nil))) (pa_cons (pe_tup (pa_cons (pe_op op_mulW (pv 2) (pe_op op_add (pe_op op_mulW (pv 3) (pv 3)) (pe_op op_mulW (pv 4) (pv 4)))) (pa_cons pe_int pa_nil))) pa_nil))))
    (pss_one (ps_ret (pe_tup (pa_cons (pe_call (ok_p_times T) (hr.mono (by decide)) (by rfl) T.g_p_times T.F_p_times.kp T.b_p_times .nil pass0 (pa_cons (pe_tup (pa_cons (pv 3) (pa_cons pe_int pa_nil))) (pa_cons (pv 5) pa_nil))) (pa_cons (pe_call (ok_p_times T) (hr.mono (by decide)) (by rfl) T.g_p_times T.F_p_times.kp T.b_p_times .nil pass0 (pa_cons (pe_tup (pa_cons (pv 4) (pa_cons pe_int pa_nil))) (pa_cons (pv 5) pa_nil))) pa_nil))))))), ?_⟩
    have hsq := sq_pos h0
    have hN : 0 < m * (p * p + q * q) := Int.mul_pos hm hsq
    have bN : Bd 64 (m * (p * p + q * q)) := bm.mul ((bp.mul bp).add (bq.mul bq))
    refine ⟨_, rfl, a, _, rfl, ha, rfl, _, _, rfl, _, _, rfl, rfl, ?_⟩
    refine ⟨_, rfl, _, rfl, a, v, p, q, x, y, n, 21, rfl, ha, hv, bp, bq, bx, bY, by decide, by omega, by decide, fun H1 r1 s1 g1 => ?_⟩
    refine ⟨_, rfl, _, rfl, _, rfl, p, p, rfl, rfl, bp.mulW bp (by decide) (by decide), _, rfl, _, rfl, q, q, rfl, rfl, bq.mulW bq (by decide) (by decide), _, _, rfl, rfl, m, _, rfl, rfl, bm.mulW ((bp.mul bp).add (bq.mul bq)) (by decide) (by decide), size63 (show 2 ≤ 1000 by decide), fun a2 f2 => ?_⟩
    generalize hG2 : upd _ a2 _ = G2
    obtain ⟨s2, e2⟩ := alloc hG2 f2
    have bal : BdQ (21 + n + (21 + n) + 1) ((p : Rat) * x + (q : Rat) * y) := ((bdq_int bp (by decide)).mul bx).add ((bdq_int bq (by decide)).mul bY)
    refine ⟨r1, .ref a2, _, ((m * (p * p + q * q) : Int) : Rat), _, 64, rfl, g1.keep s2, ⟨a2, rfl, .inl (.inl e2)⟩, bal, bdq_int bN (by decide), by omega, by decide, (fun z => absurd z (int_ne0 hN)), fun _ H3 r3 s3 g3 => ?_⟩
    have bc : BdQ (21 + n + (21 + n) + 1 + 64) (railC p q m x y) := bal.div hN bN (by decide)
    refine ⟨_, rfl, size63 (show 2 ≤ 1000 by decide), fun a4 f4 => ?_⟩
    generalize hG4 : upd _ a4 _ = G4
    obtain ⟨s4, e4⟩ := alloc hG4 f4
    refine ⟨_, rfl, .ref a4, r3, (p : Rat), railC p q m x y, 21, _, rfl, ⟨a4, rfl, .inl (.inl e4)⟩, g3.keep s4, bdq_int bp (by decide), bc, by decide, by omega, fun H5 r5 s5 g5 => ?_⟩
    refine ⟨_, rfl, size63 (show 2 ≤ 1000 by decide), fun a6 f6 => ?_⟩
    generalize hG6 : upd _ a6 _ = G6
    obtain ⟨s6, e6⟩ := alloc hG6 f6
    refine ⟨_, rfl, .ref a6, r3, (q : Rat), railC p q m x y, 21, _, rfl, ⟨a6, rfl, .inl (.inl e6)⟩, ((g3.keep s4).keep s5).keep s6, bdq_int bq (by decide), bc, by decide, by omega, fun H7 r7 s7 g7 => ?_⟩
    refine ⟨size63 (show 2 ≤ 1000 by decide), fun a8 f8 => ?_⟩
    generalize hG8 : upd _ a8 _ = G8
    obtain ⟨s8, e8⟩ := alloc hG8 f8
    exact Qk _ _ (((((((s1.trans s2).trans s3).trans s4).trans s5).trans s6).trans s7).trans s8) ⟨a8, r5, r7, rfl, .inl (.inl e8), ((g5.keep s6).keep s7).keep s8, g7.keep s8⟩
/-! ### the bodies' objects -/
inductive Kn where
  | wall
  | free (m : Int)
  | rail (m p q : Int)
def Kn.mass : Kn → Int
  | .wall => 0
  | .free m => m
  | .rail m _ _ => m
def Kn.ans : Kn → Rat → Rat → Rat × Rat
  | .wall, _, _ => (0, 0)
  | .free m, x, y => (x * (m : Rat)⁻¹, y * (m : Rat)⁻¹)
  | .rail m p q, x, y => ((p : Rat) * railC p q m x y, (q : Rat) * railC p q m x y)
def Kn.kick : Kn → Rat → Rat → Rat × Rat
  | .wall, _, _ => (0, 0)
  | .free _, x, y => (x, y)
  | .rail _ p q, x, y => ((p : Rat) * railC p q 1 x y, (q : Rat) * railC p q 1 x y)
def Kn.may : Kn → Rat → Rat → Prop
  | .wall, x, y => x = 0 ∧ y = 0
  | .free _, _, _ => True
  | .rail _ p q, x, y => (p : Rat) * y - (q : Rat) * x = 0
def Kn.Ok : Kn → Prop
  | .wall => True
  | .free m => 0 < m ∧ Bd 21 m
  | .rail m p q => 0 < m ∧ Bd 21 m ∧ Bd 21 p ∧ Bd 21 q ∧ ¬ (p = 0 ∧ q = 0)
def Kn.cls (A : Ad) : Kn → Addr
  | .wall => A.c_Wall
  | .free _ => A.c_Free
  | .rail _ _ _ => A.c_Railed
def flds (ar : Addr) (nm : V) (m : Int) : List (Str × V) := putF "mass" (.int m) (putF "name" nm (putF "row" (.ref ar) []))
theorem n1 : ¬ (("row" : Str) = "mass") := by decide +kernel
theorem n2 : ¬ (("row" : Str) = "name") := by decide +kernel
theorem flds_row (ar : Addr) (nm : V) (m : Int) : (flds ar nm m).lookup ("row" : Str) = some (.ref ar) := by
  unfold flds
  rw [lookup_putF, if_neg n1, lookup_putF, if_neg n2, lookup_putF, if_pos rfl]
theorem flds_mass (ar : Addr) (nm : V) (m : Int) : (flds ar nm m).lookup ("mass" : Str) = some (.int m) := by
  unfold flds
  rw [lookup_putF, if_pos rfl]
theorem flds_no (ar : Addr) (nm : V) (m : Int) {f : Str} (h1 : ¬ f = "mass") (h2 : ¬ f = "name") (h3 : ¬ f = "row") : (flds ar nm m).lookup f = none := by
  unfold flds
  rw [lookup_putF, if_neg h1, lookup_putF, if_neg h2, lookup_putF, if_neg h3]
  all_goals rfl
/-- the rail's place in a row -/
def RailAt (K : PySem.W.Frag) (H : Hp) : Kn → V → Prop
  | .wall, v => v = .non
  | .free _, v => v = .non
  | .rail _ p q, v => ∃ a, v = .ref a ∧ SqT K H a [.int p, .int q]
def BodyAt (K : PySem.W.Frag) (A : Ad) (H : Hp) (v : V) (kn : Kn) (ar : Addr) : Prop := ∃ (b dx : Addr) (nm sh rl pl st : V), v = .ref b ∧ H b = some (.ins (kn.cls A) dx (flds ar nm kn.mass)) ∧ SqT K H ar [nm, sh, .int kn.mass, rl, pl, st] ∧ RailAt K H kn rl
theorem RailAt.keep {K : PySem.W.Frag} {H H' : Hp} {kn : Kn} {v : V} (h : RailAt K H kn v) (k : Same H H') : RailAt K H' kn v := by
  cases kn with
  | wall => exact h
  | free m => exact h
  | rail m p q =>
    obtain ⟨a, e, h⟩ := h
    exact ⟨a, e, Same.seqT k h⟩
theorem BodyAt.keep {K : PySem.W.Frag} {A : Ad} {H H' : Hp} {v : V} {kn : Kn} {ar : Addr} (h : BodyAt K A H v kn ar) (k : Same H H') : BodyAt K A H' v kn ar := by
  obtain ⟨b, dx, nm, sh, rl, pl, st, e, h1, h2, h3⟩ := h
  exact ⟨b, dx, nm, sh, rl, pl, st, e, k _ _ h1, Same.seqT k h2, h3.keep k⟩
def sp_init (K : PySem.W.Frag) : Sp := fun vs H Q _ => ∃ (x dx ar C : Addr) (nm sh rl pl st : V) (m : Int), vs = [.ref x, .ref ar] ∧ H x = some (.ins C dx []) ∧ SqT K H ar [nm, sh, .int m, rl, pl, st] ∧ Cls K C ∧ NoAttr K C "row" ∧ NoAttr K C "name" ∧ NoAttr K C "mass" ∧ ∀ H', (∀ b o, b ≠ x → H b = some o → H' b = some o) → H' x = some (.ins C dx (flds ar nm m)) → Q .non H'
theorem SqT.ins {K : PySem.W.Frag} {H : Hp} {a x C dx : Addr} {xs : List V} {fs : List (Str × V)} {o : HO} (h : SqT K H a xs) (hx : H x = some (.ins C dx fs)) : SqT K (upd H x o) a xs := by
  rcases h with (h | ⟨o', h⟩) | h
  · exact .inl (.inl (by rw [upd_ne (fun e => by rw [e, hx] at h; cases h)]; exact h))
  · exact .inl (.inr ⟨o', by rw [upd_ne (fun e => by rw [e, hx] at h; cases h)]; exact h⟩)
  · exact .inr h
theorem ok_m_Body___init__ (T : Tx K mg A) : FnOk P w K mg base CX0 1 A.f_m_Body___init__ A.fd_m_Body___init__ ["self", "row"] (sp_init K) := by
  refine T.F_m_Body___init__.ok sc_m_Body___init__ (fun vs H Q E h => ?_) (fun cdv Ar outer s H vs Q E hr h => ?_)
  · obtain ⟨x, dx, ar, C, nm, sh, rl, pl, st, m, rfl, _⟩ := h
    rfl
  · obtain ⟨x, dx, ar, C, nm, sh, rl, pl, st, m, rfl, hx, hA, cl, n1, n2, n3, q⟩ := h
    refine ⟨_, (pss_cons (ps_fld (pv 0) (pv 1) rfl)
    (pss_cons (ps_fld (pv 0) (pe_ix ix_tup (pv 1) pe_int (fun _ _ => rfl)) rfl)
    (pss_one (ps_fld (pv 0) (pe_ix ix_tup (pv 1) pe_int (fun _ _ => rfl)) rfl)))), ?_⟩
    refine ⟨_, rfl, _, rfl, x, C, dx, [], rfl, hx, cl, n1, (by show 0 < 1000; decide), ?_⟩
    have hA1 := SqT.ins (o := .ins C dx (putF "row" (.ref ar) [])) hA hx
    refine ⟨_, rfl, ar, _, 0, _, rfl, rfl, hA1, rfl, _, rfl, x, C, dx, _, rfl, upd_same, cl, n2, (by show 1 < 1000; decide), ?_⟩
    have hA2 := SqT.ins (o := .ins C dx (putF "name" nm (putF "row" (.ref ar) []))) hA1 upd_same
    refine ⟨_, rfl, ar, _, 2, _, rfl, rfl, hA2, rfl, _, rfl, x, C, dx, _, rfl, upd_same, cl, n3, ?_, ?_⟩
    · have e : (putF "name" nm (putF "row" (V.ref ar) [])).length ≤ 2 := by
        show (if ("row" : Str) = "name" then [(("name" : Str), nm)] else (("row" : Str), V.ref ar) :: putF "name" nm []).length ≤ 2
        rw [if_neg R.n2]
        exact Nat.le_refl 2
      omega
    · refine q _ (fun b o hb e => ?_) upd_same
      rw [upd_ne hb, upd_ne hb, upd_ne hb]
      exact e
/-! ### the methods -/
theorem still_at (T : Tx K mg A) (H : Hp) : SpQ K H (.ref A.n_STILL) 0 0 := by
  obtain ⟨b1, b2, t0, t1, t2⟩ := T.t_STILL
  exact ⟨_, _, _, rfl, t0 H, ⟨b1, rfl, t1 H⟩, ⟨b2, rfl, t2 H⟩⟩
def sp_ans (K : PySem.W.Frag) (A : Ad) (kn : Kn) (f : Rat → Rat → Rat × Rat) : Sp := fun vs H Q _ => ∃ (v u : V) (ar : Addr) (x y : Rat), vs = [v, u] ∧ kn.Ok ∧ BodyAt K A H v kn ar ∧ SpQ K H u x y ∧ BdQ 300 x ∧ BdQ 300 y ∧ ∀ H' r, Same H H' → SpQ K H' r (f x y).1 (f x y).2 → Q r H'
def sp_may (K : PySem.W.Frag) (A : Ad) (kn : Kn) : Sp := fun vs H Q _ => ∃ (v u : V) (ar : Addr) (x y : Rat), vs = [v, u] ∧ kn.Ok ∧ BodyAt K A H v kn ar ∧ SpQ K H u x y ∧ BdQ 1400 x ∧ BdQ 1400 y ∧ kn.may x y ∧ ∀ H', Same H H' → Q (.bl true) H'
theorem ok_m_Wall_answer (T : Tx K mg A) : FnOk P w K mg base CX0 8 A.f_m_Wall_answer A.fd_m_Wall_answer ["self", "push"] (sp_ans K A .wall (Kn.ans .wall)) := by
  refine T.F_m_Wall_answer.ok sc_m_Wall_answer (fun vs H Q E h => ?_) (fun cdv Ar outer s H vs Q E hr h => ?_)
  · obtain ⟨v, u, ar, x, y, rfl, _⟩ := h
    rfl
  · obtain ⟨v, u, ar, x, y, rfl, ok, hB, hu, bx, bY, q⟩ := h
    exact ⟨_, (pss_one (ps_ret (pe_glob (v := .ref A.n_STILL) (by rfl) T.g_STILL rfl))), q _ _ (Same.refl _) (still_at T _)⟩
theorem ok_m_Wall_kick (T : Tx K mg A) : FnOk P w K mg base CX0 8 A.f_m_Wall_kick A.fd_m_Wall_kick ["self", "pull"] (sp_ans K A .wall (Kn.kick .wall)) := by
  refine T.F_m_Wall_kick.ok sc_m_Wall_kick (fun vs H Q E h => ?_) (fun cdv Ar outer s H vs Q E hr h => ?_)
  · obtain ⟨v, u, ar, x, y, rfl, _⟩ := h
    rfl
  · obtain ⟨v, u, ar, x, y, rfl, ok, hB, hu, bx, bY, q⟩ := h
    exact ⟨_, (pss_one (ps_ret (pe_glob (v := .ref A.n_STILL) (by rfl) T.g_STILL rfl))), q _ _ (Same.refl _) (still_at T _)⟩
theorem ok_m_Wall_may (T : Tx K mg A) : FnOk P w K mg base CX0 8 A.f_m_Wall_may A.fd_m_Wall_may ["self", "speed"] (sp_may K A .wall) := by
  refine T.F_m_Wall_may.ok sc_m_Wall_may (fun vs H Q E h => ?_) (fun cdv Ar outer s H vs Q E hr h => ?_)
  · obtain ⟨v, u, ar, x, y, rfl, _⟩ := h
    rfl
  · obtain ⟨v, u, ar, x, y, rfl, ok, hB, hu, bx, bY, ⟨rfl, rfl⟩, q⟩ := h
    refine ⟨_, (pss_one (ps_ret (pe_cmpR (op_eqD hr.units) (pv 1) (pe_glob (v := .ref A.n_STILL) (by rfl) T.g_STILL rfl) (nomark _)))), ?_⟩
    refine ⟨_, rfl, _, _, hu.dp, (still_at T _).dp, shaped_sp _ _, shaped_sp _ _, ?_⟩
    rw [eqv_sp]
    exact q _ (Same.refl _)
theorem ok_m_Free_answer (T : Tx K mg A) (m : Int) : FnOk P w K mg base CX0 8 A.f_m_Free_answer A.fd_m_Free_answer ["self", "push"] (sp_ans K A (.free m) (Kn.ans (.free m))) := by
  refine T.F_m_Free_answer.ok sc_m_Free_answer (fun vs H Q E h => ?_) (fun cdv Ar outer s H vs Q E hr h => ?_)
  · obtain ⟨v, u, ar, x, y, rfl, _⟩ := h
    rfl
  · obtain ⟨v, u, ar, x, y, rfl, ok, ⟨b, dx, nm, sh, rl, pl, st, rfl, h1, h2, h3⟩, hu, bx, bY, q⟩ := h
    refine ⟨_, (pss_one (ps_ret (pe_call (ok_p_spot_times T) (hr.mono (by decide)) (by rfl) T.g_p_spot_times T.F_p_spot_times.kp T.b_p_spot_times .nil pass0 (pa_cons (pv 1) (pa_cons (pe_tup (pa_cons pe_int (pa_cons (pe_fld (pv 0) rfl) pa_nil))) pa_nil))))), ?_⟩
    refine ⟨_, rfl, _, rfl, b, A.c_Free, dx, _, _, rfl, h1, T.cl_Free, T.na_Free_mass, flds_mass _ _ _, size63 (show 2 ≤ 1000 by decide), fun p hp => ?_⟩
    generalize hG : upd _ p _ = G
    obtain ⟨s1, e1⟩ := alloc hG hp
    obtain ⟨i1, i2⟩ := inv_rep (q := (m : Rat)) ok.1
    refine ⟨u, .ref p, x, y, (m : Rat)⁻¹, 300, 21, rfl, hu.keep s1, ⟨p, rfl, .inl (.inl (show G p = some (.tup [.int ((m : Rat)⁻¹).num, .int (((m : Rat)⁻¹).den : Int)]) from by rw [e1, i1, i2]; rfl))⟩, bx, bY, ⟨by rw [i1]; exact (by unfold Bd; decide : Bd 21 ((1 : Nat) : Int)), by rw [i2]; exact ok.2⟩, by decide, by decide, fun H2 r s2 g => q _ _ (s1.trans s2) g⟩
theorem ok_m_Free_kick (T : Tx K mg A) (m : Int) : FnOk P w K mg base CX0 8 A.f_m_Free_kick A.fd_m_Free_kick ["self", "pull"] (sp_ans K A (.free m) (Kn.kick (.free m))) := by
  refine T.F_m_Free_kick.ok sc_m_Free_kick (fun vs H Q E h => ?_) (fun cdv Ar outer s H vs Q E hr h => ?_)
  · obtain ⟨v, u, ar, x, y, rfl, _⟩ := h
    rfl
  · obtain ⟨v, u, ar, x, y, rfl, ok, hB, hu, bx, bY, q⟩ := h
    exact ⟨_, (pss_one (ps_ret (pv 1))), _, rfl, q _ _ (Same.refl _) hu⟩
theorem ok_m_Free_may (T : Tx K mg A) (m : Int) : FnOk P w K mg base CX0 8 A.f_m_Free_may A.fd_m_Free_may ["self", "speed"] (sp_may K A (.free m)) := by
  refine T.F_m_Free_may.ok sc_m_Free_may (fun vs H Q E h => ?_) (fun cdv Ar outer s H vs Q E hr h => ?_)
  · obtain ⟨v, u, ar, x, y, rfl, _⟩ := h
    rfl
  · obtain ⟨v, u, ar, x, y, rfl, ok, hB, hu, bx, bY, _, q⟩ := h
    exact ⟨_, (pss_one (ps_ret pe_bl)), q _ (Same.refl _)⟩
theorem ok_m_Railed_answer (T : Tx K mg A) (m p q : Int) : FnOk P w K mg base CX0 8 A.f_m_Railed_answer A.fd_m_Railed_answer ["self", "push"] (sp_ans K A (.rail m p q) (Kn.ans (.rail m p q))) := by
  refine T.F_m_Railed_answer.ok sc_m_Railed_answer (fun vs H Q E h => ?_) (fun cdv Ar outer s H vs Q E hr h => ?_)
  · obtain ⟨v, u, ar, x, y, rfl, _⟩ := h
    rfl
  · obtain ⟨v, u, ar, x, y, rfl, ok, ⟨b, dx, nm, sh, rl, pl, st, rfl, h1, h2, h3⟩, hu, bx, bY, Qk⟩ := h
    obtain ⟨al, rfl, hl⟩ := h3
    refine ⟨_, (pss_one (ps_ret (pe_call (ok_p_onto_rail T) (hr.mono (by decide)) (by rfl) T.g_p_onto_rail T.F_p_onto_rail.kp T.b_p_onto_rail .nil pass0 (pa_cons (pe_ix ix_tup (pe_fld (pv 0) rfl) pe_int (fun _ _ => rfl)) (pa_cons (pv 1) (pa_cons (pe_fld (pv 0) rfl) pa_nil)))))), ?_⟩
    refine ⟨_, rfl, b, A.c_Railed, dx, _, _, rfl, h1, T.cl_Railed, T.na_Railed_row, flds_row _ _ _, ar, _, 3, _, rfl, rfl, h2, rfl, _, rfl, _, rfl, b, A.c_Railed, dx, _, _, rfl, h1, T.cl_Railed, T.na_Railed_mass, flds_mass _ _ _, al, u, p, q, m, x, y, 300, rfl, hl, hu, ok.2.2.1, ok.2.2.2.1, ok.2.2.2.2, ok.1, ok.2.1, bx, bY, by decide, fun H' r s' g => Qk _ _ s' g⟩
theorem ok_m_Railed_kick (T : Tx K mg A) (m p q : Int) : FnOk P w K mg base CX0 8 A.f_m_Railed_kick A.fd_m_Railed_kick ["self", "pull"] (sp_ans K A (.rail m p q) (Kn.kick (.rail m p q))) := by
  refine T.F_m_Railed_kick.ok sc_m_Railed_kick (fun vs H Q E h => ?_) (fun cdv Ar outer s H vs Q E hr h => ?_)
  · obtain ⟨v, u, ar, x, y, rfl, _⟩ := h
    rfl
  · obtain ⟨v, u, ar, x, y, rfl, ok, ⟨b, dx, nm, sh, rl, pl, st, rfl, h1, h2, h3⟩, hu, bx, bY, Qk⟩ := h
    obtain ⟨al, rfl, hl⟩ := h3
    refine ⟨_, (pss_one (ps_ret (pe_call (ok_p_onto_rail T) (hr.mono (by decide)) (by rfl) T.g_p_onto_rail T.F_p_onto_rail.kp T.b_p_onto_rail .nil pass0 (pa_cons (pe_ix ix_tup (pe_fld (pv 0) rfl) pe_int (fun _ _ => rfl)) (pa_cons (pv 1) (pa_cons pe_int pa_nil)))))), ?_⟩
    refine ⟨_, rfl, b, A.c_Railed, dx, _, _, rfl, h1, T.cl_Railed, T.na_Railed_row, flds_row _ _ _, ar, _, 3, _, rfl, rfl, h2, rfl, _, rfl, al, u, p, q, 1, x, y, 300, rfl, hl, hu, ok.2.2.1, ok.2.2.2.1, ok.2.2.2.2, by decide, by unfold Bd; decide, bx, bY, by decide, fun H' r s' g => Qk _ _ s' g⟩
theorem ok_m_Railed_may (T : Tx K mg A) (m p q : Int) : FnOk P w K mg base CX0 8 A.f_m_Railed_may A.fd_m_Railed_may ["self", "speed"] (sp_may K A (.rail m p q)) := by
  refine T.F_m_Railed_may.ok sc_m_Railed_may (fun vs H Q E h => ?_) (fun cdv Ar outer s H vs Q E hr h => ?_)
  · obtain ⟨v, u, ar, x, y, rfl, _⟩ := h
    rfl
  · obtain ⟨v, u, ar, x, y, rfl, ok, ⟨b, dx, nm, sh, rl, pl, st, rfl, h1, h2, h3⟩, hu, bx, bY, hm, Qk⟩ := h
    obtain ⟨al, rfl, hl⟩ := h3
    refine ⟨_, (pss_one (ps_ret (pe_cmpR (op_eqD hr.units) (pe_call (ok_p_across T) (hr.mono (by decide)) (by rfl) T.g_p_across T.F_p_across.kp T.b_p_across .nil pass0 (pa_cons (pe_ix ix_tup (pe_fld (pv 0) rfl) pe_int (fun _ _ => rfl)) (pa_cons (pv 1) pa_nil))) (pe_glob (v := .ref A.n_NOUGHT) (by rfl) T.g_NOUGHT rfl) (nomark _)))), ?_⟩
    refine ⟨_, rfl, b, A.c_Railed, dx, _, _, rfl, h1, T.cl_Railed, T.na_Railed_row, flds_row _ _ _, ar, _, 3, _, rfl, rfl, h2, rfl, _, rfl, al, u, p, q, x, y, 1400, 21, rfl, hl, hu, ok.2.2.1, ok.2.2.2.1, bx, bY, by decide, by decide, by decide, fun H' r s' g => ?_⟩
    have hm' : (p : Rat) * y - (q : Rat) * x = 0 := hm
    have g' : ShQ K H' r ((p : Rat) * y - (q : Rat) * x) := g
    rw [hm'] at g'
    refine ⟨_, _, g'.dp, .tup (T.t_NOUGHT _) (.cons (.int 0) (.cons (.int 1) .nil)), rfl, rfl, ?_⟩
    exact Qk _ s'
/-- what the body's class has -/
structure Bk (P : Program) (w : World) (K : PySem.W.Frag) (mg : Str → Option Value) (base : Heap) (A : Ad) (kn : Kn) (fa fk fm : Addr) (da dk dm : FuncData) : Prop where
  cl : Cls K (kn.cls A)
  m_answer : Meth K (kn.cls A) "answer" fa
  m_kick : Meth K (kn.cls A) "kick" fk
  m_may : Meth K (kn.cls A) "may" fm
  g_answer : FnOk P w K mg base CX0 8 fa da ["self", "push"] (sp_ans K A kn kn.ans)
  g_kick : FnOk P w K mg base CX0 8 fk dk ["self", "pull"] (sp_ans K A kn kn.kick)
  g_may : FnOk P w K mg base CX0 8 fm dm ["self", "speed"] (sp_may K A kn)
  b_answer : Binds K da ["self", "push"] []
  b_kick : Binds K dk ["self", "pull"] []
  b_may : Binds K dm ["self", "speed"] []
  n_row : NoAttr K (kn.cls A) "row"
theorem bk_of (T : Tx K mg A) (kn : Kn) : ∃ fa fk fm da dk dm, Bk P w K mg base A kn fa fk fm da dk dm := by
  cases kn with
  | wall => exact ⟨_, _, _, _, _, _, ⟨T.cl_Wall, T.mt_m_Wall_answer, T.mt_m_Wall_kick, T.mt_m_Wall_may, ok_m_Wall_answer T, ok_m_Wall_kick T, ok_m_Wall_may T, T.b_m_Wall_answer, T.b_m_Wall_kick, T.b_m_Wall_may, T.na_Wall_row⟩⟩
  | free m => exact ⟨_, _, _, _, _, _, ⟨T.cl_Free, T.mt_m_Free_answer, T.mt_m_Free_kick, T.mt_m_Free_may, ok_m_Free_answer T m, ok_m_Free_kick T m, ok_m_Free_may T m, T.b_m_Free_answer, T.b_m_Free_kick, T.b_m_Free_may, T.na_Free_row⟩⟩
  | rail m p q => exact ⟨_, _, _, _, _, _, ⟨T.cl_Railed, T.mt_m_Railed_answer, T.mt_m_Railed_kick, T.mt_m_Railed_may, ok_m_Railed_answer T m p q, ok_m_Railed_kick T m p q, ok_m_Railed_may T m p q, T.b_m_Railed_answer, T.b_m_Railed_kick, T.b_m_Railed_may, T.na_Railed_row⟩⟩
def sp_p_body_of (K : PySem.W.Frag) (A : Ad) : Sp := fun vs H Q _ => ∃ (ar : Addr) (kn : Kn) (nm sh rl pl st : V), vs = [.ref ar] ∧ SqT K H ar [nm, sh, .int kn.mass, rl, pl, st] ∧ RailAt K H kn rl ∧ kn.Ok ∧ ∀ H' v, Same H H' → BodyAt K A H' v kn ar → Q v H'
theorem made {A : Ad} {H H' : Hp} {kn : Kn} {x dx ar : Addr} {nm sh rl pl st : V} (hA : SqT K H ar [nm, sh, .int kn.mass, rl, pl, st]) (hr : RailAt K H kn rl) (hx : H x = none) (hdx : H dx = none) (hk : ∀ b o, b ≠ x → (upd (upd H dx (.own x)) x (.ins (kn.cls A) dx [])) b = some o → H' b = some o) (e : H' x = some (.ins (kn.cls A) dx (flds ar nm kn.mass))) : Same H H' ∧ BodyAt K A H' (.ref x) kn ar := by
  have s : Same H H' := fun b o h => hk b o (ne_of_none h hx) (by
    rw [upd_ne (ne_of_none h hx), upd_ne (ne_of_none h hdx)]
    exact h)
  exact ⟨s, x, dx, nm, sh, rl, pl, st, rfl, e, Same.seqT s hA, hr.keep s⟩
theorem ok_p_body_of (T : Tx K mg A) : FnOk P w K mg base CX0 3 A.f_p_body_of A.fd_p_body_of ["row"] (sp_p_body_of K A) := by
  refine T.F_p_body_of.ok sc_p_body_of (fun vs H Q E h => ?_) (fun cdv Ar outer s H vs Q E hr h => ?_)
  · obtain ⟨ar, kn, nm, sh, rl, pl, st, rfl, _⟩ := h
    rfl
  · obtain ⟨ar, kn, nm, sh, rl, pl, st, rfl, hA, hR, ok, q⟩ := h
    refine ⟨_, (pss_cons (ps_asg (pv 0) (pg_tup rfl (pgs_cons (pg_name (i := 1) sc_p_body_of.nd rfl (.inl rfl)) (pgs_cons (pg_name (i := 2) sc_p_body_of.nd rfl (.inl rfl)) (pgs_cons (pg_name (i := 3) sc_p_body_of.nd rfl (.inl rfl)) (pgs_cons (pg_name (i := 4) sc_p_body_of.nd rfl (.inl rfl)) (pgs_cons (pg_name (i := 5) sc_p_body_of.nd rfl (.inl rfl)) (pgs_cons (pg_name (i := 6) sc_p_body_of.nd rfl (.inl rfl)) pgs_nil))))))))
    (pss_cons (ps_if (pt_cmpR op_eq (pv 3) pe_int (nomark _))
      (pss_one (ps_ret (pe_make T.mk_Wall (ok_m_Body___init__ T) (hr.mono (by decide)) (by rfl) T.g_Wall T.b_m_Body___init__ .nil pass0 (pa_cons (pv 0) pa_nil))))
      pss_nil)
    (pss_cons (ps_if (pt_cmpR op_isN (pv 4) pe_non (nomark _))
      (pss_one (ps_ret (pe_make T.mk_Free (ok_m_Body___init__ T) (hr.mono (by decide)) (by rfl) T.g_Free T.b_m_Body___init__ .nil pass0 (pa_cons (pv 0) pa_nil))))
      pss_nil)
    (pss_one (ps_ret (pe_make T.mk_Railed (ok_m_Body___init__ T) (hr.mono (by decide)) (by rfl) T.g_Railed T.b_m_Body___init__ .nil pass0 (pa_cons (pv 0) pa_nil))))))), ?_⟩
    have two : ∀ {x dx : Addr} {o1 o2 : HO}, H x = none → H dx = none → Same H (upd (upd H dx o1) x o2) := fun {x dx o1 o2} hx hdx b o h => by
      rw [upd_ne (ne_of_none h hx), upd_ne (ne_of_none h hdx)]
      exact h
    refine ⟨_, rfl, ar, _, rfl, hA, rfl, _, _, rfl, _, _, rfl, _, _, rfl, _, _, rfl, _, _, rfl, _, _, rfl, rfl, ?_⟩
    refine ⟨_, rfl, rfl, _, rfl, ?_⟩
    cases kn with
    | wall =>
      refine ite2 (fun _ => ⟨_, rfl, fun x dx hx hdx _ => ⟨x, dx, ar, A.c_Wall, nm, sh, rl, pl, st, 0, rfl, upd_same, Same.seqT (two hx hdx) hA, T.cl_Wall, T.na_Wall_row, T.na_Wall_name, T.na_Wall_mass, fun H' hk e => ⟨rfl, ?_⟩⟩⟩) (fun e => absurd (decide_eq_true rfl) e)
      obtain ⟨s', hB⟩ := made (A := A) (kn := .wall) hA hR hx hdx hk e
      exact q _ _ s' hB
    | free m =>
      have hm : ¬ (V.int m = V.int 0) := fun z => by
        have h1 := V.int.inj z
        have h2 : 0 < m := ok.1
        omega
      refine ite2 (fun e => absurd (of_decide_eq_true e) hm) (fun _ => ?_)
      obtain rfl : rl = .non := hR
      refine ⟨_, rfl, rfl, _, rfl, ite2 (fun _ => ⟨_, rfl, fun x dx hx hdx _ => ⟨x, dx, ar, A.c_Free, nm, sh, .non, pl, st, m, rfl, upd_same, Same.seqT (two hx hdx) hA, T.cl_Free, T.na_Free_row, T.na_Free_name, T.na_Free_mass, fun H' hk e => ⟨rfl, ?_⟩⟩⟩) (fun e => absurd (decide_eq_true rfl) e)⟩
      obtain ⟨s', hB⟩ := made (A := A) (kn := .free m) hA (show RailAt K H (.free m) .non from rfl) hx hdx hk e
      exact q _ _ s' hB
    | rail m p' q' =>
      have hm : ¬ (V.int m = V.int 0) := fun z => by
        have h1 := V.int.inj z
        have h2 : 0 < m := ok.1
        omega
      refine ite2 (fun e => absurd (of_decide_eq_true e) hm) (fun _ => ?_)
      have hR' := hR
      obtain ⟨al, rfl, hl⟩ := hR
      refine ⟨_, rfl, rfl, _, rfl, ite2 (fun e => nomatch (of_decide_eq_true e)) (fun _ => ⟨_, rfl, fun x dx hx hdx _ => ⟨x, dx, ar, A.c_Railed, nm, sh, .ref al, pl, st, m, rfl, upd_same, Same.seqT (two hx hdx) hA, T.cl_Railed, T.na_Railed_row, T.na_Railed_name, T.na_Railed_mass, fun H' hk e => ⟨rfl, ?_⟩⟩⟩)⟩
      obtain ⟨s', hB⟩ := made (A := A) (kn := .rail m p' q') hA hR' hx hdx hk e
      exact q _ _ s' hB
/-! CUT0 -/
def sp_l_part (K : PySem.W.Frag) : Sp := fun vs H Q _ => ∃ (a b : Int) (n : Nat), vs = [.int a, .int b] ∧ 0 < b ∧ Bd n b ∧ n < 9000 ∧ ∀ H' r, Same H H' → ShQ K H' r (Rat.divInt a b) → Q r H'
theorem ok_l_part (T : Tx K mg A) : FnOk P w K mg base CX0 2 A.f_l_part A.fd_l_part ["_law_top", "_law_bottom"] (sp_l_part K) := by
  refine T.F_l_part.ok sc_l_part (fun vs H Q E h => ?_) (fun cdv Ar outer s H vs Q E hr h => ?_)
  · obtain ⟨a, b, n, rfl, _⟩ := h
    rfl
  · obtain ⟨a, b, n, rfl, hb, bb, hn, q⟩ := h
    refine ⟨_, (pss_cons (ps_set (i := 2) sc_l_part.nd rfl (.inl rfl) (pe_call (ok_l_gcd T) (hr.mono (by decide)) (by rfl) T.g_l_gcd T.F_l_gcd.kp T.b_l_gcd .nil pass0 (pa_cons (pv 0) (pa_cons (pv 1) pa_nil))))
    (pss_one (ps_ret (pe_tup (pa_cons (pe_op op_fdivW (pv 0) (pv 2)) (pa_cons (pe_op op_fdivW (pv 1) (pv 2)) pa_nil)))))), ?_⟩
    obtain ⟨h1, h2, _, _⟩ := low_is (a := a) (b := b) hb
    have hg : Bd n (gcdI a b) := gcdI_bd bb (by omega)
    have hg0 : 0 < gcdI a b := gcdI_pos (by omega)
    refine ⟨_, rfl, _, rfl, a, b, rfl, ?_⟩
    refine ⟨_, rfl, _, rfl, _, _, rfl, rfl, hg.divW hg0 hn, _, rfl, _, rfl, _, _, rfl, rfl, hg.divW hg0 hn, size63 (show 2 ≤ 1000 by decide), fun p hp => ?_⟩
    generalize hG : upd _ p _ = G
    obtain ⟨s, e⟩ := alloc hG hp
    exact q _ _ s (shq_new e h1 (by omega) h2)
def sp_l_whole : Sp := fun vs H Q _ => ∃ i : Int, vs = [.int i] ∧ Q (.bl true) H
theorem ok_l_whole (T : Tx K mg A) : FnOk P w K mg base CX0 1 A.f_l_whole A.fd_l_whole ["_law_thing"] sp_l_whole := by
  refine T.F_l_whole.ok sc_l_whole (fun vs H Q E h => ?_) (fun cdv Ar outer s H vs Q E hr h => ?_)
  · obtain ⟨i, rfl, _⟩ := h
    rfl
  · obtain ⟨i, rfl, q⟩ := h
    refine ⟨_, (pss_one (ps_ret (pe_and (pe_callB call_isi (by rfl) T.m_isinstance (by decide +kernel) (pa_cons (pv 0) (pa_cons (pe_bltn (v := .ty "int") (by rfl) T.m_int (by decide +kernel) rfl) pa_nil))) (pe_one (pe_not (pe_callB call_isi (by rfl) T.m_isinstance (by decide +kernel) (pa_cons (pv 0) (pa_cons (pe_bltn (v := .ty "bool") (by rfl) T.m_bool (by decide +kernel) rfl) pa_nil)))))))), ?_⟩
    exact ⟨_, rfl, _, _, _, _, true, rfl, .ty _, .base (.int i), kit_ty (by decide +kernel), true, rfl, iteT ⟨_, rfl, _, _, _, _, false, rfl, .ty _, .base (.int i), kit_ty (by decide +kernel), false, rfl, q⟩⟩
theorem small_log {m : Int} (h0 : 0 < m) (h1 : m ≤ 4000000) : m.natAbs.log2 < 9000 := by
  have e : (2 : Nat) ^ 22 = 4194304 := by decide
  exact Nat.lt_of_lt_of_le (log2_lt (k := 22) (by omega) (by decide)) (by decide)
def sp_l_number (K : PySem.W.Frag) : Sp := fun vs H Q _ => ∃ (d b : Addr) (c n : Int), vs = [.ref d, .int n] ∧ Deck K H d b c ∧ c < 900000 ∧ 0 ≤ n ∧ n ≤ 1000000 ∧ ∀ H' r, Deck K H' d b (c + 2) → Kp d b H H' → -n ≤ r → r ≤ n → Q (.int r) H'
theorem ok_l_number (T : Tx K mg A) : FnOk P w K mg base CX0 4 A.f_l_number A.fd_l_number ["_law_deck_here", "_law_span"] (sp_l_number K) := by
  refine T.F_l_number.ok sc_l_number (fun vs H Q E h => ?_) (fun cdv Ar outer s H vs Q E hr h => ?_)
  · obtain ⟨d, b, c, n, rfl, _⟩ := h
    rfl
  · obtain ⟨d, b, c, n, rfl, hD, hc, h0, h1, q⟩ := h
    refine ⟨_, (pss_one (ps_ret (pe_op op_sub (pe_op op_mod (pe_op op_add (pe_op op_mul pe_int (pe_call (ok_l_take T) (hr.mono (by decide)) (by rfl) T.g_l_take T.F_l_take.kp T.b_l_take .nil pass0 (pa_cons (pv 0) (pa_cons (pe_op op_add (pe_op op_mul pe_int (pv 1)) pe_int) pa_nil)))) (pe_call (ok_l_take T) (hr.mono (by decide)) (by rfl) T.g_l_take T.F_l_take.kp T.b_l_take .nil pass0 (pa_cons (pv 0) (pa_cons pe_int pa_nil)))) (pe_op op_add (pe_op op_mul pe_int (pv 1)) pe_int)) (pv 1)))), ?_⟩
    refine ⟨_, rfl, _, rfl, 2, n, rfl, rfl, .inl (by decide), _, _, rfl, rfl, d, b, c, 2 * n + 1, rfl, hD, by omega, by omega, ?_, fun H1 r1 D1 k1 l1 u1 => ?_⟩
    · exact small_log (by omega) (by omega)
    · refine ⟨10007, r1, rfl, rfl, .inl (by decide), _, rfl, d, b, c + 1, 10007, rfl, D1, by omega, by decide, by decide, fun H2 r2 D2 k2 l2 u2 => ?_⟩
      refine ⟨_, _, rfl, rfl, _, rfl, 2, n, rfl, rfl, .inl (by decide), _, _, rfl, rfl, _, 2 * n + 1, rfl, rfl, (show (0 : Int) < 2 * n + 1 by omega), _, rfl, _, n, rfl, rfl, ?_⟩
      have m0 := Int.emod_nonneg (10007 * r1 + r2) (show 2 * n + 1 ≠ 0 by omega)
      have m1 := Int.emod_lt_of_pos (10007 * r1 + r2) (show 0 < 2 * n + 1 by omega)
      exact q _ _ (D2.le (by omega)) (k1.trans k2) (by omega) (by omega)
def sp_l_drawn (K : PySem.W.Frag) : Sp := fun vs H Q _ => ∃ (d b : Addr) (c : Int), vs = [.ref d] ∧ Deck K H d b c ∧ c < 800000 ∧ ∀ H' r q, Deck K H' d b (c + 6) → Kp d b H H' → ShQ K H' r q → BdQ 101 q → Q r H'
theorem ok_l_drawn (T : Tx K mg A) : FnOk P w K mg base CX0 5 A.f_l_drawn A.fd_l_drawn ["_law_deck_here"] (sp_l_drawn K) := by
  refine T.F_l_drawn.ok sc_l_drawn (fun vs H Q E h => ?_) (fun cdv Ar outer s H vs Q E hr h => ?_)
  · obtain ⟨d, b, c, rfl, _⟩ := h
    rfl
  · obtain ⟨d, b, c, rfl, hD, hc, q⟩ := h
    refine ⟨_, (pss_cons (ps_set (i := 1) sc_l_drawn.nd rfl (.inl rfl) (pe_ix ix_list (pe_lst (pa_cons pe_int (pa_cons pe_int (pa_cons (pe_op op_pow pe_int pe_int) (pa_cons (pe_op op_pow pe_int pe_int) pa_nil))))) (pe_call (ok_l_take T) (hr.mono (by decide)) (by rfl) T.g_l_take T.F_l_take.kp T.b_l_take .nil pass0 (pa_cons (pv 0) (pa_cons pe_int pa_nil))) (fun _ _ => rfl)))
    (pss_cons (ps_set (i := 2) sc_l_drawn.nd rfl (.inl rfl) (pe_op op_sub (pe_op op_mod (pe_op op_mul (pe_call (ok_l_number T) (hr.mono (by decide)) (by rfl) T.g_l_number T.F_l_number.kp T.b_l_number .nil pass0 (pa_cons (pv 0) (pa_cons (pe_op op_pow pe_int pe_int) pa_nil))) (pe_op op_pow (pe_op op_add pe_int (pe_call (ok_l_take T) (hr.mono (by decide)) (by rfl) T.g_l_take T.F_l_take.kp T.b_l_take .nil pass0 (pa_cons (pv 0) (pa_cons (pe_op op_pow pe_int pe_int) pa_nil)))) pe_int)) (pe_op op_add (pe_op op_mul pe_int (pv 1)) pe_int)) (pv 1)))
    (pss_one (ps_ret (pe_call (ok_l_part T) (hr.mono (by decide)) (by rfl) T.g_l_part T.F_l_part.kp T.b_l_part .nil pass0 (pa_cons (pv 2) (pa_cons (pe_op op_add pe_int (pe_call (ok_l_take T) (hr.mono (by decide)) (by rfl) T.g_l_take T.F_l_take.kp T.b_l_take .nil pass0 (pa_cons (pv 0) (pa_cons (pe_ix ix_list (pe_lst (pa_cons pe_int (pa_cons pe_int (pa_cons pe_int (pa_cons (pe_op op_pow pe_int pe_int) pa_nil))))) (pe_call (ok_l_take T) (hr.mono (by decide)) (by rfl) T.g_l_take T.F_l_take.kp T.b_l_take .nil pass0 (pa_cons (pv 0) (pa_cons pe_int pa_nil))) (fun _ _ => rfl)) pa_nil)))) pa_nil))))))), ?_⟩
    refine ⟨10, 6, rfl, rfl, ⟨by decide, by decide, by decide⟩, 10, 30, rfl, rfl, ⟨by decide, by decide, by decide⟩, size63 (show 4 ≤ 1000 by decide), fun p hp => ?_⟩
    generalize hG : upd _ p _ = G
    obtain ⟨s1, e1⟩ := alloc hG hp
    refine ⟨_, rfl, d, b, c, 4, rfl, hD.keep s1, by omega, by decide, by decide, fun H2 r2 D2 k2 l2 u2 => ?_⟩
    have e2 := k2 _ _ (hD.ne_d hp) (hD.ne_b hp) e1
    obtain ⟨far, hf0, hf1, hat⟩ : ∃ far : Int, 1 ≤ far ∧ far ≤ 1000000000000000000000000000000 ∧ atI [V.int 1, V.int 9, V.int (10 ^ Int.toNat 6), V.int (10 ^ Int.toNat 30)] r2 = some (V.int far) := by
      obtain rfl | rfl | rfl | rfl : r2 = 0 ∨ r2 = 1 ∨ r2 = 2 ∨ r2 = 3 := by omega
      · exact ⟨1, by decide, by decide, rfl⟩
      · exact ⟨9, by decide, by decide, rfl⟩
      · exact ⟨10 ^ Int.toNat 6, by decide, by decide, rfl⟩
      · exact ⟨10 ^ Int.toNat 30, by decide, by decide, rfl⟩
    refine ⟨p, _, r2, _, rfl, rfl, SqL.of e2, hat, ?_⟩
    refine ⟨_, rfl, 10, 6, rfl, rfl, ⟨by decide, by decide, by decide⟩, d, b, c + 1, 1000000, rfl, D2, by omega, by decide, by decide, fun H3 r3 D3 k3 l3 u3 => ?_⟩
    refine ⟨_, rfl, 10, 6, rfl, rfl, ⟨by decide, by decide, by decide⟩, d, b, c + 3, 1000000, rfl, D3.le (by omega), by omega, by decide, by decide, fun H4 r4 D4 k4 l4 u4 => ?_⟩
    refine ⟨1, r4, rfl, rfl, 1 + r4, 5, rfl, rfl, ⟨by decide, by decide, by omega⟩, r3, _, rfl, rfl, .inl ⟨by omega, by omega⟩, _, rfl, 2, far, rfl, rfl, .inl (by decide), _, _, rfl, rfl, _, 2 * far + 1, rfl, rfl, (show (0 : Int) < 2 * far + 1 by omega), _, rfl, _, far, rfl, rfl, ?_⟩
    have m0 := Int.emod_nonneg (r3 * (1 + r4) ^ Int.toNat 5) (show 2 * far + 1 ≠ 0 by omega)
    have m1 := Int.emod_lt_of_pos (r3 * (1 + r4) ^ Int.toNat 5) (show 0 < 2 * far + 1 by omega)
    have bnum : Bd 101 (r3 * (1 + r4) ^ Int.toNat 5 % (2 * far + 1) - far) := by
      unfold Bd
      have e101 : (2 : Nat) ^ 101 = 2535301200456458802993406410752 := by decide
      omega
    refine ⟨_, rfl, _, rfl, 10, 6, rfl, rfl, ⟨by decide, by decide, by decide⟩, size63 (show 4 ≤ 1000 by decide), fun p5 hp5 => ?_⟩
    generalize hG5 : upd _ p5 _ = G5
    obtain ⟨s5, e5⟩ := alloc hG5 hp5
    refine ⟨_, rfl, d, b, c + 4, 4, rfl, (D4.keep s5).le (by omega), by omega, by decide, by decide, fun H6 r6 D6 k6 l6 u6 => ?_⟩
    have e6 := k6 _ _ (D4.ne_d hp5) (D4.ne_b hp5) e5
    obtain ⟨lo, hl0, hl1, hat6⟩ : ∃ lo : Int, 1 ≤ lo ∧ lo ≤ 1000000 ∧ atI [V.int 1, V.int 2, V.int 60, V.int (10 ^ Int.toNat 6)] r6 = some (V.int lo) := by
      obtain rfl | rfl | rfl | rfl : r6 = 0 ∨ r6 = 1 ∨ r6 = 2 ∨ r6 = 3 := by omega
      · exact ⟨1, by decide, by decide, rfl⟩
      · exact ⟨2, by decide, by decide, rfl⟩
      · exact ⟨60, by decide, by decide, rfl⟩
      · exact ⟨10 ^ Int.toNat 6, by decide, by decide, rfl⟩
    refine ⟨p5, _, r6, _, rfl, rfl, SqL.of e6, hat6, d, b, c + 5, lo, rfl, D6.le (by omega), by omega, by omega, ?_, fun H7 r7 D7 k7 l7 u7 => ?_⟩
    · exact small_log (by omega) (by omega)
    · have bd7 : Bd 101 (1 + r7) := by
        unfold Bd
        have e101 : (2 : Nat) ^ 101 = 2535301200456458802993406410752 := by decide
        omega
      refine ⟨1, r7, rfl, rfl, _, 1 + r7, 101, rfl, by omega, bd7, by decide, fun H8 r8 s8 g8 => ?_⟩
      exact q _ _ _ ((D7.keep s8).le (by omega)) ((((((((Kp.same s1).trans k2).trans k3).trans k4).trans (Kp.same s5)).trans k6).trans k7).trans (Kp.same s8)) g8 (divInt_bd (by omega) bnum bd7)
def sp_l_line (K : PySem.W.Frag) : Sp := fun vs H Q _ => ∃ (d b : Addr) (c : Int), vs = [.ref d] ∧ Deck K H d b c ∧ c < 700000 ∧ ∀ H' a p q, Deck K H' d b (c + 6) → Kp d b H H' → H' a = some (.tup [.int p, .int q]) → Bd 21 p → Bd 21 q → ¬ (p = 0 ∧ q = 0) → Q (.ref a) H'
theorem pick3 {r : Int} (h0 : 0 ≤ r) (h1 : r < 3) : ∃ n : Int, 0 ≤ n ∧ n ≤ 1000000 ∧ atI [V.int 1, V.int 5, V.int 1000000] r = some (V.int n) := by
  obtain rfl | rfl | rfl : r = 0 ∨ r = 1 ∨ r = 2 := by omega
  · exact ⟨1, by decide, by decide, rfl⟩
  · exact ⟨5, by decide, by decide, rfl⟩
  · exact ⟨1000000, by decide, by decide, rfl⟩
theorem bd21 {r n : Int} (h1 : n ≤ 1000000) (h2 : -n ≤ r) (h3 : r ≤ n) : Bd 21 r := by
  unfold Bd
  have : (2 : Nat) ^ 21 = 2097152 := by decide
  omega
theorem ok_l_line (T : Tx K mg A) : FnOk P w K mg base CX0 5 A.f_l_line A.fd_l_line ["_law_deck_here"] (sp_l_line K) := by
  refine T.F_l_line.ok sc_l_line (fun vs H Q E h => ?_) (fun cdv Ar outer s H vs Q E hr h => ?_)
  · obtain ⟨d, b, c, rfl, _⟩ := h
    rfl
  · obtain ⟨d, b, c, rfl, hD, hc, Qk⟩ := h
    refine ⟨_, (pss_cons (ps_set (i := 1) sc_l_line.nd rfl (.inl rfl) (pe_call (ok_l_number T) (hr.mono (by decide)) (by rfl) T.g_l_number T.F_l_number.kp T.b_l_number .nil pass0 (pa_cons (pv 0) (pa_cons (pe_ix ix_list (pe_lst (pa_cons pe_int (pa_cons pe_int (pa_cons pe_int pa_nil)))) (pe_call (ok_l_take T) (hr.mono (by decide)) (by rfl) T.g_l_take T.F_l_take.kp T.b_l_take .nil pass0 (pa_cons (pv 0) (pa_cons pe_int pa_nil))) (fun _ _ => rfl)) pa_nil))))
    (pss_cons (ps_set (i := 2) sc_l_line.nd rfl (.inl rfl) (pe_call (ok_l_number T) (hr.mono (by decide)) (by rfl) T.g_l_number T.F_l_number.kp T.b_l_number .nil pass0 (pa_cons (pv 0) (pa_cons (pe_ix ix_list (pe_lst (pa_cons pe_int (pa_cons pe_int (pa_cons pe_int pa_nil)))) (pe_call (ok_l_take T) (hr.mono (by decide)) (by rfl) T.g_l_take T.F_l_take.kp T.b_l_take .nil pass0 (pa_cons (pv 0) (pa_cons pe_int pa_nil))) (fun _ _ => rfl)) pa_nil))))
    (pss_cons (ps_if (PW.pt (pw_and (pt_cmpR op_eq (pv 1) pe_int (nomark _)) (pw_and1 (pt_cmpR op_eq (pv 2) pe_int (nomark _)))))
      (pss_one (ps_ret (pe_tup (pa_cons pe_int (pa_cons (pe_un un_neg pe_int) pa_nil)))))
      pss_nil)
    (pss_cons (ps_set (i := 3) sc_l_line.nd rfl (.inl rfl) (pe_call (ok_l_gcd T) (hr.mono (by decide)) (by rfl) T.g_l_gcd T.F_l_gcd.kp T.b_l_gcd .nil pass0 (pa_cons (pv 1) (pa_cons (pv 2) pa_nil))))
    (pss_one (ps_ret (pe_tup (pa_cons (pe_op op_fdivW (pv 1) (pv 3)) (pa_cons (pe_op op_fdivW (pv 2) (pv 3)) pa_nil))))))))), ?_⟩
    refine ⟨_, rfl, size63 (show 3 ≤ 1000 by decide), fun p1 hp1 => ?_⟩
    generalize hG1 : upd _ p1 _ = G1
    obtain ⟨s1, e1⟩ := alloc hG1 hp1
    refine ⟨_, rfl, d, b, c, 3, rfl, hD.keep s1, by omega, by decide, by decide, fun H2 r2 D2 k2 l2 u2 => ?_⟩
    have e2 := k2 _ _ (hD.ne_d hp1) (hD.ne_b hp1) e1
    obtain ⟨n, hn0, hn1, hat⟩ := pick3 l2 u2
    refine ⟨p1, _, r2, _, rfl, rfl, SqL.of e2, hat, d, b, c + 1, n, rfl, D2, by omega, hn0, hn1, fun H3 p D3 k3 l3 u3 => ?_⟩
    refine ⟨_, rfl, size63 (show 3 ≤ 1000 by decide), fun p4 hp4 => ?_⟩
    generalize hG4 : upd _ p4 _ = G4
    obtain ⟨s4, e4⟩ := alloc hG4 hp4
    refine ⟨_, rfl, d, b, c + 3, 3, rfl, (D3.keep s4).le (by omega), by omega, by decide, by decide, fun H5 r5 D5 k5 l5 u5 => ?_⟩
    have e5 := k5 _ _ (D3.ne_d hp4) (D3.ne_b hp4) e4
    obtain ⟨n', hn0', hn1', hat'⟩ := pick3 l5 u5
    refine ⟨p4, _, r5, _, rfl, rfl, SqL.of e5, hat', d, b, c + 4, n', rfl, D5.le (by omega), by omega, hn0', hn1', fun H6 q D6 k6 l6 u6 => ?_⟩
    have bp := bd21 hn1 l3 u3
    have bq := bd21 hn1' l6 u6
    have kk := (((((Kp.same s1).trans k2).trans k3).trans (Kp.same s4)).trans k5).trans k6
    have D6' := D6.le (show c + 4 + 2 ≤ c + 6 by omega)
    refine ⟨_, rfl, rfl, _, rfl, ite2 (fun e1 => ⟨_, rfl, rfl, _, rfl, ite2 (fun e2 => ?both) (fun e2 => ?t1)⟩) (fun e1 => iteF ?t2)⟩
    case both =>
      refine ⟨1, rfl, size63 (show 2 ≤ 1000 by decide), fun a ha => ?_⟩
      generalize hG7 : upd _ a _ = G7
      obtain ⟨s7, e7⟩ := alloc hG7 ha
      exact Qk _ a 0 (-1) (D6'.keep s7) (kk.trans (Kp.same s7)) e7 (by unfold Bd; decide) (by unfold Bd; decide) (fun z => by have := z.2; omega)
    case t1 | t2 =>
      have hnz : ¬ (p = 0 ∧ q = 0) := by
        first
          | exact fun z => e2 (decide_eq_true (congrArg V.int z.2))
          | exact fun z => e1 (decide_eq_true (congrArg V.int z.1))
      have g0 := gcdI_pos2 hnz
      have gb := gcdI_bd2 bp bq hnz
      refine ⟨_, rfl, _, rfl, p, q, rfl, ?_⟩
      refine ⟨_, rfl, _, rfl, p, _, rfl, rfl, gb.divW g0 (by decide), _, rfl, _, rfl, q, _, rfl, rfl, gb.divW g0 (by decide), size63 (show 2 ≤ 1000 by decide), fun a ha => ?_⟩
      generalize hG7 : upd _ a _ = G7
      obtain ⟨s7, e7⟩ := alloc hG7 ha
      refine Qk _ a _ _ (D6'.keep s7) (kk.trans (Kp.same s7)) e7 (bp.of_le (div_natAbs_le g0 (gcdI_dvd_l _ _))) (bq.of_le (div_natAbs_le g0 (gcdI_dvd_r _ _))) (fun z => ?_)
      have hc := cop_div2 hnz
      rw [z.1, z.2] at hc
      exact absurd hc (by decide)
def sp_l_so_many (K : PySem.W.Frag) : Sp := fun vs H Q _ => ∃ (v v' : V) (x y z : Rat) (n m : Nat), vs = [v, v'] ∧ SpQ K H v x y ∧ ShQ K H v' z ∧ BdQ n x ∧ BdQ n y ∧ BdQ m z ∧ n ≤ 2000 ∧ m ≤ 2000 ∧ ∀ H' r, Same H H' → SpQ K H' r (x * z) (y * z) → Q r H'
theorem ok_l_so_many (T : Tx K mg A) : FnOk P w K mg base CX0 3 A.f_l_so_many A.fd_l_so_many ["_law_spot", "_law_part_here"] (sp_l_so_many K) := by
  refine T.F_l_so_many.ok sc_l_so_many (fun vs H Q E h => ?_) (fun cdv Ar outer s H vs Q E hr h => ?_)
  · obtain ⟨v, v', x, y, z, n, m, rfl, _⟩ := h
    rfl
  · obtain ⟨_, _, x, y, z, n, m, rfl, ⟨a, v1, v2, rfl, ha, h1, h2⟩, ⟨az, rfl, hz⟩, bx, bY, bz, hn, hm, q⟩ := h
    refine ⟨_, (pss_cons (ps_setLc (i := 2) (own := [("_law_one", 3)]) rfl sc_l_so_many.nd rfl rfl (sw_true rfl rfl rfl (by decide +kernel)) (pi_tup (pv 0)) (blkOk_by (own := [("_law_one", 3)]) (N := ["_law_spot", "_law_part_here", "_law_found", "_law_one"]) (sc := defScope s_l_so_many) (by decide +kernel)) (fun _ _ _ _ _ => (pg_name (i := 3) sc_l_so_many.nd rfl (Or.inl rfl))) (fun _ _ _ _ _ => pts_nil) (fun _ _ _ _ _ => (pe_call (ok_l_part T) (hr.mono (by decide)) (by rfl) T.g_l_part T.F_l_part.kp T.b_l_part .nil pass0 (pa_cons (pe_op op_mulW (pe_ix (show IxR _ (rIxT K) from ix_tup) (pv 3) pe_int (fun _ _ => rfl)) (pe_ix (show IxR _ (rIxT K) from ix_tup) (pv 1) pe_int (fun _ _ => rfl))) (pa_cons (pe_op op_mulW (pe_ix (show IxR _ (rIxT K) from ix_tup) (pv 3) pe_int (fun _ _ => rfl)) (pe_ix (show IxR _ (rIxT K) from ix_tup) (pv 1) pe_int (fun _ _ => rfl))) pa_nil)))))
    (pss_one (ps_ret (pe_tup (pa_cons (pe_ix ix_list (pv 2) pe_int (fun _ _ => rfl)) (pa_cons (pe_ix ix_list (pv 2) pe_int (fun _ _ => rfl)) pa_nil)))))), ?_⟩
    refine ⟨_, rfl, a, rfl, ⟨_, ha⟩, fun Dl hDl => lc_tup (K := K) (a := a) (xs := [v1, v2]) (fun i H' => Same H H' ∧ ∃ us, H' Dl = some (.lst us) ∧ us.length = i ∧ Paired (ShQ K H') us ([x * z, y * z].take i)) ?_ ?_ ?_ ?_⟩
    · exact ⟨same_upd hDl, [], upd_same, rfl, .nil⟩
    · rintro i H' _ ⟨k', _⟩
      exact Same.seqT k' ha
    · rintro i v H' hv ⟨k', us, hD', hl, hP⟩
      have hi : i < 2 := (List.getElem?_eq_some_iff.mp hv).1
      obtain ⟨u, hu1, hu2, hu3⟩ : ∃ u : Rat, [x * z, y * z][i]? = some (u * z) ∧ ShQ K H v u ∧ BdQ n u := by
        match i, hv with
        | 0, e => cases e; exact ⟨x, rfl, h1, bx⟩
        | 1, e => cases e; exact ⟨y, rfl, h2, bY⟩
      obtain ⟨av, rfl, hav⟩ := hu2.keep k'
      have hz' := Same.seqT k' hz
      have dd := Int.mul_pos (den_pos u) (den_pos z)
      refine ⟨rfl, _, rfl, av, _, 0, _, rfl, rfl, hav, rfl, _, rfl, az, _, 0, _, rfl, rfl, hz', rfl, u.num, z.num, rfl, rfl, hu3.1.mulW bz.1 (by omega) (by omega), _, rfl, av, _, 1, _, rfl, rfl, hav, rfl, _, rfl, az, _, 1, _, rfl, rfl, hz', rfl, (u.den : Int), (z.den : Int), rfl, rfl, hu3.2.mulW bz.2 (by omega) (by omega), _, _, n + m, rfl, dd, hu3.2.mul bz.2, by omega, fun H2 r2 s2 g2 => ?_⟩
      rw [← mul_divInt] at g2
      have hD2 := s2 _ _ hD'
      refine ⟨us, hD2, small1000 (by omega), ?_, us ++ [r2], upd_same, by rw [List.length_append, hl]; rfl, ?_⟩
      · intro b' o' h'
        rw [upd_ne (ne_of_none h' hDl)]
        exact s2 _ _ (k' _ _ h')
      · rw [List.take_add_one, hu1]
        refine Paired.snoc (paired_imp (fun _ _ ⟨a', e', t'⟩ => ⟨a', e', SqT.upd_lst (Same.seqT s2 t') hD2⟩) hP) ?_
        obtain ⟨a', e', t'⟩ := g2
        exact ⟨a', e', SqT.upd_lst t' hD2⟩
    · rintro H2 ⟨k2, us, hD2, hl2, hP2⟩
      obtain ⟨u1, u2, rfl⟩ : ∃ u1 u2, us = [u1, u2] := by
        match us, hl2 with
        | [u1, u2], _ => exact ⟨u1, u2, rfl⟩
      cases hP2 with
      | cons g1 r1 =>
        cases r1 with
        | cons g2 _ =>
          refine ⟨_, rfl, Dl, _, 0, u1, rfl, rfl, SqL.of hD2, rfl, _, rfl, Dl, _, 1, u2, rfl, rfl, SqL.of hD2, rfl, size63 (show 2 ≤ 1000 by decide), fun p hp => ?_⟩
          generalize hG : upd _ p _ = G
          obtain ⟨s3, e3⟩ := alloc hG hp
          exact q _ _ (k2.trans s3) ⟨p, u1, u2, rfl, .inl (.inl e3), ShAt.keep g1 s3, ShAt.keep g2 s3⟩
def sp_l_sum (K : PySem.W.Frag) : Sp := fun vs H Q _ => ∃ (v v' : V) (x y : Rat) (n m : Nat), vs = [v, v'] ∧ ShQ K H v x ∧ ShQ K H v' y ∧ BdQ n x ∧ BdQ m y ∧ n ≤ 4000 ∧ m ≤ 4000 ∧ ∀ H' r, Same H H' → ShQ K H' r (x + y) → Q r H'
theorem ok_l_sum (T : Tx K mg A) : FnOk P w K mg base CX0 3 A.f_l_sum A.fd_l_sum ["_law_one", "_law_other"] (sp_l_sum K) := by
  refine T.F_l_sum.ok sc_l_sum (fun vs H Q E h => ?_) (fun cdv Ar outer s H vs Q E hr h => ?_)
  · obtain ⟨v, v', x, y, n, m, rfl, _⟩ := h
    rfl
  · obtain ⟨_, _, x, y, n, m, rfl, ⟨a, rfl, ha⟩, ⟨b, rfl, hb⟩, bx, bY, hn, hm, q⟩ := h
    refine ⟨_, (pss_one (ps_ret (pe_call (ok_l_part T) (hr.mono (by decide)) (by rfl) T.g_l_part T.F_l_part.kp T.b_l_part .nil pass0 (pa_cons (pe_op op_add (pe_op op_mulW (pe_ix ix_tup (pv 0) pe_int (fun _ _ => rfl)) (pe_ix ix_tup (pv 1) pe_int (fun _ _ => rfl))) (pe_op op_mulW (pe_ix ix_tup (pv 1) pe_int (fun _ _ => rfl)) (pe_ix ix_tup (pv 0) pe_int (fun _ _ => rfl)))) (pa_cons (pe_op op_mulW (pe_ix ix_tup (pv 0) pe_int (fun _ _ => rfl)) (pe_ix ix_tup (pv 1) pe_int (fun _ _ => rfl))) pa_nil))))), ?_⟩
    have dd := Int.mul_pos (den_pos x) (den_pos y)
    refine ⟨_, rfl, a, _, 0, _, rfl, rfl, ha, rfl, _, rfl, b, _, 1, _, rfl, rfl, hb, rfl, x.num, (y.den : Int), rfl, rfl, bx.1.mulW bY.2 (by omega) (by omega), _, rfl, b, _, 0, _, rfl, rfl, hb, rfl, _, rfl, a, _, 1, _, rfl, rfl, ha, rfl, y.num, (x.den : Int), rfl, rfl, bY.1.mulW bx.2 (by omega) (by omega), _, _, rfl, rfl, _, rfl, a, _, 1, _, rfl, rfl, ha, rfl, _, rfl, b, _, 1, _, rfl, rfl, hb, rfl, (x.den : Int), (y.den : Int), rfl, rfl, bx.2.mulW bY.2 (by omega) (by omega), _, _, n + m, rfl, dd, bx.2.mul bY.2, by omega, fun H' r s' g => ?_⟩
    rw [← add_divInt] at g
    exact q _ _ s' g
def sp_l_added (K : PySem.W.Frag) : Sp := fun vs H Q _ => ∃ (v v' : V) (x y x' y' : Rat) (n m : Nat), vs = [v, v'] ∧ SpQ K H v x y ∧ SpQ K H v' x' y' ∧ BdQ n x ∧ BdQ n y ∧ BdQ m x' ∧ BdQ m y' ∧ n ≤ 4000 ∧ m ≤ 4000 ∧ ∀ H' r, Same H H' → SpQ K H' r (x + x') (y + y') → Q r H'
theorem ok_l_added (T : Tx K mg A) : FnOk P w K mg base CX0 4 A.f_l_added A.fd_l_added ["_law_spot", "_law_other"] (sp_l_added K) := by
  refine T.F_l_added.ok sc_l_added (fun vs H Q E h => ?_) (fun cdv Ar outer s H vs Q E hr h => ?_)
  · obtain ⟨v, v', x, y, x', y', n, m, rfl, _⟩ := h
    rfl
  · obtain ⟨_, _, x, y, x', y', n, m, rfl, ⟨a, v1, v2, rfl, ha, h1, h2⟩, ⟨b, w1, w2, rfl, hb, h3, h4⟩, b1, b2, b3, b4, hn, hm, Qk⟩ := h
    refine ⟨_, (pss_one (ps_ret (pe_tup (pa_cons (pe_call (ok_l_sum T) (hr.mono (by decide)) (by rfl) T.g_l_sum T.F_l_sum.kp T.b_l_sum .nil pass0 (pa_cons (pe_ix ix_tup (pv 0) pe_int (fun _ _ => rfl)) (pa_cons (pe_ix ix_tup (pv 1) pe_int (fun _ _ => rfl)) pa_nil))) (pa_cons (pe_call (ok_l_sum T) (hr.mono (by decide)) (by rfl) T.g_l_sum T.F_l_sum.kp T.b_l_sum .nil pass0 (pa_cons (pe_ix ix_tup (pv 0) pe_int (fun _ _ => rfl)) (pa_cons (pe_ix ix_tup (pv 1) pe_int (fun _ _ => rfl)) pa_nil))) pa_nil))))), ?_⟩
    refine ⟨_, rfl, a, _, 0, _, rfl, rfl, ha, rfl, _, rfl, b, _, 0, _, rfl, rfl, hb, rfl, v1, w1, x, x', n, m, rfl, h1, h3, b1, b3, hn, hm, fun H1 r1 s1 g1 => ?_⟩
    refine ⟨_, rfl, a, _, 1, _, rfl, rfl, Same.seqT s1 ha, rfl, _, rfl, b, _, 1, _, rfl, rfl, Same.seqT s1 hb, rfl, v2, w2, y, y', n, m, rfl, h2.keep s1, h4.keep s1, b2, b4, hn, hm, fun H2 r2 s2 g2 => ?_⟩
    refine ⟨size63 (show 2 ≤ 1000 by decide), fun p hp => ?_⟩
    generalize hG : upd _ p _ = G
    obtain ⟨s3, e3⟩ := alloc hG hp
    exact Qk _ _ ((s1.trans s2).trans s3) ⟨p, r1, r2, rfl, .inl (.inl e3), (g1.keep s2).keep s3, g2.keep s3⟩
def sp_l_dot (K : PySem.W.Frag) : Sp := fun vs H Q _ => ∃ (v v' : V) (x y x' y' : Rat) (n m : Nat), vs = [v, v'] ∧ SpQ K H v x y ∧ SpQ K H v' x' y' ∧ BdQ n x ∧ BdQ n y ∧ BdQ m x' ∧ BdQ m y' ∧ n ≤ 1500 ∧ m ≤ 1500 ∧ ∀ H' r, Same H H' → ShQ K H' r (x * x' + y * y') → Q r H'
theorem ok_l_dot (T : Tx K mg A) : FnOk P w K mg base CX0 4 A.f_l_dot A.fd_l_dot ["_law_spot", "_law_other"] (sp_l_dot K) := by
  refine T.F_l_dot.ok sc_l_dot (fun vs H Q E h => ?_) (fun cdv Ar outer s H vs Q E hr h => ?_)
  · obtain ⟨v, v', x, y, x', y', n, m, rfl, _⟩ := h
    rfl
  · obtain ⟨_, _, x, y, x', y', n, m, rfl, ⟨a, _, _, rfl, ha, ⟨a1, rfl, h1⟩, ⟨a2, rfl, h2⟩⟩, ⟨b, _, _, rfl, hb, ⟨b1', rfl, h3⟩, ⟨b2', rfl, h4⟩⟩, b1, b2, b3, b4, hn, hm, Qk⟩ := h
    refine ⟨_, (pss_cons (ps_set (i := 2) sc_l_dot.nd rfl (.inl rfl) (pe_call (ok_l_part T) (hr.mono (by decide)) (by rfl) T.g_l_part T.F_l_part.kp T.b_l_part .nil pass0 (pa_cons (pe_op op_mulW (pe_ix ix_tup (pe_ix ix_tup (pv 0) pe_int (fun _ _ => rfl)) pe_int (fun _ _ => rfl)) (pe_ix ix_tup (pe_ix ix_tup (pv 1) pe_int (fun _ _ => rfl)) pe_int (fun _ _ => rfl))) (pa_cons (pe_op op_mulW (pe_ix ix_tup (pe_ix ix_tup (pv 0) pe_int (fun _ _ => rfl)) pe_int (fun _ _ => rfl)) (pe_ix ix_tup (pe_ix ix_tup (pv 1) pe_int (fun _ _ => rfl)) pe_int (fun _ _ => rfl))) pa_nil))))
    (pss_one (ps_ret (pe_call (ok_l_sum T) (hr.mono (by decide)) (by rfl) T.g_l_sum T.F_l_sum.kp T.b_l_sum .nil pass0 (pa_cons (pv 2) (pa_cons (pe_call (ok_l_part T) (hr.mono (by decide)) (by rfl) T.g_l_part T.F_l_part.kp T.b_l_part .nil pass0 (pa_cons (pe_op op_mulW (pe_ix ix_tup (pe_ix ix_tup (pv 0) pe_int (fun _ _ => rfl)) pe_int (fun _ _ => rfl)) (pe_ix ix_tup (pe_ix ix_tup (pv 1) pe_int (fun _ _ => rfl)) pe_int (fun _ _ => rfl))) (pa_cons (pe_op op_mulW (pe_ix ix_tup (pe_ix ix_tup (pv 0) pe_int (fun _ _ => rfl)) pe_int (fun _ _ => rfl)) (pe_ix ix_tup (pe_ix ix_tup (pv 1) pe_int (fun _ _ => rfl)) pe_int (fun _ _ => rfl))) pa_nil))) pa_nil)))))), ?_⟩
    have d1 := Int.mul_pos (den_pos x) (den_pos x')
    have d2 := Int.mul_pos (den_pos y) (den_pos y')
    refine ⟨_, rfl, a, _, 0, _, rfl, rfl, ha, rfl, a1, _, 0, _, rfl, rfl, h1, rfl, _, rfl, b, _, 0, _, rfl, rfl, hb, rfl, b1', _, 0, _, rfl, rfl, h3, rfl, x.num, x'.num, rfl, rfl, b1.1.mulW b3.1 (by omega) (by omega), _, rfl, a, _, 0, _, rfl, rfl, ha, rfl, a1, _, 1, _, rfl, rfl, h1, rfl, _, rfl, b, _, 0, _, rfl, rfl, hb, rfl, b1', _, 1, _, rfl, rfl, h3, rfl, (x.den : Int), (x'.den : Int), rfl, rfl, b1.2.mulW b3.2 (by omega) (by omega), _, _, n + m, rfl, d1, b1.2.mul b3.2, by omega, fun H1 r1 s1 g1 => ?_⟩
    rw [← mul_divInt] at g1
    have ha' := Same.seqT s1 ha
    have hb' := Same.seqT s1 hb
    have h2' := Same.seqT s1 h2
    have h4' := Same.seqT s1 h4
    refine ⟨_, rfl, _, rfl, a, _, 1, _, rfl, rfl, ha', rfl, a2, _, 0, _, rfl, rfl, h2', rfl, _, rfl, b, _, 1, _, rfl, rfl, hb', rfl, b2', _, 0, _, rfl, rfl, h4', rfl, y.num, y'.num, rfl, rfl, b2.1.mulW b4.1 (by omega) (by omega), _, rfl, a, _, 1, _, rfl, rfl, ha', rfl, a2, _, 1, _, rfl, rfl, h2', rfl, _, rfl, b, _, 1, _, rfl, rfl, hb', rfl, b2', _, 1, _, rfl, rfl, h4', rfl, (y.den : Int), (y'.den : Int), rfl, rfl, b2.2.mulW b4.2 (by omega) (by omega), _, _, n + m, rfl, d2, b2.2.mul b4.2, by omega, fun H2 r2 s2 g2 => ?_⟩
    rw [← mul_divInt] at g2
    exact ⟨r1, r2, x * x', y * y', n + m, n + m, rfl, g1.keep s2, g2, b1.mul b3, b2.mul b4, by omega, by omega, fun H3 r3 s3 g3 => Qk _ _ ((s1.trans s2).trans s3) g3⟩
def sp_l_is_spot (K : PySem.W.Frag) : Sp := fun vs H Q _ => ∃ (v : V) (x y : Rat), vs = [v] ∧ SpQ K H v x y ∧ Q (.bl true) H
theorem ok_l_is_spot (T : Tx K mg A) : FnOk P w K mg base CX0 2 A.f_l_is_spot A.fd_l_is_spot ["_law_found"] (sp_l_is_spot K) := by
  refine T.F_l_is_spot.ok sc_l_is_spot (fun vs H Q E h => ?_) (fun cdv Ar outer s H vs Q E hr h => ?_)
  · obtain ⟨v, x, y, rfl, _⟩ := h
    rfl
  · obtain ⟨_, x, y, rfl, ⟨a, v1, v2, rfl, ha, h1, h2⟩, q⟩ := h
    refine ⟨_, (pss_cons (ps_if (PW.pt (pw_or (pt_not (pt_val (pe_callB call_isi (by rfl) T.m_isinstance (by decide +kernel) (pa_cons (pv 0) (pa_cons (pe_bltn (v := .ty "tuple") (by rfl) T.m_tuple (by decide +kernel) rfl) pa_nil))))) (pw_or1 (pt_cmpR op_ne (pe_callB call_len_seq (by rfl) T.m_len (by decide +kernel) (pa_cons (pv 0) pa_nil)) pe_int (nomark _)))))
      (pss_one (ps_ret pe_bl))
      pss_nil)
    (pss_cons (ps_for PassesOwn.never rfl (pi_tup (pv 0)) (pg_name (i := 1) sc_l_is_spot.nd rfl (.inl rfl))
      (pss_cons (ps_if (PW.pt (pw_or (pt_not (pt_val (pe_callB call_isi (by rfl) T.m_isinstance (by decide +kernel) (pa_cons (pv 1) (pa_cons (pe_bltn (v := .ty "tuple") (by rfl) T.m_tuple (by decide +kernel) rfl) pa_nil))))) (pw_or (pt_cmpR op_ne (pe_callB call_len_seq (by rfl) T.m_len (by decide +kernel) (pa_cons (pv 1) pa_nil)) pe_int (nomark _)) (pw_or (pt_not (pt_val (pe_call (ok_l_whole T) (hr.mono (by decide)) (by rfl) T.g_l_whole T.F_l_whole.kp T.b_l_whole .nil pass0 (pa_cons (pe_ix ix_tup (pv 1) pe_int (fun _ _ => rfl)) pa_nil)))) (pw_or1 (pt_not (pt_val (pe_call (ok_l_whole T) (hr.mono (by decide)) (by rfl) T.g_l_whole T.F_l_whole.kp T.b_l_whole .nil pass0 (pa_cons (pe_ix ix_tup (pv 1) pe_int (fun _ _ => rfl)) pa_nil)))))))))
      (pss_one (ps_ret pe_bl))
      pss_nil)
    (pss_one (ps_if (PW.pt (pw_or (pt_cmpR op_lt (pe_ix ix_tup (pv 1) pe_int (fun _ _ => rfl)) pe_int (nomark _)) (pw_or1 (pt_cmpR op_ne (pe_call (ok_l_gcd T) (hr.mono (by decide)) (by rfl) T.g_l_gcd T.F_l_gcd.kp T.b_l_gcd .nil pass0 (pa_cons (pe_ix ix_tup (pv 1) pe_int (fun _ _ => rfl)) (pa_cons (pe_ix ix_tup (pv 1) pe_int (fun _ _ => rfl)) pa_nil))) pe_int (nomark _)))))
      (pss_one (ps_ret pe_bl))
      pss_nil))))
    (pss_one (ps_ret pe_bl)))), ?_⟩
    refine ⟨_, rfl, _, _, _, _, true, rfl, .ty _, ty_tup ha, kit_ty (by decide +kernel), true, rfl, iteF ⟨_, rfl, _, _, rfl, .inr ha, rfl, _, rfl, iteF ?_⟩⟩
    refine ⟨_, rfl, a, rfl, ⟨_, ha⟩, for_tup (K := K) (a := a) (xs := [v1, v2]) (fun i σ H' => ∃ z, σ = [some (.ref a), z] ∧ H' = H) ⟨_, rfl, rfl⟩ ?_ ?_ ?_⟩
    · rintro i σ H' _ ⟨z, _, rfl⟩
      exact ha
    · rintro i v σ H' hv ⟨z, rfl, rfl⟩
      obtain ⟨u, av, rfl, hav⟩ : ∃ (u : Rat), ShQ K H' v u := by
        match i, hv with
        | 0, e => cases e; exact ⟨x, h1⟩
        | 1, e => cases e; exact ⟨y, h2⟩
      refine ⟨_, rfl, _, _, _, _, true, rfl, .ty _, ty_tup hav, kit_ty (by decide +kernel), true, rfl, iteF ⟨_, rfl, _, _, rfl, .inr hav, rfl, _, rfl, iteF ⟨_, rfl, av, _, 0, _, rfl, rfl, hav, rfl, _, rfl, true, rfl, iteF ⟨_, rfl, av, _, 1, _, rfl, rfl, hav, rfl, _, rfl, true, rfl, iteF ?_⟩⟩⟩⟩
      refine ⟨_, rfl, av, _, 1, _, rfl, rfl, hav, rfl, (u.den : Int), 1, rfl, rfl, false, congrArg V.bl (decide_eq_false (by have := den_pos u; omega)), iteF ⟨_, rfl, av, _, 0, _, rfl, rfl, hav, rfl, _, rfl, av, _, 1, _, rfl, rfl, hav, rfl, u.num, (u.den : Int), rfl, rfl, false, ?_, iteF ⟨_, rfl, rfl⟩⟩⟩
      rw [(isSh_q u).2]
      rfl
    · rintro σ H' ⟨z, rfl, rfl⟩
      exact q
/-! CUT3 -/
def sp_l_push (K : PySem.W.Frag) : Sp := fun vs H Q _ => ∃ (d b al : Addr) (c p q : Int), vs = [.ref d, .ref al] ∧ Deck K H d b c ∧ c < 600000 ∧ SqT K H al [.int p, .int q] ∧ Bd 21 p ∧ Bd 21 q ∧ ∀ H' r x y, Deck K H' d b (c + 13) → Kp d b H H' → SpQ K H' r x y → BdQ 122 x → BdQ 122 y → Q r H'
theorem ok_l_push (T : Tx K mg A) : FnOk P w K mg base CX0 6 A.f_l_push A.fd_l_push ["_law_deck_here", "_law_line_here"] (sp_l_push K) := by
  refine T.F_l_push.ok sc_l_push (fun vs H Q E h => ?_) (fun cdv Ar outer s H vs Q E hr h => ?_)
  · obtain ⟨d, b, al, c, p, q, rfl, _⟩ := h
    rfl
  · obtain ⟨d, b, al, c, p, q, rfl, hD, hc, hl, bp, bq, Qk⟩ := h
    refine ⟨_, (pss_cons (ps_set (i := 2) sc_l_push.nd rfl (.inl rfl) (pe_call (ok_l_take T) (hr.mono (by decide)) (by rfl) T.g_l_take T.F_l_take.kp T.b_l_take .nil pass0 (pa_cons (pv 0) (pa_cons pe_int pa_nil))))
    (pss_cons (ps_set (i := 3) sc_l_push.nd rfl (.inl rfl) (pe_tup (pa_cons (pe_call (ok_l_drawn T) (hr.mono (by decide)) (by rfl) T.g_l_drawn T.F_l_drawn.kp T.b_l_drawn .nil pass0 (pa_cons (pv 0) pa_nil)) (pa_cons (pe_call (ok_l_drawn T) (hr.mono (by decide)) (by rfl) T.g_l_drawn T.F_l_drawn.kp T.b_l_drawn .nil pass0 (pa_cons (pv 0) pa_nil)) pa_nil))))
    (pss_cons (ps_if (pt_cmpR op_eq (pv 2) pe_int (nomark _))
      (pss_one (ps_ret (pe_call (ok_l_so_many T) (hr.mono (by decide)) (by rfl) T.g_l_so_many T.F_l_so_many.kp T.b_l_so_many .nil pass0 (pa_cons (pe_tup (pa_cons (pe_tup (pa_cons (pe_ix ix_tup (pv 1) pe_int (fun _ _ => rfl)) (pa_cons pe_int pa_nil))) (pa_cons (pe_tup (pa_cons (pe_ix ix_tup (pv 1) pe_int (fun _ _ => rfl)) (pa_cons pe_int pa_nil))) pa_nil))) (pa_cons (pe_ix ix_tup (pv 3) pe_int (fun _ _ => rfl)) pa_nil)))))
      pss_nil)
    (pss_cons (ps_if (pt_cmpR op_eq (pv 2) pe_int (nomark _))
      (pss_one (ps_ret (pe_call (ok_l_so_many T) (hr.mono (by decide)) (by rfl) T.g_l_so_many T.F_l_so_many.kp T.b_l_so_many .nil pass0 (pa_cons (pe_tup (pa_cons (pe_tup (pa_cons (pe_un un_neg (pe_ix ix_tup (pv 1) pe_int (fun _ _ => rfl))) (pa_cons pe_int pa_nil))) (pa_cons (pe_tup (pa_cons (pe_ix ix_tup (pv 1) pe_int (fun _ _ => rfl)) (pa_cons pe_int pa_nil))) pa_nil))) (pa_cons (pe_ix ix_tup (pv 3) pe_int (fun _ _ => rfl)) pa_nil)))))
      pss_nil)
    (pss_one (ps_ret (pv 3))))))), ?_⟩
    refine ⟨_, rfl, d, b, c, 5, rfl, hD, by omega, by decide, by decide, fun H1 r1 D1 k1 l1 u1 => ?_⟩
    refine ⟨_, rfl, d, b, c + 1, rfl, D1, by omega, fun H2 r2 x D2 k2 h2 b2 => ?_⟩
    refine ⟨_, rfl, d, b, c + 7, rfl, D2.le (by omega), by omega, fun H3 r3 y D3 k3 h3 b3 => ?_⟩
    refine ⟨size63 (show 2 ≤ 1000 by decide), fun a4 f4 => ?_⟩
    generalize hG4 : upd _ a4 _ = G4
    obtain ⟨s4, e4⟩ := alloc hG4 f4
    have D4 := (D3.keep s4).le (show c + 7 + 6 ≤ c + 13 by omega)
    have kk : Kp d b H G4 := ((k1.trans k2).trans k3).trans (Kp.same s4)
    have hl4 : SqT K G4 al [.int p, .int q] := Same.seqT s4 (D2.seqT k3 (D1.seqT k2 (hD.seqT k1 hl)))
    have hx4 := (h2.deck D2 k3).keep s4
    have hsp : SqT K G4 a4 [r2, r3] := .inl (.inl e4)
    refine ⟨_, rfl, rfl, _, rfl, ite2 (fun e => ?_) (fun e => ?_)⟩
    · refine ⟨_, rfl, al, _, 0, _, rfl, rfl, hl4, rfl, size63 (show 2 ≤ 1000 by decide), fun a5 f5 => ?_⟩
      generalize hG5 : upd _ a5 _ = G5
      obtain ⟨s5, e5⟩ := alloc hG5 f5
      refine ⟨_, rfl, al, _, 1, _, rfl, rfl, Same.seqT s5 hl4, rfl, size63 (show 2 ≤ 1000 by decide), fun a6 f6 => ?_⟩
      generalize hG6 : upd _ a6 _ = G6
      obtain ⟨s6, e6⟩ := alloc hG6 f6
      refine ⟨size63 (show 2 ≤ 1000 by decide), fun a7 f7 => ?_⟩
      generalize hG7 : upd _ a7 _ = G7
      obtain ⟨s7, e7⟩ := alloc hG7 f7
      have st := (s5.trans s6).trans s7
      refine ⟨_, rfl, a4, _, 0, _, rfl, rfl, Same.seqT st hsp, rfl, .ref a7, r2, (p : Rat), (q : Rat), x, 21, 101, rfl, ⟨a7, .ref a5, .ref a6, rfl, .inl (.inl e7), ⟨a5, rfl, .inl (.inl (s7 _ _ (s6 _ _ e5)))⟩, ⟨a6, rfl, .inl (.inl (s7 _ _ e6))⟩⟩, hx4.keep st, bdq_int bp (by decide), bdq_int bq (by decide), b2, by decide, by decide, fun H8 r8 s8 g8 => ?_⟩
      exact Qk _ _ _ _ ((D4.keep st).keep s8) ((kk.trans (Kp.same st)).trans (Kp.same s8)) g8 ((bdq_int bp (by decide)).mul b2) ((bdq_int bq (by decide)).mul b2)
    · refine ⟨_, rfl, rfl, _, rfl, ite2 (fun e => ?_) (fun e => ?_)⟩
      · refine ⟨_, rfl, al, _, 1, _, rfl, rfl, hl4, rfl, q, rfl, size63 (show 2 ≤ 1000 by decide), fun a5 f5 => ?_⟩
        generalize hG5 : upd _ a5 _ = G5
        obtain ⟨s5, e5⟩ := alloc hG5 f5
        refine ⟨_, rfl, al, _, 0, _, rfl, rfl, Same.seqT s5 hl4, rfl, size63 (show 2 ≤ 1000 by decide), fun a6 f6 => ?_⟩
        generalize hG6 : upd _ a6 _ = G6
        obtain ⟨s6, e6⟩ := alloc hG6 f6
        refine ⟨size63 (show 2 ≤ 1000 by decide), fun a7 f7 => ?_⟩
        generalize hG7 : upd _ a7 _ = G7
        obtain ⟨s7, e7⟩ := alloc hG7 f7
        have st := (s5.trans s6).trans s7
        refine ⟨_, rfl, a4, _, 0, _, rfl, rfl, Same.seqT st hsp, rfl, .ref a7, r2, ((-q : Int) : Rat), (p : Rat), x, 21, 101, rfl, ⟨a7, .ref a5, .ref a6, rfl, .inl (.inl e7), ⟨a5, rfl, .inl (.inl (s7 _ _ (s6 _ _ e5)))⟩, ⟨a6, rfl, .inl (.inl (s7 _ _ e6))⟩⟩, hx4.keep st, bdq_int bq.neg (by decide), bdq_int bp (by decide), b2, by decide, by decide, fun H8 r8 s8 g8 => ?_⟩
        exact Qk _ _ _ _ ((D4.keep st).keep s8) ((kk.trans (Kp.same st)).trans (Kp.same s8)) g8 ((bdq_int bq.neg (by decide)).mul b2) ((bdq_int bp (by decide)).mul b2)
      · exact ⟨_, rfl, Qk _ _ x y D4 kk ⟨a4, r2, r3, rfl, hsp, hx4, h3.keep s4⟩ (b2.le (by decide)) (b3.le (by decide))⟩
/-- a row's data -/
def RowD (K : PySem.W.Frag) (H : Hp) (ar : Addr) (kn : Kn) : Prop := ∃ (z : Str) (s : Addr) (u1 u2 u3 rl pl st : V) (c1 c2 c3 : Int × Int) (px py sx sy : Rat), PyData.canLay0 (.str z) = true ∧ SqT K H ar [.str z, .ref s, .int kn.mass, rl, pl, st] ∧ SqT K H s [u1, u2, u3] ∧ ShAt K H u1 c1 ∧ ShAt K H u2 c2 ∧ ShAt K H u3 c3 ∧ RailAt K H kn rl ∧ SpQ K H pl px py ∧ SpQ K H st sx sy
theorem RailAt.deck {K : PySem.W.Frag} {H H' : Hp} {kn : Kn} {v : V} {d b : Addr} {c : Int} (h : RailAt K H kn v) (D : Deck K H d b c) (k : Kp d b H H') : RailAt K H' kn v := by
  cases kn with
  | wall => exact h
  | free m => exact h
  | rail m p q =>
    obtain ⟨a, e, h⟩ := h
    exact ⟨a, e, D.seqT k h⟩
theorem RowD.keep {K : PySem.W.Frag} {H H' : Hp} {ar : Addr} {kn : Kn} (h : RowD K H ar kn) (k : Same H H') : RowD K H' ar kn := by
  obtain ⟨z, s, u1, u2, u3, rl, pl, st, c1, c2, c3, px, py, sx, sy, h0, h1, h2, h3, h4, h5, h6, h7, h8⟩ := h
  exact ⟨z, s, u1, u2, u3, rl, pl, st, c1, c2, c3, px, py, sx, sy, h0, Same.seqT k h1, Same.seqT k h2, h3.keep k, h4.keep k, h5.keep k, h6.keep k, h7.keep k, h8.keep k⟩
theorem RowD.deck {K : PySem.W.Frag} {H H' : Hp} {ar : Addr} {kn : Kn} {d b : Addr} {c : Int} (h : RowD K H ar kn) (D : Deck K H d b c) (k : Kp d b H H') : RowD K H' ar kn := by
  obtain ⟨z, s, u1, u2, u3, rl, pl, st, c1, c2, c3, px, py, sx, sy, h0, h1, h2, h3, h4, h5, h6, h7, h8⟩ := h
  exact ⟨z, s, u1, u2, u3, rl, pl, st, c1, c2, c3, px, py, sx, sy, h0, D.seqT k h1, D.seqT k h2, h3.deck D k, h4.deck D k, h5.deck D k, h6.deck D k, h7.deck D k, h8.deck D k⟩
theorem RowD.dp {K : PySem.W.Frag} {H : Hp} {ar : Addr} {kn : Kn} (h : RowD K H ar kn) : ∃ D, Dp K H (.ref ar) D ∧ SeqAt.shaped D = true ∧ PyData.eqv D D = true := by
  obtain ⟨z, s, u1, u2, u3, rl, pl, st, c1, c2, c3, px, py, sx, sy, h0, h1, h2, h3, h4, h5, h6, h7, h8⟩ := h
  obtain ⟨R, hR, hr0, hr1⟩ : ∃ R, Dp K H rl R ∧ PyData.canLay0 R = true ∧ PyData.depth R ≤ 3 := by
    cases kn with
    | wall =>
      obtain rfl : rl = .non := h6
      exact ⟨_, .non, rfl, Nat.zero_le _⟩
    | free m =>
      obtain rfl : rl = .non := h6
      exact ⟨_, .non, rfl, Nat.zero_le _⟩
    | rail m p q =>
      obtain ⟨a, rfl, ha⟩ := h6
      exact ⟨_, .tup ha (.cons (.int _) (.cons (.int _) .nil)), rfl, (by decide : (1 : Nat) ≤ 3)⟩
  refine ⟨.tuple [.str z, .tuple [shD c1, shD c2, shD c3], .int kn.mass, R, spD px py, spD sx sy], .tup h1 (.cons (.str z) (.cons (.tup h2 (.cons h3.dp (.cons h4.dp (.cons h5.dp .nil)))) (.cons (.int _) (.cons hR (.cons h7.dp (.cons h8.dp .nil)))))), ?_, ?_⟩
  · unfold SeqAt.shaped
    have e1 : PyData.canLay0 (.tuple [.str z, .tuple [shD c1, shD c2, shD c3], .int kn.mass, R, spD px py, spD sx sy]) = true := by
      simp only [PyData.canLay0, PyData.canLayAll0, shD, spD, hr0, Bool.and_true, Bool.true_and]
      simpa only [PyData.canLay0] using h0
    rw [e1, Bool.true_and]
    refine decide_eq_true ?_
    simp only [PyData.depth, PyData.depthAll, shD, spD]
    omega
  · refine SeqAt.eqv_refl _ ?_
    simp only [PyData.canLay0, PyData.canLayAll0, shD, spD, hr0, Bool.and_true, Bool.true_and]
    simpa only [PyData.canLay0] using h0
def KindIs (kd : Int) (p q : Int) (kn : Kn) : Prop := (kd = 0 ∧ kn = .wall) ∨ (kd = 1 ∧ ∃ m, kn = .free m) ∨ (kd = 2 ∧ ∃ m, kn = .rail m p q)
def sp_l_row (K : PySem.W.Frag) : Sp := fun vs H Q _ => ∃ (d b al : Addr) (c kd p q : Int), vs = [.ref d, .int kd, .ref al] ∧ Deck K H d b c ∧ c < 600000 ∧ 0 ≤ kd ∧ kd < 3 ∧ SqT K H al [.int p, .int q] ∧ Bd 21 p ∧ Bd 21 q ∧ ¬ (p = 0 ∧ q = 0) ∧ ∀ H' ar kn, Deck K H' d b (c + 16) → Kp d b H H' → RowD K H' ar kn → kn.Ok → KindIs kd p q kn → Q (.ref ar) H'
theorem ok_l_row (T : Tx K mg A) : FnOk P w K mg base CX0 6 A.f_l_row A.fd_l_row ["_law_deck_here", "_law_kind", "_law_line_here"] (sp_l_row K) := by
  refine T.F_l_row.ok sc_l_row (fun vs H Q E h => ?_) (fun cdv Ar outer s H vs Q E hr h => ?_)
  · obtain ⟨d, b, al, c, kd, p, q, rfl, _⟩ := h
    rfl
  · obtain ⟨d, b, al, c, kd, p, q, rfl, hD, hc, hk0, hk1, hl, bp, bq, hnz, Qk⟩ := h
    refine ⟨_, (pss_cons (ps_set (i := 3) sc_l_row.nd rfl (.inl rfl) (pe_tup (pa_cons (pe_tup (pa_cons pe_int (pa_cons pe_int pa_nil))) (pa_cons (pe_tup (pa_cons (pe_op op_add pe_int (pe_call (ok_l_take T) (hr.mono (by decide)) (by rfl) T.g_l_take T.F_l_take.kp T.b_l_take .nil pass0 (pa_cons (pv 0) (pa_cons pe_int pa_nil)))) (pa_cons pe_int pa_nil))) (pa_cons (pe_tup (pa_cons pe_int (pa_cons (pe_op op_add pe_int (pe_call (ok_l_take T) (hr.mono (by decide)) (by rfl) T.g_l_take T.F_l_take.kp T.b_l_take .nil pass0 (pa_cons (pv 0) (pa_cons pe_int pa_nil)))) pa_nil))) pa_nil)))))
    (pss_cons (ps_set (i := 4) sc_l_row.nd rfl (.inl rfl) (pe_ix ix_list (pe_lst (pa_cons pe_int (pa_cons pe_int (pa_cons pe_int (pa_cons (pe_op op_add pe_int (pe_call (ok_l_take T) (hr.mono (by decide)) (by rfl) T.g_l_take T.F_l_take.kp T.b_l_take .nil pass0 (pa_cons (pv 0) (pa_cons pe_int pa_nil)))) pa_nil))))) (pe_call (ok_l_take T) (hr.mono (by decide)) (by rfl) T.g_l_take T.F_l_take.kp T.b_l_take .nil pass0 (pa_cons (pv 0) (pa_cons pe_int pa_nil))) (fun _ _ => rfl)))
    (pss_cons (ps_set (i := 5) sc_l_row.nd rfl (.inl rfl) (pe_tup (pa_cons (pe_call (ok_l_drawn T) (hr.mono (by decide)) (by rfl) T.g_l_drawn T.F_l_drawn.kp T.b_l_drawn .nil pass0 (pa_cons (pv 0) pa_nil)) (pa_cons (pe_call (ok_l_drawn T) (hr.mono (by decide)) (by rfl) T.g_l_drawn T.F_l_drawn.kp T.b_l_drawn .nil pass0 (pa_cons (pv 0) pa_nil)) pa_nil))))
    (pss_cons (ps_set (i := 6) sc_l_row.nd rfl (.inl rfl) (pe_tup (pa_cons (pe_tup (pa_cons pe_int (pa_cons pe_int pa_nil))) (pa_cons (pe_tup (pa_cons pe_int (pa_cons pe_int pa_nil))) pa_nil))))
    (pss_cons (ps_if (pt_cmpR op_eq (pv 1) pe_int (nomark _))
      (pss_one (ps_ret (pe_tup (pa_cons pe_str (pa_cons (pv 3) (pa_cons pe_int (pa_cons pe_non (pa_cons (pv 5) (pa_cons (pv 6) pa_nil)))))))))
      pss_nil)
    (pss_cons (ps_if (pt_cmpR op_eq (pv 1) pe_int (nomark _))
      (pss_one (ps_ret (pe_tup (pa_cons pe_str (pa_cons (pv 3) (pa_cons (pv 4) (pa_cons pe_non (pa_cons (pv 5) (pa_cons (pv 6) pa_nil)))))))))
      pss_nil)
    (pss_one (ps_ret (pe_tup (pa_cons pe_str (pa_cons (pv 3) (pa_cons (pv 4) (pa_cons (pv 2) (pa_cons (pv 5) (pa_cons (pv 6) pa_nil))))))))))))))), ?_⟩
    refine ⟨size63 (show 2 ≤ 1000 by decide), fun a1 f1 => ?_⟩
    generalize hG1 : upd _ a1 _ = G1
    obtain ⟨s1, e1⟩ := alloc hG1 f1
    refine ⟨_, rfl, d, b, c, 9, rfl, hD.keep s1, by omega, by decide, by decide, fun H2 r2 D2 k2 l2 u2 => ?_⟩
    refine ⟨1, r2, rfl, rfl, size63 (show 2 ≤ 1000 by decide), fun a3 f3 => ?_⟩
    generalize hG3 : upd _ a3 _ = G3
    obtain ⟨s3, e3⟩ := alloc hG3 f3
    refine ⟨_, rfl, d, b, c + 1, 9, rfl, D2.keep s3, by omega, by decide, by decide, fun H4 r4 D4 k4 l4 u4 => ?_⟩
    refine ⟨1, r4, rfl, rfl, size63 (show 2 ≤ 1000 by decide), fun a5 f5 => ?_⟩
    generalize hG5 : upd _ a5 _ = G5
    obtain ⟨s5, e5⟩ := alloc hG5 f5
    refine ⟨size63 (show 3 ≤ 1000 by decide), fun a6 f6 => ?_⟩
    generalize hG6 : upd _ a6 _ = G6
    obtain ⟨s6, e6⟩ := alloc hG6 f6
    have D1 := hD.keep s1
    have D3 := D2.keep s3
    have D6 := (D4.keep s5).keep s6
    have p1 : ShAt K G6 (.ref a1) (0, 0) := ((ShAt.deck (ShAt.keep (ShAt.deck ⟨a1, rfl, .inl (.inl e1)⟩ D1 k2) s3) D3 k4).keep s5).keep s6
    have p2 : ShAt K G6 (.ref a3) (1 + r2, 0) := ((ShAt.deck ⟨a3, rfl, .inl (.inl e3)⟩ D3 k4).keep s5).keep s6
    have p3 : ShAt K G6 (.ref a5) (0, 1 + r4) := ShAt.keep ⟨a5, rfl, .inl (.inl e5)⟩ s6
    have hsh : SqT K G6 a6 [.ref a1, .ref a3, .ref a5] := .inl (.inl e6)
    have k6 : Kp d b H G6 := (((((Kp.same s1).trans k2).trans (Kp.same s3)).trans k4).trans (Kp.same s5)).trans (Kp.same s6)
    have hl6 : SqT K G6 al [.int p, .int q] := hD.seqT k6 hl
    -- heavy
    refine ⟨_, rfl, d, b, c + 2, 1000000, rfl, D6.le (by omega), by omega, by decide, by decide, fun H7 r7 D7 k7 l7 u7 => ?_⟩
    refine ⟨1, r7, rfl, rfl, size63 (show 4 ≤ 1000 by decide), fun a8 f8 => ?_⟩
    generalize hG8 : upd _ a8 _ = G8
    obtain ⟨s8, e8⟩ := alloc hG8 f8
    refine ⟨_, rfl, d, b, c + 3, 4, rfl, (D7.keep s8).le (by omega), by omega, by decide, by decide, fun H9 r9 D9 k9 l9 u9 => ?_⟩
    have e9 := k9 _ _ (D7.ne_d f8) (D7.ne_b f8) e8
    obtain ⟨m, hm0, hm1, hat⟩ : ∃ m : Int, 0 < m ∧ m ≤ 1000000 ∧ atI [V.int 1, V.int 2, V.int 1000000, V.int (1 + r7)] r9 = some (V.int m) := by
      obtain rfl | rfl | rfl | rfl : r9 = 0 ∨ r9 = 1 ∨ r9 = 2 ∨ r9 = 3 := by omega
      · exact ⟨1, by decide, by decide, rfl⟩
      · exact ⟨2, by decide, by decide, rfl⟩
      · exact ⟨1000000, by decide, by decide, rfl⟩
      · exact ⟨1 + r7, by omega, by omega, rfl⟩
    have bm : Bd 21 m := bd21 (n := 1000000) (by decide) (by omega) hm1
    refine ⟨a8, _, r9, _, rfl, rfl, SqL.of e9, hat, ?_⟩
    -- place
    refine ⟨_, rfl, d, b, c + 4, rfl, D9.le (by omega), by omega, fun Ha ra x Da ka ga ba => ?_⟩
    refine ⟨_, rfl, d, b, c + 10, rfl, Da.le (by omega), by omega, fun Hb rb y Db kb gb bb => ?_⟩
    refine ⟨size63 (show 2 ≤ 1000 by decide), fun ac fc => ?_⟩
    generalize hGc : upd _ ac _ = Gc
    obtain ⟨sc, ec⟩ := alloc hGc fc
    refine ⟨size63 (show 2 ≤ 1000 by decide), fun ad fd => ?_⟩
    generalize hGd : upd _ ad _ = Gd
    obtain ⟨sd, ed⟩ := alloc hGd fd
    refine ⟨size63 (show 2 ≤ 1000 by decide), fun ae fe => ?_⟩
    generalize hGe : upd _ ae _ = Ge
    obtain ⟨se, ee⟩ := alloc hGe fe
    refine ⟨size63 (show 2 ≤ 1000 by decide), fun af ff => ?_⟩
    generalize hGf : upd _ af _ = Gf
    obtain ⟨sf, ef⟩ := alloc hGf ff
    have kf : Kp d b G6 Gf := (((((((k7.trans (Kp.same s8)).trans k9).trans ka).trans kb).trans (Kp.same sc)).trans (Kp.same sd)).trans (Kp.same se)).trans (Kp.same sf)
    have scf := (sd.trans se).trans sf
    have Df : Deck K Gf d b (c + 16) := ((Db.keep sc).keep scf).le (by omega)
    have hplace : SpQ K Gf (.ref ac) x y := SpQ.keep ⟨ac, ra, rb, rfl, .inl (.inl ec), (ga.deck Da kb).keep sc, gb.keep sc⟩ scf
    have hstill : SpQ K Gf (.ref af) 0 0 := ⟨af, _, _, rfl, .inl (.inl ef), ⟨ad, rfl, .inl (.inl (sf _ _ (se _ _ ed)))⟩, ⟨ae, rfl, .inl (.inl (sf _ _ ee))⟩⟩
    have hshf := D6.seqT kf hsh
    have p1f := p1.deck D6 kf
    have p2f := p2.deck D6 kf
    have p3f := p3.deck D6 kf
    have hlf := D6.seqT kf hl6
    have kk := k6.trans kf
    have fin : ∀ (z : Str) (rl : V) (kn : Kn) (ag : Addr) (Gg : Hp), PyData.canLay0 (.str z) = true → RailAt K Gf kn rl → Same Gf Gg → Gg ag = some (.tup [.str z, .ref a6, .int kn.mass, rl, .ref ac, .ref af]) → RowD K Gg ag kn := fun z rl kn ag Gg h0 hr s' e' =>
      ⟨z, a6, _, _, _, rl, _, _, _, _, _, x, y, 0, 0, h0, .inl (.inl e'), Same.seqT s' hshf, p1f.keep s', p2f.keep s', p3f.keep s', hr.keep s', hplace.keep s', hstill.keep s'⟩
    refine ⟨_, rfl, rfl, _, rfl, ite2 (fun e => ?_) (fun e => ?_)⟩
    · refine ⟨_, rfl, _, rfl, _, rfl, size63 (show 6 ≤ 1000 by decide), fun ag fg => ?_⟩
      generalize hGg : upd _ ag _ = Gg
      obtain ⟨sg, eg⟩ := alloc hGg fg
      exact Qk _ ag .wall (Df.keep sg) (kk.trans (Kp.same sg)) (fin _ .non .wall ag Gg (by decide +kernel) rfl sg eg) trivial (.inl ⟨V.int.inj (of_decide_eq_true e), rfl⟩)
    · refine ⟨_, rfl, rfl, _, rfl, ite2 (fun e2 => ?_) (fun e2 => ?_)⟩
      · refine ⟨_, rfl, _, rfl, _, rfl, _, rfl, size63 (show 6 ≤ 1000 by decide), fun ag fg => ?_⟩
        generalize hGg : upd _ ag _ = Gg
        obtain ⟨sg, eg⟩ := alloc hGg fg
        exact Qk _ ag (.free m) (Df.keep sg) (kk.trans (Kp.same sg)) (fin _ .non (.free m) ag Gg (by decide +kernel) rfl sg eg) ⟨hm0, bm⟩ (.inr (.inl ⟨V.int.inj (of_decide_eq_true e2), m, rfl⟩))
      · have hkd : kd = 2 := by
          have g0 : kd ≠ 0 := fun z => e (decide_eq_true (congrArg V.int z))
          have g1 : kd ≠ 1 := fun z => e2 (decide_eq_true (congrArg V.int z))
          omega
        refine ⟨_, rfl, _, rfl, _, rfl, _, rfl, _, rfl, size63 (show 6 ≤ 1000 by decide), fun ag fg => ?_⟩
        generalize hGg : upd _ ag _ = Gg
        obtain ⟨sg, eg⟩ := alloc hGg fg
        exact Qk _ ag (.rail m p q) (Df.keep sg) (kk.trans (Kp.same sg)) (fin _ (.ref al) (.rail m p q) ag Gg (by decide +kernel) ⟨al, rfl, hlf⟩ sg eg) ⟨hm0, bm, bp, bq, hnz⟩ (.inr (.inr ⟨hkd, m, rfl⟩))
/-! ### what the answers are worth -/
theorem cast_N (m p q : Int) : ((m * (p * p + q * q) : Int) : Rat) = (m : Rat) * ((p : Rat) * p + (q : Rat) * q) := by
  simp only [Rat.intCast_mul, Rat.intCast_add]
theorem railC_eq {p q m : Int} (hm : 0 < m) (h : ¬ (p = 0 ∧ q = 0)) (x y : Rat) : railC p q m x y * ((m : Rat) * ((p : Rat) * p + (q : Rat) * q)) = (p : Rat) * x + (q : Rat) * y := by
  unfold railC
  rw [← cast_N]
  exact Rat.div_mul_cancel (int_ne0 (Int.mul_pos hm (sq_pos h)))
theorem N_ne {p q m : Int} (hm : 0 < m) (h : ¬ (p = 0 ∧ q = 0)) : (m : Rat) * ((p : Rat) * p + (q : Rat) * q) ≠ 0 := by
  rw [← cast_N]
  exact int_ne0 (Int.mul_pos hm (sq_pos h))
theorem N_pos {p q m : Int} (hm : 0 < m) (h : ¬ (p = 0 ∧ q = 0)) : 0 < (m : Rat) * ((p : Rat) * p + (q : Rat) * q) := by
  rw [← cast_N]
  have := Int.mul_pos hm (sq_pos h)
  exact_mod_cast this
theorem inv_mul {m : Int} (hm : 0 < m) : (m : Rat)⁻¹ * (m : Rat) = 1 := Rat.inv_mul_cancel _ (int_ne0 hm)
theorem sq_nn (a : Rat) : 0 ≤ a * a := by
  rcases (Rat.le_total : (0 : Rat) ≤ a ∨ a ≤ 0) with h | h
  · exact Rat.mul_nonneg h h
  · have h2 : 0 ≤ -a := by grind
    have := Rat.mul_nonneg h2 h2
    have e : -a * -a = a * a := by grind
    rw [e] at this
    exact this
theorem sq_zero {a : Rat} (h : a * a = 0) : a = 0 := by
  rcases Rat.mul_eq_zero.mp h with h | h <;> exact h
def Kn.mays : Kn → List (Rat × Rat)
  | .wall => []
  | .free _ => [(1, 0), (0, 1)]
  | .rail _ p q => [((p : Rat), (q : Rat))]
theorem may_ans {kn : Kn} (x y : Rat) : kn.may (kn.ans x y).1 (kn.ans x y).2 := by
  cases kn with
  | wall => exact ⟨rfl, rfl⟩
  | free m => exact trivial
  | rail m p q =>
    show (p : Rat) * ((q : Rat) * railC p q m x y) - (q : Rat) * ((p : Rat) * railC p q m x y) = 0
    grind
theorem may_kick {kn : Kn} (x y : Rat) : kn.may (kn.kick x y).1 (kn.kick x y).2 := by
  cases kn with
  | wall => exact ⟨rfl, rfl⟩
  | free m => exact trivial
  | rail m p q =>
    show (p : Rat) * ((q : Rat) * railC p q 1 x y) - (q : Rat) * ((p : Rat) * railC p q 1 x y) = 0
    grind
theorem int_zero {p : Int} (h : (p : Rat) = 0) : p = 0 := by exact_mod_cast h
theorem dot_nn {kn : Kn} (ok : kn.Ok) (x y : Rat) : 0 ≤ x * (kn.ans x y).1 + y * (kn.ans x y).2 ∧ (x * (kn.ans x y).1 + y * (kn.ans x y).2 = 0 ↔ (kn.ans x y).1 = 0 ∧ (kn.ans x y).2 = 0) := by
  cases kn with
  | wall =>
    show 0 ≤ x * 0 + y * 0 ∧ (x * 0 + y * 0 = 0 ↔ (0 : Rat) = 0 ∧ (0 : Rat) = 0)
    have e : x * 0 + y * 0 = 0 := by grind
    rw [e]
    exact ⟨Rat.le_refl, fun _ => ⟨rfl, rfl⟩, fun _ => rfl⟩
  | free m =>
    have hi := inv_mul ok.1
    have hm : (0 : Rat) < (m : Rat) := by exact_mod_cast ok.1
    show 0 ≤ x * (x * (m : Rat)⁻¹) + y * (y * (m : Rat)⁻¹) ∧ (x * (x * (m : Rat)⁻¹) + y * (y * (m : Rat)⁻¹) = 0 ↔ x * (m : Rat)⁻¹ = 0 ∧ y * (m : Rat)⁻¹ = 0)
    generalize (m : Rat)⁻¹ = i at *
    have e : x * (x * i) + y * (y * i) = (m : Rat) * ((x * i) * (x * i) + (y * i) * (y * i)) := by grind
    have h1 := sq_nn (x * i)
    have h2 := sq_nn (y * i)
    have h3 : 0 ≤ (x * i) * (x * i) + (y * i) * (y * i) := by grind
    refine ⟨by rw [e]; exact Rat.mul_nonneg (Rat.le_of_lt hm) h3, fun z => ?_, fun z => ?_⟩
    · rw [e] at z
      rcases Rat.mul_eq_zero.mp z with z | z
      · rw [z] at hm; exact absurd hm (Rat.lt_irrefl)
      · have z1 : (x * i) * (x * i) = 0 := by grind
        have z2 : (y * i) * (y * i) = 0 := by grind
        exact ⟨sq_zero z1, sq_zero z2⟩
    · rw [z.1, z.2]
      grind
  | rail m p q =>
    have hc := railC_eq ok.1 ok.2.2.2.2 x y
    have hN := N_pos ok.1 ok.2.2.2.2
    show 0 ≤ x * ((p : Rat) * railC p q m x y) + y * ((q : Rat) * railC p q m x y) ∧ (x * ((p : Rat) * railC p q m x y) + y * ((q : Rat) * railC p q m x y) = 0 ↔ (p : Rat) * railC p q m x y = 0 ∧ (q : Rat) * railC p q m x y = 0)
    generalize railC p q m x y = c at *
    generalize hNN : (m : Rat) * ((p : Rat) * p + (q : Rat) * q) = N at *
    have e : x * ((p : Rat) * c) + y * ((q : Rat) * c) = N * (c * c) := by grind
    refine ⟨by rw [e]; exact Rat.mul_nonneg (Rat.le_of_lt hN) (sq_nn c), fun z => ?_, fun z => ?_⟩
    · rw [e] at z
      rcases Rat.mul_eq_zero.mp z with z | z
      · rw [z] at hN; exact absurd hN (Rat.lt_irrefl)
      · have := sq_zero z
        rw [this]
        grind
    · have : c = 0 := by
        rcases Rat.mul_eq_zero.mp z.1 with h | h
        · rcases Rat.mul_eq_zero.mp z.2 with g | g
          · exact absurd ⟨int_zero h, int_zero g⟩ ok.2.2.2.2
          · exact g
        · exact h
      rw [this]
      grind
theorem left_zero {kn : Kn} (ok : kn.Ok) (x y : Rat) : ∀ z ∈ kn.mays, (x + (kn.ans x y).1 * ((-kn.mass : Int) : Rat)) * z.1 + (y + (kn.ans x y).2 * ((-kn.mass : Int) : Rat)) * z.2 = 0 := by
  intro z hz
  cases kn with
  | wall => cases hz
  | free m =>
    have hi := inv_mul ok.1
    have e : ((-(Kn.free m).mass : Int) : Rat) = -(m : Rat) := Rat.intCast_neg m
    rw [e]
    show (x + x * (m : Rat)⁻¹ * -(m : Rat)) * z.1 + (y + y * (m : Rat)⁻¹ * -(m : Rat)) * z.2 = 0
    grind
  | rail m p q =>
    have hc := railC_eq ok.1 ok.2.2.2.2 x y
    have e : ((-(Kn.rail m p q).mass : Int) : Rat) = -(m : Rat) := Rat.intCast_neg m
    rw [e, List.mem_singleton.mp hz]
    show (x + (p : Rat) * railC p q m x y * -(m : Rat)) * (p : Rat) + (y + (q : Rat) * railC p q m x y * -(m : Rat)) * (q : Rat) = 0
    grind
theorem ans_mass {kn : Kn} (ok : kn.Ok) (h : kn.mass ≠ 0) (x y : Rat) : kn.ans (x * (kn.mass : Rat)) (y * (kn.mass : Rat)) = kn.kick x y := by
  cases kn with
  | wall => exact absurd rfl h
  | free m =>
    have hi := inv_mul ok.1
    show (x * (m : Rat) * (m : Rat)⁻¹, y * (m : Rat) * (m : Rat)⁻¹) = (x, y)
    have e1 : x * (m : Rat) * (m : Rat)⁻¹ = x := by grind
    have e2 : y * (m : Rat) * (m : Rat)⁻¹ = y := by grind
    rw [e1, e2]
  | rail m p q =>
    have h1 := railC_eq ok.1 ok.2.2.2.2 (x * (m : Rat)) (y * (m : Rat))
    have h2 := railC_eq (show (0 : Int) < 1 by decide) ok.2.2.2.2 x y
    have hN := N_ne ok.1 ok.2.2.2.2
    have e : railC p q m (x * (m : Rat)) (y * (m : Rat)) = railC p q 1 x y := by
      have e1 : ((1 : Int) : Rat) = 1 := rfl
      rw [e1] at h2
      generalize railC p q m (x * (m : Rat)) (y * (m : Rat)) = c1 at *
      generalize railC p q 1 x y = c2 at *
      have : (c1 - c2) * ((m : Rat) * ((p : Rat) * p + (q : Rat) * q)) = 0 := by grind
      rcases Rat.mul_eq_zero.mp this with z | z
      · grind
      · exact absurd z hN
    show ((p : Rat) * railC p q m (x * (m : Rat)) (y * (m : Rat)), (q : Rat) * railC p q m (x * (m : Rat)) (y * (m : Rat))) = ((p : Rat) * railC p q 1 x y, (q : Rat) * railC p q 1 x y)
    rw [e]
theorem two_dot {kn : Kn} (ok : kn.Ok) (x y x' y' : Rat) : x * (kn.ans x' y').1 + y * (kn.ans x' y').2 = x' * (kn.ans x y).1 + y' * (kn.ans x y).2 := by
  cases kn with
  | wall =>
    show x * 0 + y * 0 = x' * 0 + y' * 0
    grind
  | free m =>
    show x * (x' * (m : Rat)⁻¹) + y * (y' * (m : Rat)⁻¹) = x' * (x * (m : Rat)⁻¹) + y' * (y * (m : Rat)⁻¹)
    grind
  | rail m p q =>
    have h1 := railC_eq ok.1 ok.2.2.2.2 x y
    have h2 := railC_eq ok.1 ok.2.2.2.2 x' y'
    show x * ((p : Rat) * railC p q m x' y') + y * ((q : Rat) * railC p q m x' y') = x' * ((p : Rat) * railC p q m x y) + y' * ((q : Rat) * railC p q m x y)
    generalize railC p q m x y = c at *
    generalize railC p q m x' y' = c' at *
    generalize (m : Rat) * ((p : Rat) * p + (q : Rat) * q) = N at *
    grind
theorem ans_add {kn : Kn} (ok : kn.Ok) (x y x' y' : Rat) : kn.ans (x + x') (y + y') = ((kn.ans x y).1 + (kn.ans x' y').1, (kn.ans x y).2 + (kn.ans x' y').2) := by
  cases kn with
  | wall =>
    show ((0 : Rat), (0 : Rat)) = (0 + 0, 0 + 0)
    have : (0 : Rat) + 0 = 0 := by grind
    rw [this]
  | free m =>
    show ((x + x') * (m : Rat)⁻¹, (y + y') * (m : Rat)⁻¹) = (x * (m : Rat)⁻¹ + x' * (m : Rat)⁻¹, y * (m : Rat)⁻¹ + y' * (m : Rat)⁻¹)
    have e1 : (x + x') * (m : Rat)⁻¹ = x * (m : Rat)⁻¹ + x' * (m : Rat)⁻¹ := by grind
    have e2 : (y + y') * (m : Rat)⁻¹ = y * (m : Rat)⁻¹ + y' * (m : Rat)⁻¹ := by grind
    rw [e1, e2]
  | rail m p q =>
    have h1 := railC_eq ok.1 ok.2.2.2.2 x y
    have h2 := railC_eq ok.1 ok.2.2.2.2 x' y'
    have h3 := railC_eq ok.1 ok.2.2.2.2 (x + x') (y + y')
    have hN := N_ne ok.1 ok.2.2.2.2
    have e : railC p q m (x + x') (y + y') = railC p q m x y + railC p q m x' y' := by
      generalize railC p q m x y = c1 at *
      generalize railC p q m x' y' = c2 at *
      generalize railC p q m (x + x') (y + y') = c3 at *
      generalize (m : Rat) * ((p : Rat) * p + (q : Rat) * q) = N at *
      have : (c3 - (c1 + c2)) * N = 0 := by grind
      rcases Rat.mul_eq_zero.mp this with z | z
      · grind
      · exact absurd z hN
    show ((p : Rat) * railC p q m (x + x') (y + y'), (q : Rat) * railC p q m (x + x') (y + y')) = ((p : Rat) * railC p q m x y + (p : Rat) * railC p q m x' y', (q : Rat) * railC p q m x y + (q : Rat) * railC p q m x' y')
    rw [e]
    have e1 : (p : Rat) * (railC p q m x y + railC p q m x' y') = (p : Rat) * railC p q m x y + (p : Rat) * railC p q m x' y' := by grind
    have e2 : (q : Rat) * (railC p q m x y + railC p q m x' y') = (q : Rat) * railC p q m x y + (q : Rat) * railC p q m x' y' := by grind
    rw [e1, e2]
theorem railC_bd {p q m : Int} {n : Nat} {x y : Rat} (hm : 0 < m) (bm : Bd 21 m) (bp : Bd 21 p) (bq : Bd 21 q) (h : ¬ (p = 0 ∧ q = 0)) (bx : BdQ n x) (bY : BdQ n y) : BdQ (2 * n + 107) (railC p q m x y) := by
  have bal : BdQ (21 + n + (21 + n) + 1) ((p : Rat) * x + (q : Rat) * y) := ((bdq_int bp (by decide)).mul bx).add ((bdq_int bq (by decide)).mul bY)
  exact (bal.div (Int.mul_pos hm (sq_pos h)) (bm.mul ((bp.mul bp).add (bq.mul bq))) (by decide)).le (by omega)
theorem bdq_zero (n : Nat) (h : 0 < n) : BdQ n 0 := ⟨Nat.lt_of_lt_of_le (by decide : (0 : Nat) < 1) (Nat.one_le_two_pow), Nat.one_lt_two_pow (by omega)⟩
theorem ans_bd {kn : Kn} (ok : kn.Ok) {n : Nat} {x y : Rat} (bx : BdQ n x) (bY : BdQ n y) : BdQ (2 * n + 128) (kn.ans x y).1 ∧ BdQ (2 * n + 128) (kn.ans x y).2 := by
  cases kn with
  | wall => exact ⟨bdq_zero _ (by omega), bdq_zero _ (by omega)⟩
  | free m =>
    obtain ⟨i1, i2⟩ := inv_rep (q := (m : Rat)) ok.1
    have bi : BdQ 21 ((m : Rat)⁻¹) := ⟨by rw [i1]; exact (by unfold Bd; decide : Bd 21 ((1 : Nat) : Int)), by rw [i2]; exact ok.2⟩
    exact ⟨(bx.mul bi).le (by omega), (bY.mul bi).le (by omega)⟩
  | rail m p q =>
    have hc := railC_bd ok.1 ok.2.1 ok.2.2.1 ok.2.2.2.1 ok.2.2.2.2 bx bY
    exact ⟨((bdq_int ok.2.2.1 (by decide)).mul hc).le (by omega), ((bdq_int ok.2.2.2.1 (by decide)).mul hc).le (by omega)⟩
theorem kick_bd {kn : Kn} (ok : kn.Ok) {n : Nat} {x y : Rat} (bx : BdQ n x) (bY : BdQ n y) : BdQ (2 * n + 128) (kn.kick x y).1 ∧ BdQ (2 * n + 128) (kn.kick x y).2 := by
  cases kn with
  | wall => exact ⟨bdq_zero _ (by omega), bdq_zero _ (by omega)⟩
  | free m => exact ⟨bx.le (by omega), bY.le (by omega)⟩
  | rail m p q =>
    have hc := railC_bd (m := 1) (by decide) (by unfold Bd; decide) ok.2.2.1 ok.2.2.2.1 ok.2.2.2.2 bx bY
    exact ⟨((bdq_int ok.2.2.1 (by decide)).mul hc).le (by omega), ((bdq_int ok.2.2.2.1 (by decide)).mul hc).le (by omega)⟩
theorem mays_bd {kn : Kn} (ok : kn.Ok) : ∀ z ∈ kn.mays, BdQ 22 z.1 ∧ BdQ 22 z.2 := by
  intro z hz
  cases kn with
  | wall => cases hz
  | free m =>
    simp only [Kn.mays, List.mem_cons, List.not_mem_nil, or_false] at hz
    rcases hz with rfl | rfl
    · exact ⟨⟨by unfold Bd; decide, by unfold Bd; decide⟩, bdq_zero _ (by decide)⟩
    · exact ⟨bdq_zero _ (by decide), ⟨by unfold Bd; decide, by unfold Bd; decide⟩⟩
  | rail m p q =>
    rw [List.mem_singleton.mp hz]
    exact ⟨(bdq_int ok.2.2.1 (by decide)).le (by decide), (bdq_int ok.2.2.2.1 (by decide)).le (by decide)⟩
theorem eqv_sp0 (x y : Rat) : PyData.eqv (spD x y) (spD 0 0) = decide (x = 0 ∧ y = 0) := by
  by_cases h : x = 0 ∧ y = 0
  · rw [h.1, h.2, eqv_sp]
    rfl
  · rw [decide_eq_false h]
    cases e : PyData.eqv (spD x y) (spD 0 0) with
    | false => rfl
    | true =>
      refine absurd ?_ h
      have e2 : (((x.num == 0) && (((x.den : Int) == 1) && true)) && ((((y.num == 0) && (((y.den : Int) == 1) && true))) && true)) = true := e
      simp only [Bool.and_eq_true, beq_iff_eq, Bool.and_true] at e2
      exact ⟨Rat.num_eq_zero.mp e2.1.1, Rat.num_eq_zero.mp e2.2.1⟩
/-! CUT4 -/
def MaysAt (K : PySem.W.Frag) (H : Hp) (l : Addr) (kn : Kn) : Prop := ∃ us, H l = some (.lst us) ∧ Paired (fun v (z : Rat × Rat) => SpQ K H v z.1 z.2) us kn.mays
theorem MaysAt.keep {K : PySem.W.Frag} {H H' : Hp} {l : Addr} {kn : Kn} (h : MaysAt K H l kn) (k : Same H H') : MaysAt K H' l kn := by
  obtain ⟨us, h1, h2⟩ := h
  exact ⟨us, k _ _ h1, paired_imp (fun _ _ g => g.keep k) h2⟩
theorem body_row {K : PySem.W.Frag} {A : Ad} {H : Hp} {v : V} {kn : Kn} {ar : Addr} (h : BodyAt K A H v kn ar) : ∃ nm sh rl pl st, SqT K H ar [nm, sh, .int kn.mass, rl, pl, st] := by
  obtain ⟨b, dx, nm, sh, rl, pl, st, _, _, h2, _⟩ := h
  exact ⟨nm, sh, rl, pl, st, h2⟩
theorem na (m : Int) (ar : Addr) (nm : V) : (flds ar nm m).lookup ("answer" : Str) = none ∧ (flds ar nm m).lookup ("kick" : Str) = none ∧ (flds ar nm m).lookup ("may" : Str) = none :=
  ⟨flds_no _ _ _ (by decide +kernel) (by decide +kernel) (by decide +kernel), flds_no _ _ _ (by decide +kernel) (by decide +kernel) (by decide +kernel), flds_no _ _ _ (by decide +kernel) (by decide +kernel) (by decide +kernel)⟩
def sp_l_alone (K : PySem.W.Frag) (A : Ad) : Sp := fun vs H Q _ => ∃ (v u r : V) (ar l : Addr) (kn : Kn) (x y : Rat), vs = [v, .ref ar, u, r, .ref l] ∧ kn.Ok ∧ BodyAt K A H v kn ar ∧ SpQ K H u x y ∧ BdQ 122 x ∧ BdQ 122 y ∧ SpQ K H r (kn.ans x y).1 (kn.ans x y).2 ∧ MaysAt K H l kn ∧ ∀ H', Same H H' → Q (.bl true) H'
theorem ok_l_alone (T : Tx K mg A) : FnOk P w K mg base CX0 10 A.f_l_alone A.fd_l_alone ["_law_body", "_law_row_here", "_law_push_here", "_law_answer", "_law_mays"] (sp_l_alone K A) := by
  refine T.F_l_alone.ok sc_l_alone (fun vs H Q E h => ?_) (fun cdv Ar outer s H vs Q E hr h => ?_)
  · obtain ⟨v, u, r, ar, l, kn, x, y, rfl, _⟩ := h
    rfl
  · obtain ⟨v, u, r, ar, l, kn, x, y, rfl, ok, hB, hu, bx, bY, hr0, hM, Qk⟩ := h
    obtain ⟨fa, fk, fm, da, dk, dm, B⟩ := bk_of (P := P) (w := w) (base := base) T kn
    refine ⟨_, (pss_cons (ps_set (i := 5) sc_l_alone.nd rfl (.inl rfl) (pe_meth (pv 0) B.cl B.m_kick B.g_kick (hr.mono (by decide)) B.b_kick .nil pass0 (pa_cons (pv 2) pa_nil)))
    (pss_cons (ps_if (PW.pt (pw_or (pt_not (pt_val (pe_call (ok_l_is_spot T) (hr.mono (by decide)) (by rfl) T.g_l_is_spot T.F_l_is_spot.kp T.b_l_is_spot .nil pass0 (pa_cons (pv 3) pa_nil)))) (pw_or1 (pt_not (pt_val (pe_call (ok_l_is_spot T) (hr.mono (by decide)) (by rfl) T.g_l_is_spot T.F_l_is_spot.kp T.b_l_is_spot .nil pass0 (pa_cons (pv 5) pa_nil)))))))
      (pss_one (ps_ret pe_bl))
      pss_nil)
    (pss_cons (ps_if (PW.pt (pw_or (pt_cmpR op_notBl (pe_meth (pv 0) B.cl B.m_may B.g_may (hr.mono (by decide)) B.b_may .nil pass0 (pa_cons (pv 3) pa_nil)) pe_bl (nomark _)) (pw_or1 (pt_cmpR op_notBl (pe_meth (pv 0) B.cl B.m_may B.g_may (hr.mono (by decide)) B.b_may .nil pass0 (pa_cons (pv 5) pa_nil)) pe_bl (nomark _)))))
      (pss_one (ps_ret pe_bl))
      pss_nil)
    (pss_cons (ps_set (i := 6) sc_l_alone.nd rfl (.inl rfl) (pe_call (ok_l_dot T) (hr.mono (by decide)) (by rfl) T.g_l_dot T.F_l_dot.kp T.b_l_dot .nil pass0 (pa_cons (pv 2) (pa_cons (pv 3) pa_nil))))
    (pss_cons (ps_if (PW.pt (pw_or (pt_cmpR op_lt (pe_ix ix_tup (pv 6) pe_int (fun _ _ => rfl)) pe_int (nomark _)) (pw_or1 (pt_cmpR op_ne (pe_cmpR op_eq (pe_ix ix_tup (pv 6) pe_int (fun _ _ => rfl)) pe_int (nomark _)) (pe_cmpR (op_eqD hr.units) (pv 3) (pe_tup (pa_cons (pe_tup (pa_cons pe_int (pa_cons pe_int pa_nil))) (pa_cons (pe_tup (pa_cons pe_int (pa_cons pe_int pa_nil))) pa_nil))) (nomark _)) (nomark _)))))
      (pss_one (ps_ret pe_bl))
      pss_nil)
    (pss_cons (ps_set (i := 7) sc_l_alone.nd rfl (.inl rfl) (pe_call (ok_l_added T) (hr.mono (by decide)) (by rfl) T.g_l_added T.F_l_added.kp T.b_l_added .nil pass0 (pa_cons (pv 2) (pa_cons (pe_call (ok_l_so_many T) (hr.mono (by decide)) (by rfl) T.g_l_so_many T.F_l_so_many.kp T.b_l_so_many .nil pass0 (pa_cons (pv 3) (pa_cons (pe_tup (pa_cons (pe_un un_neg (pe_ix ix_tup (pv 1) pe_int (fun _ _ => rfl))) (pa_cons pe_int pa_nil))) pa_nil))) pa_nil))))
    (pss_cons (ps_for PassesOwn.never rfl (pi_list (pv 4)) (pg_name (i := 8) sc_l_alone.nd rfl (.inl rfl))
      (pss_one (ps_if (pt_cmpR op_ne (pe_ix ix_tup (pe_call (ok_l_dot T) (hr.mono (by decide)) (by rfl) T.g_l_dot T.F_l_dot.kp T.b_l_dot .nil pass0 (pa_cons (pv 7) (pa_cons (pv 8) pa_nil))) pe_int (fun _ _ => rfl)) pe_int (nomark _))
      (pss_one (ps_ret pe_bl))
      pss_nil)))
    (pss_one (ps_ret (pe_or (pe_cmpR op_eq (pe_ix ix_tup (pv 1) pe_int (fun _ _ => rfl)) pe_int (nomark _)) (pe_one (pe_cmpR (op_eqD hr.units) (pe_meth (pv 0) B.cl B.m_answer B.g_answer (hr.mono (by decide)) B.b_answer .nil pass0 (pa_cons (pe_call (ok_l_so_many T) (hr.mono (by decide)) (by rfl) T.g_l_so_many T.F_l_so_many.kp T.b_l_so_many .nil pass0 (pa_cons (pv 2) (pa_cons (pe_tup (pa_cons (pe_ix ix_tup (pv 1) pe_int (fun _ _ => rfl)) (pa_cons pe_int pa_nil))) pa_nil))) pa_nil)) (pv 5) (nomark _))))))))))))), ?_⟩
    have hB' := hB
    obtain ⟨b, dx, nm, sh, rl, pl, st, rfl, hb1, hb2, hb3⟩ := hB
    obtain ⟨na1, na2, na3⟩ := na kn.mass ar nm
    have bx3 : BdQ 300 x := bx.le (by decide)
    have bY3 : BdQ 300 y := bY.le (by decide)
    obtain ⟨ba1, ba2⟩ := ans_bd ok bx bY
    obtain ⟨bk1, bk2⟩ := kick_bd ok bx bY
    -- kick
    refine ⟨_, rfl, b, dx, _, rfl, hb1, na2, _, rfl, .ref b, u, ar, x, y, rfl, ok, hB', hu, bx3, bY3, fun H1 r1 s1 g1 => ?_⟩
    have hr1 := hr0.keep s1
    refine ⟨_, rfl, r, _, _, rfl, hr1, true, rfl, iteF ⟨_, rfl, r1, _, _, rfl, g1, true, rfl, iteF ?_⟩⟩
    -- may
    refine ⟨_, rfl, b, dx, _, rfl, s1 _ _ hb1, na3, _, rfl, .ref b, r, ar, _, _, rfl, ok, hB'.keep s1, hr1, ba1.le (by decide), ba2.le (by decide), may_ans x y, fun H2 s2 => ⟨true, true, rfl, rfl, false, rfl, iteF ?_⟩⟩
    have s12 := s1.trans s2
    refine ⟨_, rfl, b, dx, _, rfl, s12 _ _ hb1, na3, _, rfl, .ref b, r1, ar, _, _, rfl, ok, hB'.keep s12, g1.keep s2, bk1.le (by decide), bk2.le (by decide), may_kick x y, fun H3 s3 => ⟨true, true, rfl, rfl, false, rfl, iteF ?_⟩⟩
    have s13 := s12.trans s3
    -- own
    obtain ⟨dn1, dn2⟩ := dot_nn ok x y
    refine ⟨_, rfl, _, rfl, u, r, x, y, _, _, 122, 400, rfl, hu.keep s13, hr0.keep s13, bx, bY, ba1.le (by decide), ba2.le (by decide), by decide, by decide, fun H4 r4 s4 ⟨a4, e4, h4⟩ => ?_⟩
    subst e4
    have s14 := s13.trans s4
    have hnum : ¬ ((x * (kn.ans x y).1 + y * (kn.ans x y).2).num < 0) := by
      have := Rat.num_nonneg.mpr dn1
      omega
    refine ⟨_, rfl, a4, _, 0, _, rfl, rfl, h4, rfl, _, 0, rfl, rfl, false, congrArg V.bl (decide_eq_false hnum), iteF ?_⟩
    refine ⟨_, rfl, a4, _, 0, _, rfl, rfl, h4, rfl, rfl, _, rfl, size63 (show 2 ≤ 1000 by decide), fun p5 f5 => ?_⟩
    generalize hG5 : upd _ p5 _ = G5
    obtain ⟨s5, e5⟩ := alloc hG5 f5
    refine ⟨size63 (show 2 ≤ 1000 by decide), fun p6 f6 => ?_⟩
    generalize hG6 : upd _ p6 _ = G6
    obtain ⟨s6, e6⟩ := alloc hG6 f6
    refine ⟨size63 (show 2 ≤ 1000 by decide), fun p7 f7 => ?_⟩
    generalize hG7 : upd _ p7 _ = G7
    obtain ⟨s7, e7⟩ := alloc hG7 f7
    have s57 := (s5.trans s6).trans s7
    have s17 := s14.trans s57
    have hz7 : SpQ K G7 (.ref p7) 0 0 := ⟨p7, _, _, rfl, .inl (.inl e7), ⟨p5, rfl, .inl (.inl (s7 _ _ (s6 _ _ e5)))⟩, ⟨p6, rfl, .inl (.inl (s7 _ _ e6))⟩⟩
    refine ⟨_, _, (hr0.keep s17).dp, hz7.dp, shaped_sp _ _, shaped_sp _ _, rfl, false, ?_, iteF ?_⟩
    · rw [eqv_sp0]
      have e : decide (V.int (x * (kn.ans x y).1 + y * (kn.ans x y).2).num = V.int 0) = decide ((kn.ans x y).1 = 0 ∧ (kn.ans x y).2 = 0) := decide_eq_decide.mpr ⟨fun z => dn2.mp (Rat.num_eq_zero.mp (V.int.inj z)), fun z => congrArg V.int (Rat.num_eq_zero.mpr (dn2.mpr z))⟩
      show V.bl (!decide (V.bl (decide (V.int (x * (kn.ans x y).1 + y * (kn.ans x y).2).num = V.int 0)) = V.bl (decide ((kn.ans x y).1 = 0 ∧ (kn.ans x y).2 = 0)))) = V.bl false
      rw [e, decide_eq_true rfl]
      rfl
    -- left
    have bms : Bd 21 kn.mass := by
      cases kn with
      | wall => exact (by unfold Bd; decide : Bd 21 0)
      | free m => exact ok.2
      | rail m p q => exact ok.2.1
    refine ⟨_, rfl, _, rfl, _, rfl, ar, _, 2, _, rfl, rfl, Same.seqT s17 hb2, rfl, kn.mass, rfl, size63 (show 2 ≤ 1000 by decide), fun p8 f8 => ?_⟩
    generalize hG8 : upd _ p8 _ = G8
    obtain ⟨s8, e8⟩ := alloc hG8 f8
    have s18 := s17.trans s8
    refine ⟨r, .ref p8, _, _, ((-kn.mass : Int) : Rat), 400, 21, rfl, hr0.keep s18, ⟨p8, rfl, .inl (.inl e8)⟩, ba1.le (by decide), ba2.le (by decide), bdq_int bms.neg (by decide), by decide, by decide, fun H9 r9 s9 g9 => ?_⟩
    have s19 := s18.trans s9
    refine ⟨u, r9, x, y, _, _, 122, 421, rfl, hu.keep s19, g9, bx, bY, (ba1.le (by decide : 2 * 122 + 128 ≤ 400)).mul (bdq_int bms.neg (by decide)), (ba2.le (by decide : 2 * 122 + 128 ≤ 400)).mul (bdq_int bms.neg (by decide)), by decide, by decide, fun Ha ra sa ga => ?_⟩
    have s1a := s19.trans sa
    have bl1 : BdQ 544 (x + (kn.ans x y).1 * ((-kn.mass : Int) : Rat)) := bx.add ((ba1.le (by decide : 2 * 122 + 128 ≤ 400)).mul (bdq_int bms.neg (by decide)))
    have bl2 : BdQ 544 (y + (kn.ans x y).2 * ((-kn.mass : Int) : Rat)) := bY.add ((ba2.le (by decide : 2 * 122 + 128 ≤ 400)).mul (bdq_int bms.neg (by decide)))
    obtain ⟨us, hM1, hM2⟩ := hM.keep s1a
    refine ⟨_, rfl, l, rfl, ⟨_, SqL.of hM1⟩, for_list (K := K) (a := l) (xs := us) (fun i σ H' => ∃ z6 z8, σ = [some (.ref b), some (.ref ar), some u, some r, some (.ref l), some r1, z6, some ra, z8] ∧ Same Ha H') ⟨_, _, rfl, Same.refl _⟩ ?_ ?_ ?_⟩
    · rintro i σ H' _ ⟨_, _, _, k'⟩
      exact SqL.of (k' _ _ hM1)
    · rintro i w' σ H' hw ⟨z6, z8, rfl, k'⟩
      obtain ⟨z, hz, hzs⟩ := paired_get hM2 hw
      obtain ⟨bz1, bz2⟩ := mays_bd ok z (List.mem_of_getElem? hz)
      have hz0 := left_zero ok x y z (List.mem_of_getElem? hz)
      refine ⟨_, rfl, _, rfl, ra, w', _, _, z.1, z.2, 544, 22, rfl, ga.keep k', hzs.keep k', bl1, bl2, bz1, bz2, by decide, by decide, fun Hb rb sb ⟨ab, eb, hb⟩ => ?_⟩
      subst eb
      rw [hz0] at hb
      exact ⟨ab, _, 0, _, rfl, rfl, hb, rfl, rfl, false, rfl, iteF ⟨_, _, rfl, k'.trans sb⟩⟩
    · rintro σ Hb ⟨z6, z8, rfl, kb⟩
      have s1b := s1a.trans kb
      refine ⟨_, rfl, ar, _, 2, _, rfl, rfl, Same.seqT s1b hb2, rfl, rfl, _, rfl, ?_⟩
      refine ite2 (fun e => ?_) (fun e => ?_)
      · exact Qk _ s1b
      · have hm0 : kn.mass ≠ 0 := fun z => e (decide_eq_true (congrArg V.int z))
        refine ⟨_, rfl, b, dx, _, rfl, s1b _ _ hb1, na1, _, rfl, _, rfl, ar, _, 2, _, rfl, rfl, Same.seqT s1b hb2, rfl, size63 (show 2 ≤ 1000 by decide), fun pc fc => ?_⟩
        generalize hGc : upd _ pc _ = Gc
        obtain ⟨sc, ec⟩ := alloc hGc fc
        have s1c := s1b.trans sc
        refine ⟨u, .ref pc, x, y, (kn.mass : Rat), 122, 21, rfl, hu.keep s1c, ⟨pc, rfl, .inl (.inl ec)⟩, bx, bY, bdq_int bms (by decide), by decide, by decide, fun Hd rd sd gd => ?_⟩
        have s1d := s1c.trans sd
        refine ⟨.ref b, rd, ar, _, _, rfl, ok, hB'.keep s1d, gd, (bx.mul (bdq_int bms (by decide))).le (by decide), (bY.mul (bdq_int bms (by decide))).le (by decide), fun He re se ge => ?_⟩
        rw [ans_mass ok hm0] at ge
        have hk : SpQ K He r1 (kn.kick x y).1 (kn.kick x y).2 := by
          have st : Same H1 He := ((((((((((s2.trans s3).trans s4).trans s57).trans s8).trans s9).trans sa).trans kb).trans sc).trans sd).trans se)
          exact g1.keep st
        refine ⟨_, rfl, _, _, ge.dp, hk.dp, shaped_sp _ _, shaped_sp _ _, ?_⟩
        rw [eqv_sp]
        exact Qk _ (s1d.trans se)
def sp_l_two (K : PySem.W.Frag) (A : Ad) : Sp := fun vs H Q _ => ∃ (v u u' r r' : V) (ar : Addr) (kn : Kn) (x y x' y' : Rat), vs = [v, u, u', r, r'] ∧ kn.Ok ∧ BodyAt K A H v kn ar ∧ SpQ K H u x y ∧ SpQ K H u' x' y' ∧ BdQ 122 x ∧ BdQ 122 y ∧ BdQ 122 x' ∧ BdQ 122 y' ∧ SpQ K H r (kn.ans x y).1 (kn.ans x y).2 ∧ SpQ K H r' (kn.ans x' y').1 (kn.ans x' y').2 ∧ ∀ H', Same H H' → Q (.bl true) H'
theorem ok_l_two (T : Tx K mg A) : FnOk P w K mg base CX0 10 A.f_l_two A.fd_l_two ["_law_body", "_law_one", "_law_other", "_law_here", "_law_there"] (sp_l_two K A) := by
  refine T.F_l_two.ok sc_l_two (fun vs H Q E h => ?_) (fun cdv Ar outer s H vs Q E hr h => ?_)
  · obtain ⟨v, u, u', r, r', ar, kn, x, y, x', y', rfl, _⟩ := h
    rfl
  · obtain ⟨v, u, u', r, r', ar, kn, x, y, x', y', rfl, ok, hB, hu, hu', bx, bY, bx', bY', hr0, hr0', Qk⟩ := h
    obtain ⟨fa, fk, fm, da, dk, dm, B⟩ := bk_of (P := P) (w := w) (base := base) T kn
    refine ⟨_, (pss_cons (ps_if (pt_cmpR (op_neD hr.units) (pe_call (ok_l_dot T) (hr.mono (by decide)) (by rfl) T.g_l_dot T.F_l_dot.kp T.b_l_dot .nil pass0 (pa_cons (pv 1) (pa_cons (pv 4) pa_nil))) (pe_call (ok_l_dot T) (hr.mono (by decide)) (by rfl) T.g_l_dot T.F_l_dot.kp T.b_l_dot .nil pass0 (pa_cons (pv 2) (pa_cons (pv 3) pa_nil))) (nomark _))
      (pss_one (ps_ret pe_bl))
      pss_nil)
    (pss_one (ps_ret (pe_cmpR (op_eqD hr.units) (pe_meth (pv 0) B.cl B.m_answer B.g_answer (hr.mono (by decide)) B.b_answer .nil pass0 (pa_cons (pe_call (ok_l_added T) (hr.mono (by decide)) (by rfl) T.g_l_added T.F_l_added.kp T.b_l_added .nil pass0 (pa_cons (pv 1) (pa_cons (pv 2) pa_nil))) pa_nil)) (pe_call (ok_l_added T) (hr.mono (by decide)) (by rfl) T.g_l_added T.F_l_added.kp T.b_l_added .nil pass0 (pa_cons (pv 3) (pa_cons (pv 4) pa_nil))) (nomark _))))), ?_⟩
    have hB' := hB
    obtain ⟨b, dx, nm, sh, rl, pl, st, rfl, hb1, hb2, hb3⟩ := hB
    obtain ⟨na1, na2, na3⟩ := na kn.mass ar nm
    obtain ⟨ba1, ba2⟩ := ans_bd ok bx bY
    obtain ⟨ba1', ba2'⟩ := ans_bd ok bx' bY'
    refine ⟨_, rfl, _, rfl, u, r', x, y, _, _, 122, 400, rfl, hu, hr0', bx, bY, ba1'.le (by decide), ba2'.le (by decide), by decide, by decide, fun H1 r1 s1 g1 => ?_⟩
    refine ⟨_, rfl, _, rfl, u', r, x', y', _, _, 122, 400, rfl, hu'.keep s1, hr0.keep s1, bx', bY', ba1.le (by decide), ba2.le (by decide), by decide, by decide, fun H2 r2 s2 g2 => ?_⟩
    have s12 := s1.trans s2
    rw [← two_dot ok x y x' y'] at g2
    refine ⟨_, _, (g1.keep s2).dp, g2.dp, shaped_sh _, shaped_sh _, false, ?_, iteF ?_⟩
    · rw [eqv_sh]; rfl
    refine ⟨_, rfl, b, dx, _, rfl, s12 _ _ hb1, na1, _, rfl, _, rfl, u, u', x, y, x', y', 122, 122, rfl, hu.keep s12, hu'.keep s12, bx, bY, bx', bY', by decide, by decide, fun H3 r3 s3 g3 => ?_⟩
    have s13 := s12.trans s3
    refine ⟨.ref b, r3, ar, _, _, rfl, ok, hB'.keep s13, g3, (bx.add bx').le (by decide), (bY.add bY').le (by decide), fun H4 r4 s4 g4 => ?_⟩
    have s14 := s13.trans s4
    refine ⟨_, rfl, _, rfl, r, r', _, _, _, _, 400, 400, rfl, hr0.keep s14, hr0'.keep s14, ba1.le (by decide), ba2.le (by decide), ba1'.le (by decide), ba2'.le (by decide), by decide, by decide, fun H5 r5 s5 g5 => ?_⟩
    rw [ans_add ok] at g4
    refine ⟨_, _, (g4.keep s5).dp, g5.dp, shaped_sp _ _, shaped_sp _ _, ?_⟩
    rw [eqv_sp]
    exact Qk _ (s14.trans s5)
/-! CUT -/
def tEx {ι : Type} (t : ι → TE) : TE := fun σ H Q => ∃ i, t i σ H Q
theorem pe_ex {ι : Type} {X : Cx} {e : Expr} {t : ι → TE} (h : ∀ i, PE X e (t i)) : PE X e (tEx t) := ⟨fun pins s σ H Q I ⟨i, q⟩ => (h i).run pins s σ H Q I q⟩
def SpP (K : PySem.W.Frag) (H : Hp) (v : V) (z : Rat × Rat) : Prop := SpQ K H v z.1 z.2 ∧ BdQ 122 z.1 ∧ BdQ 122 z.2
def AnsP (K : PySem.W.Frag) (H : Hp) (kn : Kn) (v : V) (z : Rat × Rat) : Prop := SpQ K H v (kn.ans z.1 z.2).1 (kn.ans z.1 z.2).2
theorem SpQ.upd_lst {K : PySem.W.Frag} {H : Hp} {p : Addr} {v : V} {x y : Rat} {ys : List V} {o : HO} (h : SpQ K H v x y) (hp : H p = some (.lst ys)) : SpQ K (upd H p o) v x y := by
  obtain ⟨a, v1, v2, e, h1, ⟨a1, e1, t1⟩, ⟨a2, e2, t2⟩⟩ := h
  exact ⟨a, v1, v2, e, SqT.upd_lst h1 hp, ⟨a1, e1, SqT.upd_lst t1 hp⟩, ⟨a2, e2, SqT.upd_lst t2 hp⟩⟩
theorem Sc.deck {K : PySem.W.Frag} {H H' : Hp} {s d b : Addr} {ns : List Int} {c : Int} (h : Sc K H s ns) (D : Deck K H d b c) (k : Kp d b H H') : Sc K H' s ns := by
  rcases h with ⟨o, h⟩ | h
  · obtain ⟨⟨s', ns', cs, i', k', hd', hb', _⟩, _⟩ := D
    exact .inl ⟨o, k _ _ (fun z => by rw [z, hd'] at h; cases h) (fun z => by rw [z, hb'] at h; cases h) h⟩
  · exact .inr h
theorem BodyAt.deck {K : PySem.W.Frag} {A : Ad} {H H' : Hp} {v : V} {kn : Kn} {ar d b : Addr} {c : Int} (h : BodyAt K A H v kn ar) (D : Deck K H d b c) (k : Kp d b H H') : BodyAt K A H' v kn ar := by
  obtain ⟨x, dx, nm, sh, rl, pl, st, e, h1, h2, h3⟩ := h
  have D' := D
  obtain ⟨⟨s', ns', cs, i', k', hd', hb', _⟩, _⟩ := D'
  exact ⟨x, dx, nm, sh, rl, pl, st, e, k _ _ (fun z => by rw [z, hd'] at h1; cases h1) (fun z => by rw [z, hb'] at h1; cases h1) h1, D.seqT k h2, h3.deck D k⟩
theorem atI_prev {n k : Nat} (h : k < n) : ∃ j, j < n ∧ ∀ xs : List V, xs.length = n → atI xs ((k : Int) - 1) = xs[j]? := by
  cases k with
  | zero =>
    refine ⟨n - 1, by omega, fun xs hl => ?_⟩
    unfold atI ixN
    rw [if_neg (by omega), if_pos (by omega), hl]
    show xs[((0 : Nat) - 1 + n : Int).toNat]? = _
    congr 1
    omega
  | succ k =>
    refine ⟨k, by omega, fun xs hl => ?_⟩
    have e : (((k + 1 : Nat) : Int) - 1) = (k : Int) := by omega
    rw [e, show xs[k]? = some xs[k] from List.getElem?_eq_getElem (by omega)]
    exact atI_nat (List.getElem?_eq_getElem (by omega))
theorem paired_set {α β : Type} {F : α → β → Prop} {a : α} {b : β} (h : F a b) : ∀ {l : List α} {m : List β} (i : Nat), Paired F l m → Paired F (l.set i a) (m.set i b)
  | _, _, _, .nil => .nil
  | _, _, 0, .cons _ r => .cons h r
  | _, _, i + 1, .cons x r => .cons x (paired_set h i r)
theorem clamp14 {L : Int} (h : 0 ≤ L) : ∃ n : Nat, (if (2 + L) < 14 then (2 + L) else 14) = (n : Int) ∧ 2 ≤ n ∧ n ≤ 14 := by
  by_cases h1 : 2 + L < 14
  · rw [if_pos h1]
    exact ⟨(2 + L).toNat, by omega, by omega, by omega⟩
  · rw [if_neg h1]
    exact ⟨14, rfl, by decide, by decide⟩
def sp_law (K : PySem.W.Frag) : Sp := fun vs H Q _ => ∃ (a : Addr) (ns : List Int), vs = [.ref a] ∧ Only H ∧ SqL K H a (ns.map V.int) ∧ ns.length ≤ 63 ∧ ∀ H', Q (.bl true) H'
theorem ok_law (T : Tx K mg A) : FnOk P w K mg base CX0 12 A.f_law A.fd_law ["_law_script"] (sp_law K) := by
  refine T.F_law.ok sc_law (fun vs H Q E h => ?_) (fun cdv Ar outer s H vs Q E hr h => ?_)
  · obtain ⟨a, ns, rfl, _⟩ := h
    rfl
  · obtain ⟨a, ns, rfl, hO, hS, hlen, Qk⟩ := h
    have hSc : Sc K H a ns := .mk hO hS
    refine ⟨_, (pss_cons (ps_set (i := 1) sc_law.nd rfl (.inr rfl) (pe_call (ok_l_deck T) (hr.mono (by decide)) (by rfl) T.g_l_deck T.F_l_deck.kp T.b_l_deck .nil pass0 (pa_cons (pv 0) pa_nil)))
    (pss_cons (ps_set (i := 2) sc_law.nd rfl (.inl rfl) (pe_call (ok_l_take T) (hr.mono (by decide)) (by rfl) T.g_l_take T.F_l_take.kp T.b_l_take .nil pass0 (pa_cons (pv 1) (pa_cons pe_int pa_nil))))
    (pss_cons (ps_set (i := 3) sc_law.nd rfl (.inr rfl) (pe_call (ok_l_line T) (hr.mono (by decide)) (by rfl) T.g_l_line T.F_l_line.kp T.b_l_line .nil pass0 (pa_cons (pv 1) pa_nil)))
    (pss_cons (ps_set (i := 4) sc_law.nd rfl (.inl rfl) (pe_call (ok_l_row T) (hr.mono (by decide)) (by rfl) T.g_l_row T.F_l_row.kp T.b_l_row .nil pass0 (pa_cons (pv 1) (pa_cons (pv 2) (pa_cons (pv 3) pa_nil)))))
    (pss_cons (ps_set (i := 5) sc_law.nd rfl (.inr rfl) (pe_call (ok_p_body_of T) (hr.mono (by decide)) (by rfl) T.g_p_body_of T.F_p_body_of.kp T.b_p_body_of .nil pass0 (pa_cons (pv 4) pa_nil)))
    (pss_cons (ps_set (i := 6) sc_law.nd rfl (.inl rfl) (pe_ix ix_list (pe_lst (pa_cons (pe_lst pa_nil) (pa_cons (pe_lst (pa_cons (pe_tup (pa_cons (pe_tup (pa_cons pe_int (pa_cons pe_int pa_nil))) (pa_cons (pe_tup (pa_cons pe_int (pa_cons pe_int pa_nil))) pa_nil))) (pa_cons (pe_tup (pa_cons (pe_tup (pa_cons pe_int (pa_cons pe_int pa_nil))) (pa_cons (pe_tup (pa_cons pe_int (pa_cons pe_int pa_nil))) pa_nil))) pa_nil))) (pa_cons (pe_lst (pa_cons (pe_tup (pa_cons (pe_tup (pa_cons (pe_ix ix_tup (pv 3) pe_int (fun _ _ => rfl)) (pa_cons pe_int pa_nil))) (pa_cons (pe_tup (pa_cons (pe_ix ix_tup (pv 3) pe_int (fun _ _ => rfl)) (pa_cons pe_int pa_nil))) pa_nil))) pa_nil)) pa_nil)))) (pv 2) (fun _ _ => rfl)))
    (pss_cons (ps_setLc (i := 7) (own := [("_law_k", 9)]) rfl sc_law.nd rfl rfl (sw_true rfl rfl rfl (by decide +kernel)) (pi_range1 (by rfl) T.m_range (pa_cons (pe_callB (call_min2 rfl) (by rfl) T.m_min (by decide +kernel) (pa_cons pe_int (pa_cons (pe_op op_add pe_int (pe_callB call_len_seq (by rfl) T.m_len (by decide +kernel) (pa_cons (pv 0) pa_nil))) pa_nil))) pa_nil)) (blkOk_by (own := [("_law_k", 9)]) (N := ["_law_script", "_law_deck_here", "_law_kind", "_law_line_here", "_law_row_here", "_law_body", "_law_mays", "_law_pushes", "_law_answers", "_law_k", "_law_push_here"]) (sc := defScope s_law) (by decide +kernel)) (fun _ _ _ _ _ => (pg_name (i := 9) sc_law.nd rfl (Or.inl rfl))) (fun _ _ _ _ _ => pts_nil) (fun _ _ _ _ _ => (pe_call (ok_l_push T) (hr.mono (by decide)) (by rfl) T.g_l_push T.F_l_push.kp T.b_l_push .nil pass0 (pa_cons (pv 1) (pa_cons (pv 3) pa_nil)))))
    (pss_cons (ps_if (pt_cmpR op_eq (pe_call (ok_l_take T) (hr.mono (by decide)) (by rfl) T.g_l_take T.F_l_take.kp T.b_l_take .nil pass0 (pa_cons (pv 1) (pa_cons pe_int pa_nil))) pe_int (nomark _))
      (pss_one (ps_asg (pe_ix ix_list (pv 7) pe_int (fun _ _ => rfl)) (pg_sub (pv 7) pe_int set_list)))
      pss_nil)
    (pss_cons (ps_setLc (i := 8) (own := [("_law_push_here", 10)]) rfl sc_law.nd rfl rfl (sw_true rfl rfl rfl (by decide +kernel)) (pi_list (pv 7)) (blkOk_by (own := [("_law_push_here", 10)]) (N := ["_law_script", "_law_deck_here", "_law_kind", "_law_line_here", "_law_row_here", "_law_body", "_law_mays", "_law_pushes", "_law_answers", "_law_k", "_law_push_here"]) (sc := defScope s_law) (by decide +kernel)) (fun _ _ _ _ _ => (pg_name (i := 10) sc_law.nd rfl (Or.inl rfl))) (fun _ _ _ _ _ => pts_nil) (fun _ _ _ _ _ => (pe_ex (t := fun kn => tMeth (Kn.cls A kn) "answer" (sp_ans K A kn kn.ans) [] E0 (tVar 5) (tCons (tVar 10) tNil)) fun kn => match kn with | .wall => pe_meth (pv 5) T.cl_Wall T.mt_m_Wall_answer (ok_m_Wall_answer T) (hr.mono (by decide)) T.b_m_Wall_answer .nil pass0 (pa_cons (pv 10) pa_nil) | .free m => pe_meth (pv 5) T.cl_Free T.mt_m_Free_answer (ok_m_Free_answer T m) (hr.mono (by decide)) T.b_m_Free_answer .nil pass0 (pa_cons (pv 10) pa_nil) | .rail m p q => pe_meth (pv 5) T.cl_Railed T.mt_m_Railed_answer (ok_m_Railed_answer T m p q) (hr.mono (by decide)) T.b_m_Railed_answer .nil pass0 (pa_cons (pv 10) pa_nil))))
    (pss_cons (ps_for PassesOwn.never rfl (pi_range1 (by rfl) T.m_range (pa_cons (pe_callB call_len_seq (by rfl) T.m_len (by decide +kernel) (pa_cons (pv 7) pa_nil)) pa_nil)) (pg_name (i := 9) sc_law.nd rfl (.inl rfl))
      (pss_cons (ps_if (pt_not (pt_val (pe_call (ok_l_alone T) (hr.mono (by decide)) (by rfl) T.g_l_alone T.F_l_alone.kp T.b_l_alone .nil pass0 (pa_cons (pv 5) (pa_cons (pv 4) (pa_cons (pe_ix ix_list (pv 7) (pv 9) (fun _ _ => rfl)) (pa_cons (pe_ix ix_list (pv 8) (pv 9) (fun _ _ => rfl)) (pa_cons (pv 6) pa_nil))))))))
      (pss_one (ps_ret pe_bl))
      pss_nil)
    (pss_one (ps_if (pt_not (pt_val (pe_call (ok_l_two T) (hr.mono (by decide)) (by rfl) T.g_l_two T.F_l_two.kp T.b_l_two .nil pass0 (pa_cons (pv 5) (pa_cons (pe_ix ix_list (pv 7) (pv 9) (fun _ _ => rfl)) (pa_cons (pe_ix ix_list (pv 7) (pe_op op_sub (pv 9) pe_int) (fun _ _ => rfl)) (pa_cons (pe_ix ix_list (pv 8) (pv 9) (fun _ _ => rfl)) (pa_cons (pe_ix ix_list (pv 8) (pe_op op_sub (pv 9) pe_int) (fun _ _ => rfl)) pa_nil))))))))
      (pss_one (ps_ret pe_bl))
      pss_nil))))
    (pss_one (ps_ret (pe_cmpR (op_eqD hr.units) (pe_fld (pv 5) rfl) (pv 4) (nomark _)))))))))))))), ?_⟩
    refine ⟨_, rfl, a, ns, rfl, hSc, hlen, fun H1 d b hd hb D1 k1 => ?_⟩
    have hSc1 := hSc.keep k1
    refine ⟨_, rfl, d, b, 0, 3, rfl, D1, by decide, by decide, by decide, fun H2 kd D2 k2 l2 u2 => ?_⟩
    have hSc2 := hSc1.deck D1 k2
    refine ⟨_, rfl, d, b, 1, rfl, D2, by decide, fun H3 al p q D3 k3 el bp bq hnz => ?_⟩
    have hSc3 := hSc2.deck D2 k3
    refine ⟨_, rfl, _, rfl, _, rfl, d, b, al, 7, kd, p, q, rfl, D3.le (by decide), by decide, l2, u2, .inl (.inl el), bp, bq, hnz, fun H4 ar kn D4 k4 hrow4 ok hki => ?_⟩
    have hSc4 := hSc3.deck D3 k4
    have el4 := D3.tup k4 el
    obtain ⟨fa, fk, fm, da, dk, dm, B⟩ := bk_of (P := P) (w := w) (base := base) T kn
    obtain ⟨z0, s0, w1, w2, w3, rl0, pl0, st0, c1, c2, c3, px, py, sx, sy, y0, y1, y2, y3, y4, y5, y6, y7, y8⟩ := id hrow4
    refine ⟨_, rfl, ar, kn, _, _, _, _, _, rfl, y1, y6, ok, fun H5 vb s5 hbody5 => ?_⟩
    have D5 := D4.keep s5
    have el5 := s5 _ _ el4
    -- mays
    refine ⟨size63 (Nat.zero_le _), fun m0 f0 => ?_⟩
    generalize hG0 : upd _ m0 _ = G0
    obtain ⟨t0, e0⟩ := alloc hG0 f0
    refine ⟨size63 (show 2 ≤ 1000 by decide), fun m1 f1 => ?_⟩
    generalize hG1 : upd _ m1 _ = G1
    obtain ⟨t1, e1⟩ := alloc hG1 f1
    refine ⟨size63 (show 2 ≤ 1000 by decide), fun m2 f2 => ?_⟩
    generalize hG2 : upd _ m2 _ = G2
    obtain ⟨t2, e2⟩ := alloc hG2 f2
    refine ⟨size63 (show 2 ≤ 1000 by decide), fun m3 f3 => ?_⟩
    generalize hG3 : upd _ m3 _ = G3
    obtain ⟨t3, e3⟩ := alloc hG3 f3
    refine ⟨size63 (show 2 ≤ 1000 by decide), fun m4 f4 => ?_⟩
    generalize hG4 : upd _ m4 _ = G4
    obtain ⟨t4, e4⟩ := alloc hG4 f4
    refine ⟨size63 (show 2 ≤ 1000 by decide), fun m5 f5 => ?_⟩
    generalize hG5 : upd _ m5 _ = G5
    obtain ⟨t5, e5⟩ := alloc hG5 f5
    refine ⟨size63 (show 2 ≤ 1000 by decide), fun m6 f6 => ?_⟩
    generalize hG6 : upd _ m6 _ = G6
    obtain ⟨t6, e6⟩ := alloc hG6 f6
    refine ⟨size63 (show 2 ≤ 1000 by decide), fun m7 f7 => ?_⟩
    generalize hG7 : upd _ m7 _ = G7
    obtain ⟨t7, e7⟩ := alloc hG7 f7
    have t07 := ((((((t0.trans t1).trans t2).trans t3).trans t4).trans t5).trans t6).trans t7
    refine ⟨_, rfl, al, _, 0, _, rfl, rfl, .inl (.inl (t07 _ _ el5)), rfl, size63 (show 2 ≤ 1000 by decide), fun m8 f8 => ?_⟩
    generalize hG8 : upd _ m8 _ = G8
    obtain ⟨t8, e8⟩ := alloc hG8 f8
    refine ⟨_, rfl, al, _, 1, _, rfl, rfl, .inl (.inl (t8 _ _ (t07 _ _ el5))), rfl, size63 (show 2 ≤ 1000 by decide), fun m9 f9 => ?_⟩
    generalize hG9 : upd _ m9 _ = G9
    obtain ⟨t9, e9⟩ := alloc hG9 f9
    refine ⟨size63 (show 2 ≤ 1000 by decide), fun ma fa' => ?_⟩
    generalize hGa : upd _ ma _ = Ga
    obtain ⟨ta, ea⟩ := alloc hGa fa'
    refine ⟨size63 (show 1 ≤ 1000 by decide), fun mb fb' => ?_⟩
    generalize hGb : upd _ mb _ = Gb
    obtain ⟨tb, eb⟩ := alloc hGb fb'
    refine ⟨size63 (show 3 ≤ 1000 by decide), fun mc fc' => ?_⟩
    generalize hGc : upd _ mc _ = Gc
    obtain ⟨tc, ec⟩ := alloc hGc fc'
    have t8c := (((t8.trans t9).trans ta).trans tb).trans tc
    have t0c := t07.trans t8c
    have o1 : ShQ K Gc (.ref m1) 1 := ⟨m1, rfl, .inl (.inl (t8c _ _ (t7 _ _ (t6 _ _ (t5 _ _ (t4 _ _ (t3 _ _ (t2 _ _ e1))))))))⟩
    have o2 : ShQ K Gc (.ref m2) 0 := ⟨m2, rfl, .inl (.inl (t8c _ _ (t7 _ _ (t6 _ _ (t5 _ _ (t4 _ _ (t3 _ _ e2)))))))⟩
    have o3 : SpQ K Gc (.ref m3) 1 0 := ⟨m3, _, _, rfl, .inl (.inl (t8c _ _ (t7 _ _ (t6 _ _ (t5 _ _ (t4 _ _ e3)))))), o1, o2⟩
    have o4 : ShQ K Gc (.ref m4) 0 := ⟨m4, rfl, .inl (.inl (t8c _ _ (t7 _ _ (t6 _ _ (t5 _ _ e4)))))⟩
    have o5 : ShQ K Gc (.ref m5) 1 := ⟨m5, rfl, .inl (.inl (t8c _ _ (t7 _ _ (t6 _ _ e5))))⟩
    have o6 : SpQ K Gc (.ref m6) 0 1 := ⟨m6, _, _, rfl, .inl (.inl (t8c _ _ (t7 _ _ e6))), o4, o5⟩
    have o8 : ShQ K Gc (.ref m8) (p : Rat) := ⟨m8, rfl, .inl (.inl (tc _ _ (tb _ _ (ta _ _ (t9 _ _ e8)))))⟩
    have o9 : ShQ K Gc (.ref m9) (q : Rat) := ⟨m9, rfl, .inl (.inl (tc _ _ (tb _ _ (ta _ _ e9))))⟩
    have oa : SpQ K Gc (.ref ma) (p : Rat) (q : Rat) := ⟨ma, _, _, rfl, .inl (.inl (tc _ _ (tb _ _ ea))), o8, o9⟩
    have nd : ∀ {x : Addr} {Hx : Hp}, Same H5 Hx → Hx x = none → x ≠ d ∧ x ≠ b := fun {x Hx} sx hx => ⟨(D5.keep sx).ne_d hx, (D5.keep sx).ne_b hx⟩
    obtain ⟨lm, hatm, hmays, nlm⟩ : ∃ lm, atI [V.ref m0, V.ref m7, V.ref mb] kd = some (V.ref lm) ∧ MaysAt K Gc lm kn ∧ lm ≠ d ∧ lm ≠ b := by
      rcases hki with ⟨rfl, rfl⟩ | ⟨rfl, m, rfl⟩ | ⟨rfl, m, rfl⟩
      · exact ⟨m0, rfl, ⟨[], t8c _ _ (t7 _ _ (t6 _ _ (t5 _ _ (t4 _ _ (t3 _ _ (t2 _ _ (t1 _ _ e0))))))), .nil⟩, nd (Same.refl _) f0⟩
      · exact ⟨m7, rfl, ⟨_, t8c _ _ e7, .cons o3 (.cons o6 .nil)⟩, nd ((((((t0.trans t1).trans t2).trans t3).trans t4).trans t5).trans t6) f7⟩
      · exact ⟨mb, rfl, ⟨_, tc _ _ eb, .cons oa .nil⟩, nd (((t07.trans t8).trans t9).trans ta) fb'⟩
    refine ⟨_, rfl, mc, _, kd, _, rfl, rfl, SqL.of ec, hatm, ?_⟩
    have Dc := D5.keep t0c
    have hbodyc := hbody5.keep t0c
    have hrowc := (hrow4.keep s5).keep t0c
    have hScc := (hSc4.keep s5).keep t0c
    have elc : SqT K Gc al [.int p, .int q] := .inl (.inl (t0c _ _ el5))
    -- pushes
    refine ⟨_, rfl, a, _, rfl, .inl hScc.seq, 2, _, rfl, rfl, 14, _, rfl, ?_⟩
    obtain ⟨n, hn, hn2, hn14⟩ := clamp14 (L := ((ns.map V.int).length : Int)) (Int.natCast_nonneg _)
    rw [hn]
    refine ⟨(n : Int), rfl, by omega, by omega, fun Dl hDl => lc_range (lo := 0) (n := n) (fun i H' => Deck K H' d b (23 + 13 * i) ∧ Kp d b Gc H' ∧ ∃ us zs, H' Dl = some (.lst us) ∧ us.length = i ∧ Paired (SpP K H') us zs) ?_ ?_ ?_⟩
    · exact ⟨(Dc.keep (same_upd hDl)).le (by omega), Kp.same (same_upd hDl), [], [], upd_same, rfl, .nil⟩
    · rintro i H' hi ⟨D', k', us, zs, hD', hl', hP'⟩
      have ndl : Dl ≠ d ∧ Dl ≠ b := ⟨Dc.ne_d hDl, Dc.ne_b hDl⟩
      refine ⟨rfl, _, rfl, _, rfl, d, b, al, _, p, q, rfl, D', by omega, Dc.seqT k' elc, bp, bq, fun H6 r6 x6 y6 D6 k6 g6 bx6 by6 => ?_⟩
      have hD6 := k6 _ _ ndl.1 ndl.2 hD'
      refine ⟨us, hD6, small1000 (by omega), (D6.upd hD6 ndl.1 ndl.2).le (by omega), ?_, us ++ [r6], zs ++ [(x6, y6)], upd_same, by rw [List.length_append, hl']; rfl, ?_⟩
      · intro x o h1 h2 h3
        rw [upd_ne (ne_of_none h3 hDl)]
        exact k6 _ _ h1 h2 (k' _ _ h1 h2 h3)
      · refine Paired.snoc (paired_imp (fun _ _ g => ⟨SpQ.upd_lst (g.1.deck D' k6) hD6, g.2⟩) hP') ⟨SpQ.upd_lst g6 hD6, bx6, by6⟩
    · rintro H6 ⟨D6, k6, us, zs, hD6, hl6, hP6⟩
      have ndl : Dl ≠ d ∧ Dl ≠ b := ⟨Dc.ne_d hDl, Dc.ne_b hDl⟩
      have hbody6 := hbodyc.deck Dc k6
      have hrow6 := hrowc.deck Dc k6
      have hmays6 : MaysAt K H6 lm kn := by
        obtain ⟨vs, h1, h2⟩ := hmays
        exact ⟨vs, k6 _ _ nlm.1 nlm.2 h1, paired_imp (fun _ _ g => SpQ.deck g Dc k6) h2⟩
      refine ⟨_, rfl, d, b, _, 3, rfl, D6, by omega, by decide, by decide, fun H7 r7 D7 k7 l7 u7 => ?_⟩
      have hbody7 := hbody6.deck D6 k7
      have hrow7 := hrow6.deck D6 k7
      have hmays7 : MaysAt K H7 lm kn := by
        obtain ⟨vs, h1, h2⟩ := hmays6
        exact ⟨vs, k7 _ _ nlm.1 nlm.2 h1, paired_imp (fun _ _ g => SpQ.deck g D6 k7) h2⟩
      have hD7 := k7 _ _ ndl.1 ndl.2 hD6
      have hP7 : Paired (SpP K H7) us zs := paired_imp (fun _ _ g => ⟨SpQ.deck g.1 D6 k7, g.2⟩) hP6
      have nlD : lm ≠ Dl := by
        obtain ⟨vs, h1, _⟩ := hmays
        exact ne_of_none h1 hDl
      refine ⟨rfl, _, rfl, ite2 (fun e => ?_) (fun e => ?_)⟩
      · have g0 : us[0]? = some us[0] := List.getElem?_eq_getElem (by omega)
        obtain ⟨z, hz, hzP⟩ := paired_get hP7 g0
        refine ⟨_, rfl, Dl, us, 0, us[0], rfl, rfl, SqL.of hD7, atI_nat (j := 0) g0, _, rfl, Dl, us, 1, 1, rfl, rfl, hD7, ixN_nat (show 1 < us.length by omega), ?_⟩
        generalize hG8' : upd _ Dl _ = H8
        have hD8 : H8 Dl = some (.lst (us.set 1 us[0])) := by rw [← hG8', upd_same]
        have hP8 : Paired (SpP K H8) (us.set 1 us[0]) (zs.set 1 z) := by
          rw [← hG8']
          exact paired_imp (fun _ _ g => ⟨SpQ.upd_lst g.1 hD7, g.2⟩) (paired_set hzP 1 hP7)
        have hbody8 : BodyAt K A H8 vb kn ar := by
          obtain ⟨x, dx, nm, sh, rl, pl, st, e', h1, h2, h3⟩ := hbody7
          rw [← hG8']
          refine ⟨x, dx, nm, sh, rl, pl, st, e', by rw [upd_ne (fun z => by rw [z, hD7] at h1; cases h1)]; exact h1, SqT.upd_lst h2 hD7, ?_⟩
          cases kn with
          | wall => exact h3
          | free m => exact h3
          | rail m p' q' =>
            obtain ⟨a', e'', t'⟩ := h3
            exact ⟨a', e'', SqT.upd_lst t' hD7⟩
        have hrow8 : RowD K H8 ar kn := by
          obtain ⟨z, s, u1, u2, u3, rl, pl, st, c1, c2, c3, px, py, sx, sy, h0, h1, h2, ⟨b1, q1, j1⟩, ⟨b2, q2, j2⟩, ⟨b3, q3, j3⟩, h6, h7, h8⟩ := hrow7
          rw [← hG8']
          refine ⟨z, s, u1, u2, u3, rl, pl, st, c1, c2, c3, px, py, sx, sy, h0, SqT.upd_lst h1 hD7, SqT.upd_lst h2 hD7, ⟨b1, q1, SqT.upd_lst j1 hD7⟩, ⟨b2, q2, SqT.upd_lst j2 hD7⟩, ⟨b3, q3, SqT.upd_lst j3 hD7⟩, ?_, SpQ.upd_lst h7 hD7, SpQ.upd_lst h8 hD7⟩
          cases kn with
          | wall => exact h6
          | free m => exact h6
          | rail m p' q' =>
            obtain ⟨a', e'', t'⟩ := h6
            exact ⟨a', e'', SqT.upd_lst t' hD7⟩
        have hmays8 : MaysAt K H8 lm kn := by
          obtain ⟨vs, h1, h2⟩ := hmays7
          rw [← hG8']
          exact ⟨vs, by rw [upd_ne nlD]; exact h1, paired_imp (fun _ _ g => SpQ.upd_lst g hD7) h2⟩
        have hl8 : (us.set 1 us[0]).length = n := by rw [List.length_set, hl6]
        generalize us.set 1 us[0] = us8 at *
        generalize zs.set 1 z = zs8 at *
        obtain ⟨bB, dxB, nmB, shB, rlB, plB, stB, eB, hb1, hb2, hb3⟩ := id hbody8
        subst eB
        obtain ⟨na1, na2, na3⟩ := na kn.mass ar nmB
        refine ⟨_, rfl, Dl, rfl, ⟨_, SqL.of hD8⟩, fun Da hDa => lc_list (K := K) (a := Dl) (xs := us8) (fun i H' => Same H8 H' ∧ ∃ rs, H' Da = some (.lst rs) ∧ rs.length = i ∧ Paired (AnsP K H' kn) rs (zs8.take i)) ?_ ?_ ?_ ?_⟩
        · exact ⟨same_upd hDa, [], upd_same, rfl, .nil⟩
        · rintro i H' _ ⟨k', _⟩
          exact SqL.of (k' _ _ hD8)
        · rintro i v H' hv ⟨k', rs, hD', hlr, hPr⟩
          have hi : i < us8.length := (List.getElem?_eq_some_iff.mp hv).1
          obtain ⟨z, hz, hzs, bz1, bz2⟩ := paired_get hP8 hv
          refine ⟨rfl, kn, _, rfl, bB, dxB, _, rfl, k' _ _ hb1, na1, _, rfl, .ref bB, v, ar, z.1, z.2, rfl, ok, BodyAt.keep hbody8 k', hzs.keep k', bz1.le (by decide), bz2.le (by decide), fun H2 r2 s2 g2 => ?_⟩
          have hD2 := s2 _ _ hD'
          refine ⟨rs, hD2, small1000 (by omega), ?_, rs ++ [r2], upd_same, by rw [List.length_append, hlr]; rfl, ?_⟩
          · intro b' o' h'
            rw [upd_ne (ne_of_none h' hDa)]
            exact s2 _ _ (k' _ _ h')
          · rw [List.take_add_one, hz]
            exact Paired.snoc (paired_imp (fun _ _ g => SpQ.upd_lst (SpQ.keep g s2) hD2) hPr) (SpQ.upd_lst g2 hD2)
        · rintro Hy ⟨ky, rs, hDy, hlr, hPr⟩
          have hzl : zs8.length = us8.length := (Paired.length hP8).symm
          rw [List.take_of_length_le (by omega)] at hPr
          refine ⟨_, rfl, Dl, _, rfl, .inl (SqL.of (ky _ _ hD8)), (us8.length : Int), rfl, by omega, by omega, for_range (n := us8.length) (fun i σ H' => ∃ z9 z10, σ = [some (.ref a), some (.ref d), some (.int kd), some (.ref al), some (.ref ar), some (.ref bB), some (.ref lm), some (.ref Dl), some (.ref Da), z9, z10] ∧ Same Hy H') ⟨_, _, rfl, Same.refl _⟩ ?_ ?_⟩
          · rintro i σ H' hi ⟨z9, z10, rfl, k'⟩
            have kk := ky.trans k'
            have hi2 : i < rs.length := by omega
            have g1 : us8[i]? = some us8[i] := List.getElem?_eq_getElem hi
            have g2 : rs[i]? = some rs[i] := List.getElem?_eq_getElem hi2
            obtain ⟨z, hz, hzs, bz1, bz2⟩ := paired_get hP8 g1
            obtain ⟨z', hz', hzs'⟩ := paired_get hPr g2
            obtain rfl : z = z' := Option.some.inj (hz.symm.trans hz')
            have i0 : (0 : Int) + (i : Int) = (i : Int) := by omega
            have a1 : atI us8 (0 + (i : Int)) = some us8[i] := by rw [i0]; exact atI_nat g1
            have a2 : atI rs (0 + (i : Int)) = some rs[i] := by rw [i0]; exact atI_nat g2
            refine ⟨_, rfl, _, rfl, _, rfl, _, rfl, Dl, _, _, _, rfl, rfl, SqL.of (kk _ _ hD8), a1, _, rfl, _, rfl, Da, _, _, _, rfl, rfl, SqL.of (k' _ _ hDy), a2, _, rfl, .ref bB, us8[i], rs[i], ar, lm, kn, z.1, z.2, rfl, ok, BodyAt.keep hbody8 kk, hzs.keep kk, bz1, bz2, SpQ.keep hzs' k', MaysAt.keep hmays8 kk, fun H2 s2 => ⟨true, rfl, iteF ?_⟩⟩
            have k2 := k'.trans s2
            have kk2 := kk.trans s2
            obtain ⟨j, hj, hat⟩ := atI_prev (n := us8.length) (k := i) hi
            have hj2 : j < rs.length := by omega
            have f1 : us8[j]? = some us8[j] := List.getElem?_eq_getElem hj
            have f2 : rs[j]? = some rs[j] := List.getElem?_eq_getElem hj2
            obtain ⟨y, hy, hys, by1, by2⟩ := paired_get hP8 f1
            obtain ⟨y', hy', hys'⟩ := paired_get hPr f2
            obtain rfl : y = y' := Option.some.inj (hy.symm.trans hy')
            have c1 : atI us8 (0 + (i : Int) - 1) = some us8[j] := by rw [i0, hat us8 rfl]; exact f1
            have c2 : atI rs (0 + (i : Int) - 1) = some rs[j] := by rw [i0, hat rs (by omega)]; exact f2
            refine ⟨_, rfl, _, rfl, _, rfl, Dl, _, _, _, rfl, rfl, SqL.of (kk2 _ _ hD8), a1, _, rfl, _, rfl, _, 1, rfl, rfl, Dl, _, _, _, rfl, rfl, SqL.of (kk2 _ _ hD8), c1, _, rfl, _, rfl, Da, _, _, _, rfl, rfl, SqL.of (k2 _ _ hDy), a2, _, rfl, _, rfl, _, 1, rfl, rfl, Da, _, _, _, rfl, rfl, SqL.of (k2 _ _ hDy), c2, .ref bB, us8[i], us8[j], rs[i], rs[j], ar, kn, z.1, z.2, y.1, y.2, rfl, ok, BodyAt.keep hbody8 kk2, hzs.keep kk2, hys.keep kk2, bz1, bz2, by1, by2, SpQ.keep hzs' k2, SpQ.keep hys' k2, fun H3 s3 => ⟨true, rfl, iteF ?_⟩⟩
            exact ⟨_, _, rfl, k2.trans s3⟩
          · rintro σ Hz ⟨z9, z10, rfl, kz⟩
            have kk := ky.trans kz
            obtain ⟨DD, dd1, dd2, dd3⟩ := (RowD.keep hrow8 kk).dp
            refine ⟨_, rfl, bB, _, dxB, _, _, rfl, kk _ _ hb1, B.cl, B.n_row, flds_row _ _ _, _, rfl, DD, DD, dd1, dd1, dd2, dd2, ?_⟩
            rw [dd3]
            exact Qk _
      · skip
        obtain ⟨bB, dxB, nmB, shB, rlB, plB, stB, eB, hb1, hb2, hb3⟩ := id hbody7
        subst eB
        obtain ⟨na1, na2, na3⟩ := na kn.mass ar nmB
        refine ⟨_, rfl, Dl, rfl, ⟨_, SqL.of hD7⟩, fun Da hDa => lc_list (K := K) (a := Dl) (xs := us) (fun i H' => Same H7 H' ∧ ∃ rs, H' Da = some (.lst rs) ∧ rs.length = i ∧ Paired (AnsP K H' kn) rs (zs.take i)) ?_ ?_ ?_ ?_⟩
        · exact ⟨same_upd hDa, [], upd_same, rfl, .nil⟩
        · rintro i H' _ ⟨k', _⟩
          exact SqL.of (k' _ _ hD7)
        · rintro i v H' hv ⟨k', rs, hD', hlr, hPr⟩
          have hi : i < us.length := (List.getElem?_eq_some_iff.mp hv).1
          obtain ⟨z, hz, hzs, bz1, bz2⟩ := paired_get hP7 hv
          refine ⟨rfl, kn, _, rfl, bB, dxB, _, rfl, k' _ _ hb1, na1, _, rfl, .ref bB, v, ar, z.1, z.2, rfl, ok, BodyAt.keep hbody7 k', hzs.keep k', bz1.le (by decide), bz2.le (by decide), fun H2 r2 s2 g2 => ?_⟩
          have hD2 := s2 _ _ hD'
          refine ⟨rs, hD2, small1000 (by omega), ?_, rs ++ [r2], upd_same, by rw [List.length_append, hlr]; rfl, ?_⟩
          · intro b' o' h'
            rw [upd_ne (ne_of_none h' hDa)]
            exact s2 _ _ (k' _ _ h')
          · rw [List.take_add_one, hz]
            exact Paired.snoc (paired_imp (fun _ _ g => SpQ.upd_lst (SpQ.keep g s2) hD2) hPr) (SpQ.upd_lst g2 hD2)
        · rintro Hy ⟨ky, rs, hDy, hlr, hPr⟩
          have hzl : zs.length = us.length := (Paired.length hP7).symm
          rw [List.take_of_length_le (by omega)] at hPr
          refine ⟨_, rfl, Dl, _, rfl, .inl (SqL.of (ky _ _ hD7)), (us.length : Int), rfl, by omega, by omega, for_range (n := us.length) (fun i σ H' => ∃ z9 z10, σ = [some (.ref a), some (.ref d), some (.int kd), some (.ref al), some (.ref ar), some (.ref bB), some (.ref lm), some (.ref Dl), some (.ref Da), z9, z10] ∧ Same Hy H') ⟨_, _, rfl, Same.refl _⟩ ?_ ?_⟩
          · rintro i σ H' hi ⟨z9, z10, rfl, k'⟩
            have kk := ky.trans k'
            have hi2 : i < rs.length := by omega
            have g1 : us[i]? = some us[i] := List.getElem?_eq_getElem hi
            have g2 : rs[i]? = some rs[i] := List.getElem?_eq_getElem hi2
            obtain ⟨z, hz, hzs, bz1, bz2⟩ := paired_get hP7 g1
            obtain ⟨z', hz', hzs'⟩ := paired_get hPr g2
            obtain rfl : z = z' := Option.some.inj (hz.symm.trans hz')
            have i0 : (0 : Int) + (i : Int) = (i : Int) := by omega
            have a1 : atI us (0 + (i : Int)) = some us[i] := by rw [i0]; exact atI_nat g1
            have a2 : atI rs (0 + (i : Int)) = some rs[i] := by rw [i0]; exact atI_nat g2
            refine ⟨_, rfl, _, rfl, _, rfl, _, rfl, Dl, _, _, _, rfl, rfl, SqL.of (kk _ _ hD7), a1, _, rfl, _, rfl, Da, _, _, _, rfl, rfl, SqL.of (k' _ _ hDy), a2, _, rfl, .ref bB, us[i], rs[i], ar, lm, kn, z.1, z.2, rfl, ok, BodyAt.keep hbody7 kk, hzs.keep kk, bz1, bz2, SpQ.keep hzs' k', MaysAt.keep hmays7 kk, fun H2 s2 => ⟨true, rfl, iteF ?_⟩⟩
            have k2 := k'.trans s2
            have kk2 := kk.trans s2
            obtain ⟨j, hj, hat⟩ := atI_prev (n := us.length) (k := i) hi
            have hj2 : j < rs.length := by omega
            have f1 : us[j]? = some us[j] := List.getElem?_eq_getElem hj
            have f2 : rs[j]? = some rs[j] := List.getElem?_eq_getElem hj2
            obtain ⟨y, hy, hys, by1, by2⟩ := paired_get hP7 f1
            obtain ⟨y', hy', hys'⟩ := paired_get hPr f2
            obtain rfl : y = y' := Option.some.inj (hy.symm.trans hy')
            have c1 : atI us (0 + (i : Int) - 1) = some us[j] := by rw [i0, hat us rfl]; exact f1
            have c2 : atI rs (0 + (i : Int) - 1) = some rs[j] := by rw [i0, hat rs (by omega)]; exact f2
            refine ⟨_, rfl, _, rfl, _, rfl, Dl, _, _, _, rfl, rfl, SqL.of (kk2 _ _ hD7), a1, _, rfl, _, rfl, _, 1, rfl, rfl, Dl, _, _, _, rfl, rfl, SqL.of (kk2 _ _ hD7), c1, _, rfl, _, rfl, Da, _, _, _, rfl, rfl, SqL.of (k2 _ _ hDy), a2, _, rfl, _, rfl, _, 1, rfl, rfl, Da, _, _, _, rfl, rfl, SqL.of (k2 _ _ hDy), c2, .ref bB, us[i], us[j], rs[i], rs[j], ar, kn, z.1, z.2, y.1, y.2, rfl, ok, BodyAt.keep hbody7 kk2, hzs.keep kk2, hys.keep kk2, bz1, bz2, by1, by2, SpQ.keep hzs' k2, SpQ.keep hys' k2, fun H3 s3 => ⟨true, rfl, iteF ?_⟩⟩
            exact ⟨_, _, rfl, k2.trans s3⟩
          · rintro σ Hz ⟨z9, z10, rfl, kz⟩
            have kk := ky.trans kz
            obtain ⟨DD, dd1, dd2, dd3⟩ := (RowD.keep hrow7 kk).dp
            refine ⟨_, rfl, bB, _, dxB, _, _, rfl, kk _ _ hb1, B.cl, B.n_row, flds_row _ _ _, _, rfl, DD, DD, dd1, dd1, dd2, dd2, ?_⟩
            rw [dd3]
            exact Qk _
end
theorem all_mk {l : PySem.W.OpenLaw} {w : World} {K : PySem.W.Frag} {h : Heap} {mg : Str → Option Value} {fa : Addr} (X : K.In h) (G : h.Ns mainGlobals mg) (hfa : mg "law" = some (.ref fa))
    {od0 an0 : Option Addr} {sl0 : Array (Option Value)} {oc0 kV0 dc0 pm0 cd0 ct0 : Value} {f0 : Addr}
    {od1 an1 : Option Addr} {sl1 : Array (Option Value)} {oc1 kV1 dc1 pm1 cd1 ct1 : Value} {f1 : Addr}
    {od2 an2 : Option Addr} {sl2 : Array (Option Value)} {oc2 kV2 dc2 pm2 cd2 ct2 : Value} {f2 : Addr}
    {od3 an3 : Option Addr} {sl3 : Array (Option Value)} {oc3 kV3 dc3 pm3 cd3 ct3 : Value} {f3 : Addr}
    {od4 an4 : Option Addr} {sl4 : Array (Option Value)} {oc4 kV4 dc4 pm4 cd4 ct4 : Value} {f4 : Addr}
    {od5 an5 : Option Addr} {sl5 : Array (Option Value)} {oc5 kV5 dc5 pm5 cd5 ct5 : Value} {f5 : Addr}
    {od6 an6 : Option Addr} {sl6 : Array (Option Value)} {oc6 kV6 dc6 pm6 cd6 ct6 : Value} {f6 : Addr}
    {od7 an7 : Option Addr} {sl7 : Array (Option Value)} {oc7 kV7 dc7 pm7 cd7 ct7 : Value} {f7 : Addr}
    {od8 an8 : Option Addr} {sl8 : Array (Option Value)} {oc8 kV8 dc8 pm8 cd8 ct8 : Value} {f8 : Addr}
    {od9 an9 : Option Addr} {sl9 : Array (Option Value)} {oc9 kV9 dc9 pm9 cd9 ct9 : Value} {f9 : Addr}
    {od10 an10 : Option Addr} {sl10 : Array (Option Value)} {oc10 kV10 dc10 pm10 cd10 ct10 : Value} {f10 : Addr}
    {od11 an11 : Option Addr} {sl11 : Array (Option Value)} {oc11 kV11 dc11 pm11 cd11 ct11 : Value} {f11 : Addr}
    {od12 an12 : Option Addr} {sl12 : Array (Option Value)} {oc12 kV12 dc12 pm12 cd12 ct12 : Value} {f12 : Addr}
    {od13 an13 : Option Addr} {sl13 : Array (Option Value)} {oc13 kV13 dc13 pm13 cd13 ct13 : Value} {f13 : Addr}
    {od14 an14 : Option Addr} {sl14 : Array (Option Value)} {oc14 kV14 dc14 pm14 cd14 ct14 : Value} {f14 : Addr}
    {od15 an15 : Option Addr} {sl15 : Array (Option Value)} {oc15 kV15 dc15 pm15 cd15 ct15 : Value} {f15 : Addr}
    {od16 an16 : Option Addr} {sl16 : Array (Option Value)} {oc16 kV16 dc16 pm16 cd16 ct16 : Value} {f16 : Addr}
    {od17 an17 : Option Addr} {sl17 : Array (Option Value)} {oc17 kV17 dc17 pm17 cd17 ct17 : Value} {f17 : Addr}
    {od18 an18 : Option Addr} {sl18 : Array (Option Value)} {oc18 kV18 dc18 pm18 cd18 ct18 : Value} {f18 : Addr}
    {od19 an19 : Option Addr} {sl19 : Array (Option Value)} {oc19 kV19 dc19 pm19 cd19 ct19 : Value} {f19 : Addr}
    {od20 an20 : Option Addr} {sl20 : Array (Option Value)} {oc20 kV20 dc20 pm20 cd20 ct20 : Value} {f20 : Addr}
    {od21 an21 : Option Addr} {sl21 : Array (Option Value)} {oc21 kV21 dc21 pm21 cd21 ct21 : Value} {f21 : Addr}
    {od22 an22 : Option Addr} {sl22 : Array (Option Value)} {oc22 kV22 dc22 pm22 cd22 ct22 : Value} {f22 : Addr}
    {od23 an23 : Option Addr} {sl23 : Array (Option Value)} {oc23 kV23 dc23 pm23 cd23 ct23 : Value} {f23 : Addr}
    {od24 an24 : Option Addr} {sl24 : Array (Option Value)} {oc24 kV24 dc24 pm24 cd24 ct24 : Value} {f24 : Addr}
    {od25 an25 : Option Addr} {sl25 : Array (Option Value)} {oc25 kV25 dc25 pm25 cd25 ct25 : Value} {f25 : Addr}
    {od26 an26 : Option Addr} {sl26 : Array (Option Value)} {oc26 kV26 dc26 pm26 cd26 ct26 : Value} {f26 : Addr}
    {od27 an27 : Option Addr} {sl27 : Array (Option Value)} {oc27 kV27 dc27 pm27 cd27 ct27 : Value} {f27 : Addr}
    {od28 an28 : Option Addr} {sl28 : Array (Option Value)} {oc28 kV28 dc28 pm28 cd28 ct28 : Value} {f28 : Addr}
    {od29 an29 : Option Addr} {sl29 : Array (Option Value)} {oc29 kV29 dc29 pm29 cd29 ct29 : Value} {f29 : Addr}
    {od30 an30 : Option Addr} {sl30 : Array (Option Value)} {oc30 kV30 dc30 pm30 cd30 ct30 : Value} {f30 : Addr}
    {od31 an31 : Option Addr} {sl31 : Array (Option Value)} {oc31 kV31 dc31 pm31 cd31 ct31 : Value} {f31 : Addr}
    {od32 an32 : Option Addr} {sl32 : Array (Option Value)} {oc32 kV32 dc32 pm32 cd32 ct32 : Value} {f32 : Addr}
    {od33 an33 : Option Addr} {sl33 : Array (Option Value)} {oc33 kV33 dc33 pm33 cd33 ct33 : Value} {f33 : Addr}
    {od34 an34 : Option Addr} {sl34 : Array (Option Value)} {oc34 kV34 dc34 pm34 cd34 ct34 : Value} {f34 : Addr}
    {od35 an35 : Option Addr} {sl35 : Array (Option Value)} {oc35 kV35 dc35 pm35 cd35 ct35 : Value} {f35 : Addr}
    {c_BodyError : Addr}
    {c_NoShare : Addr}
    {c_Body : Addr}
    {c_Wall : Addr}
    {c_Free : Addr}
    {c_Railed : Addr}
    {odm0 anm0 : Option Addr} {slm0 : Array (Option Value)} {ocm0 kVm0 dcm0 pmm0 cdm0 ctm0 : Value} {fm0 : Addr}
    {odm1 anm1 : Option Addr} {slm1 : Array (Option Value)} {ocm1 kVm1 dcm1 pmm1 cdm1 ctm1 : Value} {fm1 : Addr}
    {odm2 anm2 : Option Addr} {slm2 : Array (Option Value)} {ocm2 kVm2 dcm2 pmm2 cdm2 ctm2 : Value} {fm2 : Addr}
    {odm3 anm3 : Option Addr} {slm3 : Array (Option Value)} {ocm3 kVm3 dcm3 pmm3 cdm3 ctm3 : Value} {fm3 : Addr}
    {odm4 anm4 : Option Addr} {slm4 : Array (Option Value)} {ocm4 kVm4 dcm4 pmm4 cdm4 ctm4 : Value} {fm4 : Addr}
    {odm5 anm5 : Option Addr} {slm5 : Array (Option Value)} {ocm5 kVm5 dcm5 pmm5 cdm5 ctm5 : Value} {fm5 : Addr}
    {odm6 anm6 : Option Addr} {slm6 : Array (Option Value)} {ocm6 kVm6 dcm6 pmm6 cdm6 ctm6 : Value} {fm6 : Addr}
    {odm7 anm7 : Option Addr} {slm7 : Array (Option Value)} {ocm7 kVm7 dcm7 pmm7 cdm7 ctm7 : Value} {fm7 : Addr}
    {odm8 anm8 : Option Addr} {slm8 : Array (Option Value)} {ocm8 kVm8 dcm8 pmm8 cdm8 ctm8 : Value} {fm8 : Addr}
    {odm9 anm9 : Option Addr} {slm9 : Array (Option Value)} {ocm9 kVm9 dcm9 pmm9 cdm9 ctm9 : Value} {fm9 : Addr}
    {k_LENGTHY : Tok}
    {n_NOUGHT : Addr} {on_NOUGHT : Option Addr} {nn_NOUGHT : Nat} {sn_NOUGHT : Array (Option Value)} {tn0_NOUGHT tn1_NOUGHT : Tok}
    {oS o1 o2 : Option Addr} {sS s1 s2 : Array (Option Value)} {nS n1 n2 : Nat} {aS a1S a2S : Addr} {t1 t2 t3 t4 : Tok}
    (a0 : PySem.W.nsIn K mainGlobals "common_divisor" = some (some (.ref f0))) (l0 : K.lookup f0 = some ⟨oc0, od0, .func (PySem.W.fnOf "common_divisor" "common_divisor" (defArgs s_p_common_divisor) (defBody s_p_common_divisor) (defScope s_p_common_divisor) .none kV0 dc0 pm0 an0 cd0 ct0), sl0⟩) (c0 : PySem.W.codeIn K cd0 "common_divisor" = true) (k0 : PySem.W.keepIn K (.ref f0) = true)
    (a1 : PySem.W.nsIn K mainGlobals "plus" = some (some (.ref f1))) (l1 : K.lookup f1 = some ⟨oc1, od1, .func (PySem.W.fnOf "plus" "plus" (defArgs s_p_plus) (defBody s_p_plus) (defScope s_p_plus) .none kV1 dc1 pm1 an1 cd1 ct1), sl1⟩) (c1 : PySem.W.codeIn K cd1 "plus" = true) (k1 : PySem.W.keepIn K (.ref f1) = true)
    (a2 : PySem.W.nsIn K mainGlobals "minus" = some (some (.ref f2))) (l2 : K.lookup f2 = some ⟨oc2, od2, .func (PySem.W.fnOf "minus" "minus" (defArgs s_p_minus) (defBody s_p_minus) (defScope s_p_minus) .none kV2 dc2 pm2 an2 cd2 ct2), sl2⟩) (c2 : PySem.W.codeIn K cd2 "minus" = true) (k2 : PySem.W.keepIn K (.ref f2) = true)
    (a3 : PySem.W.nsIn K mainGlobals "times" = some (some (.ref f3))) (l3 : K.lookup f3 = some ⟨oc3, od3, .func (PySem.W.fnOf "times" "times" (defArgs s_p_times) (defBody s_p_times) (defScope s_p_times) .none kV3 dc3 pm3 an3 cd3 ct3), sl3⟩) (c3 : PySem.W.codeIn K cd3 "times" = true) (k3 : PySem.W.keepIn K (.ref f3) = true)
    (a4 : PySem.W.nsIn K mainGlobals "over" = some (some (.ref f4))) (l4 : K.lookup f4 = some ⟨oc4, od4, .func (PySem.W.fnOf "over" "over" (defArgs s_p_over) (defBody s_p_over) (defScope s_p_over) .none kV4 dc4 pm4 an4 cd4 ct4), sl4⟩) (c4 : PySem.W.codeIn K cd4 "over" = true) (k4 : PySem.W.keepIn K (.ref f4) = true)
    (a5 : PySem.W.nsIn K mainGlobals "share_text" = some (some (.ref f5))) (l5 : K.lookup f5 = some ⟨oc5, od5, .func (PySem.W.fnOf "share_text" "share_text" (defArgs s_p_share_text) (defBody s_p_share_text) (defScope s_p_share_text) .none kV5 dc5 pm5 an5 cd5 ct5), sl5⟩) (c5 : PySem.W.codeIn K cd5 "share_text" = true) (k5 : PySem.W.keepIn K (.ref f5) = true)
    (a6 : PySem.W.nsIn K mainGlobals "along" = some (some (.ref f6))) (l6 : K.lookup f6 = some ⟨oc6, od6, .func (PySem.W.fnOf "along" "along" (defArgs s_p_along) (defBody s_p_along) (defScope s_p_along) .none kV6 dc6 pm6 an6 cd6 ct6), sl6⟩) (c6 : PySem.W.codeIn K cd6 "along" = true) (k6 : PySem.W.keepIn K (.ref f6) = true)
    (a7 : PySem.W.nsIn K mainGlobals "across" = some (some (.ref f7))) (l7 : K.lookup f7 = some ⟨oc7, od7, .func (PySem.W.fnOf "across" "across" (defArgs s_p_across) (defBody s_p_across) (defScope s_p_across) .none kV7 dc7 pm7 an7 cd7 ct7), sl7⟩) (c7 : PySem.W.codeIn K cd7 "across" = true) (k7 : PySem.W.keepIn K (.ref f7) = true)
    (a8 : PySem.W.nsIn K mainGlobals "spot_times" = some (some (.ref f8))) (l8 : K.lookup f8 = some ⟨oc8, od8, .func (PySem.W.fnOf "spot_times" "spot_times" (defArgs s_p_spot_times) (defBody s_p_spot_times) (defScope s_p_spot_times) .none kV8 dc8 pm8 an8 cd8 ct8), sl8⟩) (c8 : PySem.W.codeIn K cd8 "spot_times" = true) (k8 : PySem.W.keepIn K (.ref f8) = true)
    (a9 : PySem.W.nsIn K mainGlobals "onto_rail" = some (some (.ref f9))) (l9 : K.lookup f9 = some ⟨oc9, od9, .func (PySem.W.fnOf "onto_rail" "onto_rail" (defArgs s_p_onto_rail) (defBody s_p_onto_rail) (defScope s_p_onto_rail) .none kV9 dc9 pm9 an9 cd9 ct9), sl9⟩) (c9 : PySem.W.codeIn K cd9 "onto_rail" = true) (k9 : PySem.W.keepIn K (.ref f9) = true)
    (a10 : PySem.W.nsIn K mainGlobals "spot_words" = some (some (.ref f10))) (l10 : K.lookup f10 = some ⟨oc10, od10, .func (PySem.W.fnOf "spot_words" "spot_words" (defArgs s_p_spot_words) (defBody s_p_spot_words) (defScope s_p_spot_words) .none kV10 dc10 pm10 an10 cd10 ct10), sl10⟩) (c10 : PySem.W.codeIn K cd10 "spot_words" = true) (k10 : PySem.W.keepIn K (.ref f10) = true)
    (a11 : PySem.W.nsIn K mainGlobals "corner_words" = some (some (.ref f11))) (l11 : K.lookup f11 = some ⟨oc11, od11, .func (PySem.W.fnOf "corner_words" "corner_words" (defArgs s_p_corner_words) (defBody s_p_corner_words) (defScope s_p_corner_words) .none kV11 dc11 pm11 an11 cd11 ct11), sl11⟩) (c11 : PySem.W.codeIn K cd11 "corner_words" = true) (k11 : PySem.W.keepIn K (.ref f11) = true)
    (a12 : PySem.W.nsIn K mainGlobals "wall_words" = some (some (.ref f12))) (l12 : K.lookup f12 = some ⟨oc12, od12, .func (PySem.W.fnOf "wall_words" "wall_words" (defArgs s_p_wall_words) (defBody s_p_wall_words) (defScope s_p_wall_words) .none kV12 dc12 pm12 an12 cd12 ct12), sl12⟩) (c12 : PySem.W.codeIn K cd12 "wall_words" = true) (k12 : PySem.W.keepIn K (.ref f12) = true)
    (a13 : PySem.W.nsIn K mainGlobals "free_words" = some (some (.ref f13))) (l13 : K.lookup f13 = some ⟨oc13, od13, .func (PySem.W.fnOf "free_words" "free_words" (defArgs s_p_free_words) (defBody s_p_free_words) (defScope s_p_free_words) .none kV13 dc13 pm13 an13 cd13 ct13), sl13⟩) (c13 : PySem.W.codeIn K cd13 "free_words" = true) (k13 : PySem.W.keepIn K (.ref f13) = true)
    (a14 : PySem.W.nsIn K mainGlobals "rail_words" = some (some (.ref f14))) (l14 : K.lookup f14 = some ⟨oc14, od14, .func (PySem.W.fnOf "rail_words" "rail_words" (defArgs s_p_rail_words) (defBody s_p_rail_words) (defScope s_p_rail_words) .none kV14 dc14 pm14 an14 cd14 ct14), sl14⟩) (c14 : PySem.W.codeIn K cd14 "rail_words" = true) (k14 : PySem.W.keepIn K (.ref f14) = true)
    (a15 : PySem.W.nsIn K mainGlobals "body_of" = some (some (.ref f15))) (l15 : K.lookup f15 = some ⟨oc15, od15, .func (PySem.W.fnOf "body_of" "body_of" (defArgs s_p_body_of) (defBody s_p_body_of) (defScope s_p_body_of) .none kV15 dc15 pm15 an15 cd15 ct15), sl15⟩) (c15 : PySem.W.codeIn K cd15 "body_of" = true) (k15 : PySem.W.keepIn K (.ref f15) = true)
    (a16 : PySem.W.nsIn K mainGlobals "_law_cell" = some (some (.ref f16))) (l16 : K.lookup f16 = some ⟨oc16, od16, .func (PySem.W.fnOf "_law_cell" "_law_cell" (defArgs s_l_cell) (defBody s_l_cell) (defScope s_l_cell) .none kV16 dc16 pm16 an16 cd16 ct16), sl16⟩) (c16 : PySem.W.codeIn K cd16 "_law_cell" = true) (k16 : PySem.W.keepIn K (.ref f16) = true)
    (a17 : PySem.W.nsIn K mainGlobals "_law_mixed" = some (some (.ref f17))) (l17 : K.lookup f17 = some ⟨oc17, od17, .func (PySem.W.fnOf "_law_mixed" "_law_mixed" (defArgs s_l_mixed) (defBody s_l_mixed) (defScope s_l_mixed) .none kV17 dc17 pm17 an17 cd17 ct17), sl17⟩) (c17 : PySem.W.codeIn K cd17 "_law_mixed" = true) (k17 : PySem.W.keepIn K (.ref f17) = true)
    (a18 : PySem.W.nsIn K mainGlobals "_law_deck" = some (some (.ref f18))) (l18 : K.lookup f18 = some ⟨oc18, od18, .func (PySem.W.fnOf "_law_deck" "_law_deck" (defArgs s_l_deck) (defBody s_l_deck) (defScope s_l_deck) .none kV18 dc18 pm18 an18 cd18 ct18), sl18⟩) (c18 : PySem.W.codeIn K cd18 "_law_deck" = true) (k18 : PySem.W.keepIn K (.ref f18) = true)
    (a19 : PySem.W.nsIn K mainGlobals "_law_take" = some (some (.ref f19))) (l19 : K.lookup f19 = some ⟨oc19, od19, .func (PySem.W.fnOf "_law_take" "_law_take" (defArgs s_l_take) (defBody s_l_take) (defScope s_l_take) .none kV19 dc19 pm19 an19 cd19 ct19), sl19⟩) (c19 : PySem.W.codeIn K cd19 "_law_take" = true) (k19 : PySem.W.keepIn K (.ref f19) = true)
    (a20 : PySem.W.nsIn K mainGlobals "_law_gcd" = some (some (.ref f20))) (l20 : K.lookup f20 = some ⟨oc20, od20, .func (PySem.W.fnOf "_law_gcd" "_law_gcd" (defArgs s_l_gcd) (defBody s_l_gcd) (defScope s_l_gcd) .none kV20 dc20 pm20 an20 cd20 ct20), sl20⟩) (c20 : PySem.W.codeIn K cd20 "_law_gcd" = true) (k20 : PySem.W.keepIn K (.ref f20) = true)
    (a21 : PySem.W.nsIn K mainGlobals "_law_whole" = some (some (.ref f21))) (l21 : K.lookup f21 = some ⟨oc21, od21, .func (PySem.W.fnOf "_law_whole" "_law_whole" (defArgs s_l_whole) (defBody s_l_whole) (defScope s_l_whole) .none kV21 dc21 pm21 an21 cd21 ct21), sl21⟩) (c21 : PySem.W.codeIn K cd21 "_law_whole" = true) (k21 : PySem.W.keepIn K (.ref f21) = true)
    (a22 : PySem.W.nsIn K mainGlobals "_law_part" = some (some (.ref f22))) (l22 : K.lookup f22 = some ⟨oc22, od22, .func (PySem.W.fnOf "_law_part" "_law_part" (defArgs s_l_part) (defBody s_l_part) (defScope s_l_part) .none kV22 dc22 pm22 an22 cd22 ct22), sl22⟩) (c22 : PySem.W.codeIn K cd22 "_law_part" = true) (k22 : PySem.W.keepIn K (.ref f22) = true)
    (a23 : PySem.W.nsIn K mainGlobals "_law_number" = some (some (.ref f23))) (l23 : K.lookup f23 = some ⟨oc23, od23, .func (PySem.W.fnOf "_law_number" "_law_number" (defArgs s_l_number) (defBody s_l_number) (defScope s_l_number) .none kV23 dc23 pm23 an23 cd23 ct23), sl23⟩) (c23 : PySem.W.codeIn K cd23 "_law_number" = true) (k23 : PySem.W.keepIn K (.ref f23) = true)
    (a24 : PySem.W.nsIn K mainGlobals "_law_drawn" = some (some (.ref f24))) (l24 : K.lookup f24 = some ⟨oc24, od24, .func (PySem.W.fnOf "_law_drawn" "_law_drawn" (defArgs s_l_drawn) (defBody s_l_drawn) (defScope s_l_drawn) .none kV24 dc24 pm24 an24 cd24 ct24), sl24⟩) (c24 : PySem.W.codeIn K cd24 "_law_drawn" = true) (k24 : PySem.W.keepIn K (.ref f24) = true)
    (a25 : PySem.W.nsIn K mainGlobals "_law_line" = some (some (.ref f25))) (l25 : K.lookup f25 = some ⟨oc25, od25, .func (PySem.W.fnOf "_law_line" "_law_line" (defArgs s_l_line) (defBody s_l_line) (defScope s_l_line) .none kV25 dc25 pm25 an25 cd25 ct25), sl25⟩) (c25 : PySem.W.codeIn K cd25 "_law_line" = true) (k25 : PySem.W.keepIn K (.ref f25) = true)
    (a26 : PySem.W.nsIn K mainGlobals "_law_so_many" = some (some (.ref f26))) (l26 : K.lookup f26 = some ⟨oc26, od26, .func (PySem.W.fnOf "_law_so_many" "_law_so_many" (defArgs s_l_so_many) (defBody s_l_so_many) (defScope s_l_so_many) .none kV26 dc26 pm26 an26 cd26 ct26), sl26⟩) (c26 : PySem.W.codeIn K cd26 "_law_so_many" = true) (k26 : PySem.W.keepIn K (.ref f26) = true)
    (a27 : PySem.W.nsIn K mainGlobals "_law_sum" = some (some (.ref f27))) (l27 : K.lookup f27 = some ⟨oc27, od27, .func (PySem.W.fnOf "_law_sum" "_law_sum" (defArgs s_l_sum) (defBody s_l_sum) (defScope s_l_sum) .none kV27 dc27 pm27 an27 cd27 ct27), sl27⟩) (c27 : PySem.W.codeIn K cd27 "_law_sum" = true) (k27 : PySem.W.keepIn K (.ref f27) = true)
    (a28 : PySem.W.nsIn K mainGlobals "_law_added" = some (some (.ref f28))) (l28 : K.lookup f28 = some ⟨oc28, od28, .func (PySem.W.fnOf "_law_added" "_law_added" (defArgs s_l_added) (defBody s_l_added) (defScope s_l_added) .none kV28 dc28 pm28 an28 cd28 ct28), sl28⟩) (c28 : PySem.W.codeIn K cd28 "_law_added" = true) (k28 : PySem.W.keepIn K (.ref f28) = true)
    (a29 : PySem.W.nsIn K mainGlobals "_law_dot" = some (some (.ref f29))) (l29 : K.lookup f29 = some ⟨oc29, od29, .func (PySem.W.fnOf "_law_dot" "_law_dot" (defArgs s_l_dot) (defBody s_l_dot) (defScope s_l_dot) .none kV29 dc29 pm29 an29 cd29 ct29), sl29⟩) (c29 : PySem.W.codeIn K cd29 "_law_dot" = true) (k29 : PySem.W.keepIn K (.ref f29) = true)
    (a30 : PySem.W.nsIn K mainGlobals "_law_is_spot" = some (some (.ref f30))) (l30 : K.lookup f30 = some ⟨oc30, od30, .func (PySem.W.fnOf "_law_is_spot" "_law_is_spot" (defArgs s_l_is_spot) (defBody s_l_is_spot) (defScope s_l_is_spot) .none kV30 dc30 pm30 an30 cd30 ct30), sl30⟩) (c30 : PySem.W.codeIn K cd30 "_law_is_spot" = true) (k30 : PySem.W.keepIn K (.ref f30) = true)
    (a31 : PySem.W.nsIn K mainGlobals "_law_push" = some (some (.ref f31))) (l31 : K.lookup f31 = some ⟨oc31, od31, .func (PySem.W.fnOf "_law_push" "_law_push" (defArgs s_l_push) (defBody s_l_push) (defScope s_l_push) .none kV31 dc31 pm31 an31 cd31 ct31), sl31⟩) (c31 : PySem.W.codeIn K cd31 "_law_push" = true) (k31 : PySem.W.keepIn K (.ref f31) = true)
    (a32 : PySem.W.nsIn K mainGlobals "_law_row" = some (some (.ref f32))) (l32 : K.lookup f32 = some ⟨oc32, od32, .func (PySem.W.fnOf "_law_row" "_law_row" (defArgs s_l_row) (defBody s_l_row) (defScope s_l_row) .none kV32 dc32 pm32 an32 cd32 ct32), sl32⟩) (c32 : PySem.W.codeIn K cd32 "_law_row" = true) (k32 : PySem.W.keepIn K (.ref f32) = true)
    (a33 : PySem.W.nsIn K mainGlobals "_law_alone" = some (some (.ref f33))) (l33 : K.lookup f33 = some ⟨oc33, od33, .func (PySem.W.fnOf "_law_alone" "_law_alone" (defArgs s_l_alone) (defBody s_l_alone) (defScope s_l_alone) .none kV33 dc33 pm33 an33 cd33 ct33), sl33⟩) (c33 : PySem.W.codeIn K cd33 "_law_alone" = true) (k33 : PySem.W.keepIn K (.ref f33) = true)
    (a34 : PySem.W.nsIn K mainGlobals "_law_two" = some (some (.ref f34))) (l34 : K.lookup f34 = some ⟨oc34, od34, .func (PySem.W.fnOf "_law_two" "_law_two" (defArgs s_l_two) (defBody s_l_two) (defScope s_l_two) .none kV34 dc34 pm34 an34 cd34 ct34), sl34⟩) (c34 : PySem.W.codeIn K cd34 "_law_two" = true) (k34 : PySem.W.keepIn K (.ref f34) = true)
    (a35 : PySem.W.nsIn K mainGlobals "law" = some (some (.ref f35))) (l35 : K.lookup f35 = some ⟨oc35, od35, .func (PySem.W.fnOf "law" "law" (defArgs s_law) (defBody s_law) (defScope s_law) .none kV35 dc35 pm35 an35 cd35 ct35), sl35⟩) (c35 : PySem.W.codeIn K cd35 "law" = true) (k35 : PySem.W.keepIn K (.ref f35) = true)
    (z_abs : PySem.W.nsIn K mainGlobals "abs" = some none)
    (z_bool : PySem.W.nsIn K mainGlobals "bool" = some none)
    (z_int : PySem.W.nsIn K mainGlobals "int" = some none)
    (z_isinstance : PySem.W.nsIn K mainGlobals "isinstance" = some none)
    (z_len : PySem.W.nsIn K mainGlobals "len" = some none)
    (z_max : PySem.W.nsIn K mainGlobals "max" = some none)
    (z_min : PySem.W.nsIn K mainGlobals "min" = some none)
    (z_range : PySem.W.nsIn K mainGlobals "range" = some none)
    (z_str : PySem.W.nsIn K mainGlobals "str" = some none)
    (z_tuple : PySem.W.nsIn K mainGlobals "tuple" = some none)
    (ac_BodyError : PySem.W.nsIn K mainGlobals "BodyError" = some (some (.ref c_BodyError)))
    (ac_NoShare : PySem.W.nsIn K mainGlobals "NoShare" = some (some (.ref c_NoShare)))
    (ac_Body : PySem.W.nsIn K mainGlobals "Body" = some (some (.ref c_Body)))
    (ac_Wall : PySem.W.nsIn K mainGlobals "Wall" = some (some (.ref c_Wall)))
    (ac_Free : PySem.W.nsIn K mainGlobals "Free" = some (some (.ref c_Free)))
    (ac_Railed : PySem.W.nsIn K mainGlobals "Railed" = some (some (.ref c_Railed)))
    (x_NoShare : PySem.W.excIn K c_NoShare [.type "ValueError", .type "Exception", .type "BaseException", .type "object"] "ValueError.__new__" = true)
    (kc_NoShare : PySem.W.keepIn K (.ref c_NoShare) = true)
    (bc_NoShare : PySem.W.subIn K (.ref c_NoShare) (.type "BaseException") = some true)
    (tc_NoShare : PySem.W.typeIn K (.ref c_NoShare) = some (.type "type"))
    (sc_NoShare : PySem.W.subIn K (.ref c_NoShare) (.ref c_NoShare) = some true)
    (hg_NoShare : PySem.W.findIn K (.ref c_NoShare) "__getattribute__" = some (some (.builtin "BaseException.__getattribute__")))
    (hk_NoShare : PySem.W.findIn K (.ref c_NoShare) "__getattr__" = some none)
    (hd_NoShare : PySem.W.hasDictIn K c_NoShare = true)
    (ha_NoShare : PySem.W.findIn K (.ref c_NoShare) "__class__" = some (some (.builtin "object.__class__")))
    (hn_NoShare : PySem.W.specialIn K (.builtin "object.__class__") "__get__" = some (some (.builtin "getset_descriptor.__get__")))
    (ht_NoShare : PySem.W.takesIn K (.builtin "object.__class__") = some true)
    (hm_NoShare : PySem.W.mroIn K c_NoShare (.type "object") = some true)
    (am0 : PySem.W.findIn K (.ref c_Wall) "__init__" = some (some (.ref fm0)))
    (im0 : PySem.W.isFn K (.ref fm0) = true)
    (lm0 : K.lookup fm0 = some ⟨ocm0, odm0, .func (PySem.W.fnOf "__init__" "Body.__init__" (defArgs s_m_Body___init__) (defBody s_m_Body___init__) (defScope s_m_Body___init__) .none kVm0 dcm0 pmm0 anm0 cdm0 ctm0), slm0⟩)
    (cm0 : PySem.W.codeIn K cdm0 "Body.__init__" = true)
    (km0 : PySem.W.keepIn K (.ref fm0) = true)
    (am1 : PySem.W.findIn K (.ref c_Wall) "answer" = some (some (.ref fm1)))
    (im1 : PySem.W.isFn K (.ref fm1) = true)
    (lm1 : K.lookup fm1 = some ⟨ocm1, odm1, .func (PySem.W.fnOf "answer" "Wall.answer" (defArgs s_m_Wall_answer) (defBody s_m_Wall_answer) (defScope s_m_Wall_answer) .none kVm1 dcm1 pmm1 anm1 cdm1 ctm1), slm1⟩)
    (cm1 : PySem.W.codeIn K cdm1 "Wall.answer" = true)
    (km1 : PySem.W.keepIn K (.ref fm1) = true)
    (am2 : PySem.W.findIn K (.ref c_Wall) "kick" = some (some (.ref fm2)))
    (im2 : PySem.W.isFn K (.ref fm2) = true)
    (lm2 : K.lookup fm2 = some ⟨ocm2, odm2, .func (PySem.W.fnOf "kick" "Wall.kick" (defArgs s_m_Wall_kick) (defBody s_m_Wall_kick) (defScope s_m_Wall_kick) .none kVm2 dcm2 pmm2 anm2 cdm2 ctm2), slm2⟩)
    (cm2 : PySem.W.codeIn K cdm2 "Wall.kick" = true)
    (km2 : PySem.W.keepIn K (.ref fm2) = true)
    (am3 : PySem.W.findIn K (.ref c_Wall) "may" = some (some (.ref fm3)))
    (im3 : PySem.W.isFn K (.ref fm3) = true)
    (lm3 : K.lookup fm3 = some ⟨ocm3, odm3, .func (PySem.W.fnOf "may" "Wall.may" (defArgs s_m_Wall_may) (defBody s_m_Wall_may) (defScope s_m_Wall_may) .none kVm3 dcm3 pmm3 anm3 cdm3 ctm3), slm3⟩)
    (cm3 : PySem.W.codeIn K cdm3 "Wall.may" = true)
    (km3 : PySem.W.keepIn K (.ref fm3) = true)
    (am4 : PySem.W.findIn K (.ref c_Free) "answer" = some (some (.ref fm4)))
    (im4 : PySem.W.isFn K (.ref fm4) = true)
    (lm4 : K.lookup fm4 = some ⟨ocm4, odm4, .func (PySem.W.fnOf "answer" "Free.answer" (defArgs s_m_Free_answer) (defBody s_m_Free_answer) (defScope s_m_Free_answer) .none kVm4 dcm4 pmm4 anm4 cdm4 ctm4), slm4⟩)
    (cm4 : PySem.W.codeIn K cdm4 "Free.answer" = true)
    (km4 : PySem.W.keepIn K (.ref fm4) = true)
    (am5 : PySem.W.findIn K (.ref c_Free) "kick" = some (some (.ref fm5)))
    (im5 : PySem.W.isFn K (.ref fm5) = true)
    (lm5 : K.lookup fm5 = some ⟨ocm5, odm5, .func (PySem.W.fnOf "kick" "Free.kick" (defArgs s_m_Free_kick) (defBody s_m_Free_kick) (defScope s_m_Free_kick) .none kVm5 dcm5 pmm5 anm5 cdm5 ctm5), slm5⟩)
    (cm5 : PySem.W.codeIn K cdm5 "Free.kick" = true)
    (km5 : PySem.W.keepIn K (.ref fm5) = true)
    (am6 : PySem.W.findIn K (.ref c_Free) "may" = some (some (.ref fm6)))
    (im6 : PySem.W.isFn K (.ref fm6) = true)
    (lm6 : K.lookup fm6 = some ⟨ocm6, odm6, .func (PySem.W.fnOf "may" "Free.may" (defArgs s_m_Free_may) (defBody s_m_Free_may) (defScope s_m_Free_may) .none kVm6 dcm6 pmm6 anm6 cdm6 ctm6), slm6⟩)
    (cm6 : PySem.W.codeIn K cdm6 "Free.may" = true)
    (km6 : PySem.W.keepIn K (.ref fm6) = true)
    (am7 : PySem.W.findIn K (.ref c_Railed) "answer" = some (some (.ref fm7)))
    (im7 : PySem.W.isFn K (.ref fm7) = true)
    (lm7 : K.lookup fm7 = some ⟨ocm7, odm7, .func (PySem.W.fnOf "answer" "Railed.answer" (defArgs s_m_Railed_answer) (defBody s_m_Railed_answer) (defScope s_m_Railed_answer) .none kVm7 dcm7 pmm7 anm7 cdm7 ctm7), slm7⟩)
    (cm7 : PySem.W.codeIn K cdm7 "Railed.answer" = true)
    (km7 : PySem.W.keepIn K (.ref fm7) = true)
    (am8 : PySem.W.findIn K (.ref c_Railed) "kick" = some (some (.ref fm8)))
    (im8 : PySem.W.isFn K (.ref fm8) = true)
    (lm8 : K.lookup fm8 = some ⟨ocm8, odm8, .func (PySem.W.fnOf "kick" "Railed.kick" (defArgs s_m_Railed_kick) (defBody s_m_Railed_kick) (defScope s_m_Railed_kick) .none kVm8 dcm8 pmm8 anm8 cdm8 ctm8), slm8⟩)
    (cm8 : PySem.W.codeIn K cdm8 "Railed.kick" = true)
    (km8 : PySem.W.keepIn K (.ref fm8) = true)
    (am9 : PySem.W.findIn K (.ref c_Railed) "may" = some (some (.ref fm9)))
    (im9 : PySem.W.isFn K (.ref fm9) = true)
    (lm9 : K.lookup fm9 = some ⟨ocm9, odm9, .func (PySem.W.fnOf "may" "Railed.may" (defArgs s_m_Railed_may) (defBody s_m_Railed_may) (defScope s_m_Railed_may) .none kVm9 dcm9 pmm9 anm9 cdm9 ctm9), slm9⟩)
    (cm9 : PySem.W.codeIn K cdm9 "Railed.may" = true)
    (km9 : PySem.W.keepIn K (.ref fm9) = true)
    (pg_Wall : PySem.W.plainGet K c_Wall Str.empty = true)
    (bhd_Wall : PySem.W.hasDictIn K c_Wall = true)
    (po_Wall : PySem.W.plainOver K c_Wall = true)
    (sa_Wall : PySem.W.findIn K (.ref c_Wall) "__setattr__" = some (some (.builtin "object.__setattr__")))
    (mki_Wall : PySem.W.makesIn K c_Wall = true)
    (ini_Wall : PySem.W.findIn K (.ref c_Wall) "__init__" = some (some (.ref fm0)))
    (kpc_Wall : PySem.W.keepIn K (.ref c_Wall) = true)
    (na_Wall_row : PySem.W.findIn K (.ref c_Wall) "row" = some none)
    (na_Wall_name : PySem.W.findIn K (.ref c_Wall) "name" = some none)
    (na_Wall_mass : PySem.W.findIn K (.ref c_Wall) "mass" = some none)
    (pg_Free : PySem.W.plainGet K c_Free Str.empty = true)
    (bhd_Free : PySem.W.hasDictIn K c_Free = true)
    (po_Free : PySem.W.plainOver K c_Free = true)
    (sa_Free : PySem.W.findIn K (.ref c_Free) "__setattr__" = some (some (.builtin "object.__setattr__")))
    (mki_Free : PySem.W.makesIn K c_Free = true)
    (ini_Free : PySem.W.findIn K (.ref c_Free) "__init__" = some (some (.ref fm0)))
    (kpc_Free : PySem.W.keepIn K (.ref c_Free) = true)
    (na_Free_row : PySem.W.findIn K (.ref c_Free) "row" = some none)
    (na_Free_name : PySem.W.findIn K (.ref c_Free) "name" = some none)
    (na_Free_mass : PySem.W.findIn K (.ref c_Free) "mass" = some none)
    (pg_Railed : PySem.W.plainGet K c_Railed Str.empty = true)
    (bhd_Railed : PySem.W.hasDictIn K c_Railed = true)
    (po_Railed : PySem.W.plainOver K c_Railed = true)
    (sa_Railed : PySem.W.findIn K (.ref c_Railed) "__setattr__" = some (some (.builtin "object.__setattr__")))
    (mki_Railed : PySem.W.makesIn K c_Railed = true)
    (ini_Railed : PySem.W.findIn K (.ref c_Railed) "__init__" = some (some (.ref fm0)))
    (kpc_Railed : PySem.W.keepIn K (.ref c_Railed) = true)
    (na_Railed_row : PySem.W.findIn K (.ref c_Railed) "row" = some none)
    (na_Railed_name : PySem.W.findIn K (.ref c_Railed) "name" = some none)
    (na_Railed_mass : PySem.W.findIn K (.ref c_Railed) "mass" = some none)
    (an_LENGTHY : PySem.W.nsIn K mainGlobals "LENGTHY" = some (some (.int 4000 k_LENGTHY)))
    (an_NOUGHT : PySem.W.nsIn K mainGlobals "NOUGHT" = some (some (.ref n_NOUGHT)))
    (ln_NOUGHT : K.lookup n_NOUGHT = some ⟨.type "tuple", on_NOUGHT, .seq #[.int 0 tn0_NOUGHT, .int 1 tn1_NOUGHT] nn_NOUGHT, sn_NOUGHT⟩)
    (aSt : PySem.W.nsIn K mainGlobals "STILL" = some (some (.ref aS)))
    (lSt : K.lookup aS = some ⟨.type "tuple", oS, .seq #[.ref a1S, .ref a2S] nS, sS⟩)
    (l1S : K.lookup a1S = some ⟨.type "tuple", o1, .seq #[.int 0 t1, .int 1 t2] n1, s1⟩)
    (l2S : K.lookup a2S = some ⟨.type "tuple", o2, .seq #[.int 0 t3, .int 1 t4] n2, s2⟩)
    : ∃ fd : FuncData, (∀ (s : Shared) (v : Value), BindsTo s fd ⟨[v], []⟩ [("_law_script", v)]) ∧ ∀ base : Heap, K.In base → base.Ns mainGlobals mg → FnOk l.prog w K mg base CX0 12 fa fd ["_law_script"] (sp_law K) := by
  have e := hfa.symm.trans (PySem.W.mg_of X G a35)
  cases e
  have T : Tx K mg { f_p_common_divisor := f0, fd_p_common_divisor := PySem.W.fnOf "common_divisor" "common_divisor" (defArgs s_p_common_divisor) (defBody s_p_common_divisor) (defScope s_p_common_divisor) .none kV0 dc0 pm0 an0 cd0 ct0, f_p_plus := f1, fd_p_plus := PySem.W.fnOf "plus" "plus" (defArgs s_p_plus) (defBody s_p_plus) (defScope s_p_plus) .none kV1 dc1 pm1 an1 cd1 ct1, f_p_minus := f2, fd_p_minus := PySem.W.fnOf "minus" "minus" (defArgs s_p_minus) (defBody s_p_minus) (defScope s_p_minus) .none kV2 dc2 pm2 an2 cd2 ct2, f_p_times := f3, fd_p_times := PySem.W.fnOf "times" "times" (defArgs s_p_times) (defBody s_p_times) (defScope s_p_times) .none kV3 dc3 pm3 an3 cd3 ct3, f_p_over := f4, fd_p_over := PySem.W.fnOf "over" "over" (defArgs s_p_over) (defBody s_p_over) (defScope s_p_over) .none kV4 dc4 pm4 an4 cd4 ct4, f_p_share_text := f5, fd_p_share_text := PySem.W.fnOf "share_text" "share_text" (defArgs s_p_share_text) (defBody s_p_share_text) (defScope s_p_share_text) .none kV5 dc5 pm5 an5 cd5 ct5, f_p_along := f6, fd_p_along := PySem.W.fnOf "along" "along" (defArgs s_p_along) (defBody s_p_along) (defScope s_p_along) .none kV6 dc6 pm6 an6 cd6 ct6, f_p_across := f7, fd_p_across := PySem.W.fnOf "across" "across" (defArgs s_p_across) (defBody s_p_across) (defScope s_p_across) .none kV7 dc7 pm7 an7 cd7 ct7, f_p_spot_times := f8, fd_p_spot_times := PySem.W.fnOf "spot_times" "spot_times" (defArgs s_p_spot_times) (defBody s_p_spot_times) (defScope s_p_spot_times) .none kV8 dc8 pm8 an8 cd8 ct8, f_p_onto_rail := f9, fd_p_onto_rail := PySem.W.fnOf "onto_rail" "onto_rail" (defArgs s_p_onto_rail) (defBody s_p_onto_rail) (defScope s_p_onto_rail) .none kV9 dc9 pm9 an9 cd9 ct9, f_p_spot_words := f10, fd_p_spot_words := PySem.W.fnOf "spot_words" "spot_words" (defArgs s_p_spot_words) (defBody s_p_spot_words) (defScope s_p_spot_words) .none kV10 dc10 pm10 an10 cd10 ct10, f_p_corner_words := f11, fd_p_corner_words := PySem.W.fnOf "corner_words" "corner_words" (defArgs s_p_corner_words) (defBody s_p_corner_words) (defScope s_p_corner_words) .none kV11 dc11 pm11 an11 cd11 ct11, f_p_wall_words := f12, fd_p_wall_words := PySem.W.fnOf "wall_words" "wall_words" (defArgs s_p_wall_words) (defBody s_p_wall_words) (defScope s_p_wall_words) .none kV12 dc12 pm12 an12 cd12 ct12, f_p_free_words := f13, fd_p_free_words := PySem.W.fnOf "free_words" "free_words" (defArgs s_p_free_words) (defBody s_p_free_words) (defScope s_p_free_words) .none kV13 dc13 pm13 an13 cd13 ct13, f_p_rail_words := f14, fd_p_rail_words := PySem.W.fnOf "rail_words" "rail_words" (defArgs s_p_rail_words) (defBody s_p_rail_words) (defScope s_p_rail_words) .none kV14 dc14 pm14 an14 cd14 ct14, f_p_body_of := f15, fd_p_body_of := PySem.W.fnOf "body_of" "body_of" (defArgs s_p_body_of) (defBody s_p_body_of) (defScope s_p_body_of) .none kV15 dc15 pm15 an15 cd15 ct15, f_l_cell := f16, fd_l_cell := PySem.W.fnOf "_law_cell" "_law_cell" (defArgs s_l_cell) (defBody s_l_cell) (defScope s_l_cell) .none kV16 dc16 pm16 an16 cd16 ct16, f_l_mixed := f17, fd_l_mixed := PySem.W.fnOf "_law_mixed" "_law_mixed" (defArgs s_l_mixed) (defBody s_l_mixed) (defScope s_l_mixed) .none kV17 dc17 pm17 an17 cd17 ct17, f_l_deck := f18, fd_l_deck := PySem.W.fnOf "_law_deck" "_law_deck" (defArgs s_l_deck) (defBody s_l_deck) (defScope s_l_deck) .none kV18 dc18 pm18 an18 cd18 ct18, f_l_take := f19, fd_l_take := PySem.W.fnOf "_law_take" "_law_take" (defArgs s_l_take) (defBody s_l_take) (defScope s_l_take) .none kV19 dc19 pm19 an19 cd19 ct19, f_l_gcd := f20, fd_l_gcd := PySem.W.fnOf "_law_gcd" "_law_gcd" (defArgs s_l_gcd) (defBody s_l_gcd) (defScope s_l_gcd) .none kV20 dc20 pm20 an20 cd20 ct20, f_l_whole := f21, fd_l_whole := PySem.W.fnOf "_law_whole" "_law_whole" (defArgs s_l_whole) (defBody s_l_whole) (defScope s_l_whole) .none kV21 dc21 pm21 an21 cd21 ct21, f_l_part := f22, fd_l_part := PySem.W.fnOf "_law_part" "_law_part" (defArgs s_l_part) (defBody s_l_part) (defScope s_l_part) .none kV22 dc22 pm22 an22 cd22 ct22, f_l_number := f23, fd_l_number := PySem.W.fnOf "_law_number" "_law_number" (defArgs s_l_number) (defBody s_l_number) (defScope s_l_number) .none kV23 dc23 pm23 an23 cd23 ct23, f_l_drawn := f24, fd_l_drawn := PySem.W.fnOf "_law_drawn" "_law_drawn" (defArgs s_l_drawn) (defBody s_l_drawn) (defScope s_l_drawn) .none kV24 dc24 pm24 an24 cd24 ct24, f_l_line := f25, fd_l_line := PySem.W.fnOf "_law_line" "_law_line" (defArgs s_l_line) (defBody s_l_line) (defScope s_l_line) .none kV25 dc25 pm25 an25 cd25 ct25, f_l_so_many := f26, fd_l_so_many := PySem.W.fnOf "_law_so_many" "_law_so_many" (defArgs s_l_so_many) (defBody s_l_so_many) (defScope s_l_so_many) .none kV26 dc26 pm26 an26 cd26 ct26, f_l_sum := f27, fd_l_sum := PySem.W.fnOf "_law_sum" "_law_sum" (defArgs s_l_sum) (defBody s_l_sum) (defScope s_l_sum) .none kV27 dc27 pm27 an27 cd27 ct27, f_l_added := f28, fd_l_added := PySem.W.fnOf "_law_added" "_law_added" (defArgs s_l_added) (defBody s_l_added) (defScope s_l_added) .none kV28 dc28 pm28 an28 cd28 ct28, f_l_dot := f29, fd_l_dot := PySem.W.fnOf "_law_dot" "_law_dot" (defArgs s_l_dot) (defBody s_l_dot) (defScope s_l_dot) .none kV29 dc29 pm29 an29 cd29 ct29, f_l_is_spot := f30, fd_l_is_spot := PySem.W.fnOf "_law_is_spot" "_law_is_spot" (defArgs s_l_is_spot) (defBody s_l_is_spot) (defScope s_l_is_spot) .none kV30 dc30 pm30 an30 cd30 ct30, f_l_push := f31, fd_l_push := PySem.W.fnOf "_law_push" "_law_push" (defArgs s_l_push) (defBody s_l_push) (defScope s_l_push) .none kV31 dc31 pm31 an31 cd31 ct31, f_l_row := f32, fd_l_row := PySem.W.fnOf "_law_row" "_law_row" (defArgs s_l_row) (defBody s_l_row) (defScope s_l_row) .none kV32 dc32 pm32 an32 cd32 ct32, f_l_alone := f33, fd_l_alone := PySem.W.fnOf "_law_alone" "_law_alone" (defArgs s_l_alone) (defBody s_l_alone) (defScope s_l_alone) .none kV33 dc33 pm33 an33 cd33 ct33, f_l_two := f34, fd_l_two := PySem.W.fnOf "_law_two" "_law_two" (defArgs s_l_two) (defBody s_l_two) (defScope s_l_two) .none kV34 dc34 pm34 an34 cd34 ct34, f_law := fa, fd_law := PySem.W.fnOf "law" "law" (defArgs s_law) (defBody s_law) (defScope s_law) .none kV35 dc35 pm35 an35 cd35 ct35, c_BodyError := c_BodyError, c_NoShare := c_NoShare, c_Body := c_Body, c_Wall := c_Wall, c_Free := c_Free, c_Railed := c_Railed, f_m_Body___init__ := fm0, fd_m_Body___init__ := PySem.W.fnOf "__init__" "Body.__init__" (defArgs s_m_Body___init__) (defBody s_m_Body___init__) (defScope s_m_Body___init__) .none kVm0 dcm0 pmm0 anm0 cdm0 ctm0, f_m_Wall_answer := fm1, fd_m_Wall_answer := PySem.W.fnOf "answer" "Wall.answer" (defArgs s_m_Wall_answer) (defBody s_m_Wall_answer) (defScope s_m_Wall_answer) .none kVm1 dcm1 pmm1 anm1 cdm1 ctm1, f_m_Wall_kick := fm2, fd_m_Wall_kick := PySem.W.fnOf "kick" "Wall.kick" (defArgs s_m_Wall_kick) (defBody s_m_Wall_kick) (defScope s_m_Wall_kick) .none kVm2 dcm2 pmm2 anm2 cdm2 ctm2, f_m_Wall_may := fm3, fd_m_Wall_may := PySem.W.fnOf "may" "Wall.may" (defArgs s_m_Wall_may) (defBody s_m_Wall_may) (defScope s_m_Wall_may) .none kVm3 dcm3 pmm3 anm3 cdm3 ctm3, f_m_Free_answer := fm4, fd_m_Free_answer := PySem.W.fnOf "answer" "Free.answer" (defArgs s_m_Free_answer) (defBody s_m_Free_answer) (defScope s_m_Free_answer) .none kVm4 dcm4 pmm4 anm4 cdm4 ctm4, f_m_Free_kick := fm5, fd_m_Free_kick := PySem.W.fnOf "kick" "Free.kick" (defArgs s_m_Free_kick) (defBody s_m_Free_kick) (defScope s_m_Free_kick) .none kVm5 dcm5 pmm5 anm5 cdm5 ctm5, f_m_Free_may := fm6, fd_m_Free_may := PySem.W.fnOf "may" "Free.may" (defArgs s_m_Free_may) (defBody s_m_Free_may) (defScope s_m_Free_may) .none kVm6 dcm6 pmm6 anm6 cdm6 ctm6, f_m_Railed_answer := fm7, fd_m_Railed_answer := PySem.W.fnOf "answer" "Railed.answer" (defArgs s_m_Railed_answer) (defBody s_m_Railed_answer) (defScope s_m_Railed_answer) .none kVm7 dcm7 pmm7 anm7 cdm7 ctm7, f_m_Railed_kick := fm8, fd_m_Railed_kick := PySem.W.fnOf "kick" "Railed.kick" (defArgs s_m_Railed_kick) (defBody s_m_Railed_kick) (defScope s_m_Railed_kick) .none kVm8 dcm8 pmm8 anm8 cdm8 ctm8, f_m_Railed_may := fm9, fd_m_Railed_may := PySem.W.fnOf "may" "Railed.may" (defArgs s_m_Railed_may) (defBody s_m_Railed_may) (defScope s_m_Railed_may) .none kVm9 dcm9 pmm9 anm9 cdm9 ctm9, k_LENGTHY := k_LENGTHY, n_NOUGHT := n_NOUGHT, n_STILL := aS } := { F_p_common_divisor := fun_mk (st := s_p_common_divisor) l0 c0 k0, b_p_common_divisor := (fun_mk (st := s_p_common_divisor) l0 c0 k0).binds (ps := ["one", "other"]) fun _ _ _ _ _ _ us hl => match us, hl with | [_, _], _ => rfl, g_p_common_divisor := PySem.W.mg_of X G a0, F_p_plus := fun_mk (st := s_p_plus) l1 c1 k1, b_p_plus := (fun_mk (st := s_p_plus) l1 c1 k1).binds (ps := ["one", "other"]) fun _ _ _ _ _ _ us hl => match us, hl with | [_, _], _ => rfl, g_p_plus := PySem.W.mg_of X G a1, F_p_minus := fun_mk (st := s_p_minus) l2 c2 k2, b_p_minus := (fun_mk (st := s_p_minus) l2 c2 k2).binds (ps := ["one", "other"]) fun _ _ _ _ _ _ us hl => match us, hl with | [_, _], _ => rfl, g_p_minus := PySem.W.mg_of X G a2, F_p_times := fun_mk (st := s_p_times) l3 c3 k3, b_p_times := (fun_mk (st := s_p_times) l3 c3 k3).binds (ps := ["one", "other"]) fun _ _ _ _ _ _ us hl => match us, hl with | [_, _], _ => rfl, g_p_times := PySem.W.mg_of X G a3, F_p_over := fun_mk (st := s_p_over) l4 c4 k4, b_p_over := (fun_mk (st := s_p_over) l4 c4 k4).binds (ps := ["one", "other"]) fun _ _ _ _ _ _ us hl => match us, hl with | [_, _], _ => rfl, g_p_over := PySem.W.mg_of X G a4, F_p_share_text := fun_mk (st := s_p_share_text) l5 c5 k5, b_p_share_text := (fun_mk (st := s_p_share_text) l5 c5 k5).binds (ps := ["one"]) fun _ _ _ _ _ _ us hl => match us, hl with | [_], _ => rfl, g_p_share_text := PySem.W.mg_of X G a5, F_p_along := fun_mk (st := s_p_along) l6 c6 k6, b_p_along := (fun_mk (st := s_p_along) l6 c6 k6).binds (ps := ["way", "spot"]) fun _ _ _ _ _ _ us hl => match us, hl with | [_, _], _ => rfl, g_p_along := PySem.W.mg_of X G a6, F_p_across := fun_mk (st := s_p_across) l7 c7 k7, b_p_across := (fun_mk (st := s_p_across) l7 c7 k7).binds (ps := ["way", "spot"]) fun _ _ _ _ _ _ us hl => match us, hl with | [_, _], _ => rfl, g_p_across := PySem.W.mg_of X G a7, F_p_spot_times := fun_mk (st := s_p_spot_times) l8 c8 k8, b_p_spot_times := (fun_mk (st := s_p_spot_times) l8 c8 k8).binds (ps := ["spot", "share"]) fun _ _ _ _ _ _ us hl => match us, hl with | [_, _], _ => rfl, g_p_spot_times := PySem.W.mg_of X G a8, F_p_onto_rail := fun_mk (st := s_p_onto_rail) l9 c9 k9, b_p_onto_rail := (fun_mk (st := s_p_onto_rail) l9 c9 k9).binds (ps := ["rail", "spot", "mass"]) fun _ _ _ _ _ _ us hl => match us, hl with | [_, _, _], _ => rfl, g_p_onto_rail := PySem.W.mg_of X G a9, F_p_spot_words := fun_mk (st := s_p_spot_words) l10 c10 k10, b_p_spot_words := (fun_mk (st := s_p_spot_words) l10 c10 k10).binds (ps := ["spot"]) fun _ _ _ _ _ _ us hl => match us, hl with | [_], _ => rfl, g_p_spot_words := PySem.W.mg_of X G a10, F_p_corner_words := fun_mk (st := s_p_corner_words) l11 c11 k11, b_p_corner_words := (fun_mk (st := s_p_corner_words) l11 c11 k11).binds (ps := ["shape"]) fun _ _ _ _ _ _ us hl => match us, hl with | [_], _ => rfl, g_p_corner_words := PySem.W.mg_of X G a11, F_p_wall_words := fun_mk (st := s_p_wall_words) l12 c12 k12, b_p_wall_words := (fun_mk (st := s_p_wall_words) l12 c12 k12).binds (ps := ["row"]) fun _ _ _ _ _ _ us hl => match us, hl with | [_], _ => rfl, g_p_wall_words := PySem.W.mg_of X G a12, F_p_free_words := fun_mk (st := s_p_free_words) l13 c13 k13, b_p_free_words := (fun_mk (st := s_p_free_words) l13 c13 k13).binds (ps := ["row"]) fun _ _ _ _ _ _ us hl => match us, hl with | [_], _ => rfl, g_p_free_words := PySem.W.mg_of X G a13, F_p_rail_words := fun_mk (st := s_p_rail_words) l14 c14 k14, b_p_rail_words := (fun_mk (st := s_p_rail_words) l14 c14 k14).binds (ps := ["row"]) fun _ _ _ _ _ _ us hl => match us, hl with | [_], _ => rfl, g_p_rail_words := PySem.W.mg_of X G a14, F_p_body_of := fun_mk (st := s_p_body_of) l15 c15 k15, b_p_body_of := (fun_mk (st := s_p_body_of) l15 c15 k15).binds (ps := ["row"]) fun _ _ _ _ _ _ us hl => match us, hl with | [_], _ => rfl, g_p_body_of := PySem.W.mg_of X G a15, F_l_cell := fun_mk (st := s_l_cell) l16 c16 k16, b_l_cell := (fun_mk (st := s_l_cell) l16 c16 k16).binds (ps := ["_law_script", "_law_k"]) fun _ _ _ _ _ _ us hl => match us, hl with | [_, _], _ => rfl, g_l_cell := PySem.W.mg_of X G a16, F_l_mixed := fun_mk (st := s_l_mixed) l17 c17 k17, b_l_mixed := (fun_mk (st := s_l_mixed) l17 c17 k17).binds (ps := ["_law_script", "_law_k", "_law_many"]) fun _ _ _ _ _ _ us hl => match us, hl with | [_, _, _], _ => rfl, g_l_mixed := PySem.W.mg_of X G a17, F_l_deck := fun_mk (st := s_l_deck) l18 c18 k18, b_l_deck := (fun_mk (st := s_l_deck) l18 c18 k18).binds (ps := ["_law_script"]) fun _ _ _ _ _ _ us hl => match us, hl with | [_], _ => rfl, g_l_deck := PySem.W.mg_of X G a18, F_l_take := fun_mk (st := s_l_take) l19 c19 k19, b_l_take := (fun_mk (st := s_l_take) l19 c19 k19).binds (ps := ["_law_deck_here", "_law_many"]) fun _ _ _ _ _ _ us hl => match us, hl with | [_, _], _ => rfl, g_l_take := PySem.W.mg_of X G a19, F_l_gcd := fun_mk (st := s_l_gcd) l20 c20 k20, b_l_gcd := (fun_mk (st := s_l_gcd) l20 c20 k20).binds (ps := ["_law_one", "_law_other"]) fun _ _ _ _ _ _ us hl => match us, hl with | [_, _], _ => rfl, g_l_gcd := PySem.W.mg_of X G a20, F_l_whole := fun_mk (st := s_l_whole) l21 c21 k21, b_l_whole := (fun_mk (st := s_l_whole) l21 c21 k21).binds (ps := ["_law_thing"]) fun _ _ _ _ _ _ us hl => match us, hl with | [_], _ => rfl, g_l_whole := PySem.W.mg_of X G a21, F_l_part := fun_mk (st := s_l_part) l22 c22 k22, b_l_part := (fun_mk (st := s_l_part) l22 c22 k22).binds (ps := ["_law_top", "_law_bottom"]) fun _ _ _ _ _ _ us hl => match us, hl with | [_, _], _ => rfl, g_l_part := PySem.W.mg_of X G a22, F_l_number := fun_mk (st := s_l_number) l23 c23 k23, b_l_number := (fun_mk (st := s_l_number) l23 c23 k23).binds (ps := ["_law_deck_here", "_law_span"]) fun _ _ _ _ _ _ us hl => match us, hl with | [_, _], _ => rfl, g_l_number := PySem.W.mg_of X G a23, F_l_drawn := fun_mk (st := s_l_drawn) l24 c24 k24, b_l_drawn := (fun_mk (st := s_l_drawn) l24 c24 k24).binds (ps := ["_law_deck_here"]) fun _ _ _ _ _ _ us hl => match us, hl with | [_], _ => rfl, g_l_drawn := PySem.W.mg_of X G a24, F_l_line := fun_mk (st := s_l_line) l25 c25 k25, b_l_line := (fun_mk (st := s_l_line) l25 c25 k25).binds (ps := ["_law_deck_here"]) fun _ _ _ _ _ _ us hl => match us, hl with | [_], _ => rfl, g_l_line := PySem.W.mg_of X G a25, F_l_so_many := fun_mk (st := s_l_so_many) l26 c26 k26, b_l_so_many := (fun_mk (st := s_l_so_many) l26 c26 k26).binds (ps := ["_law_spot", "_law_part_here"]) fun _ _ _ _ _ _ us hl => match us, hl with | [_, _], _ => rfl, g_l_so_many := PySem.W.mg_of X G a26, F_l_sum := fun_mk (st := s_l_sum) l27 c27 k27, b_l_sum := (fun_mk (st := s_l_sum) l27 c27 k27).binds (ps := ["_law_one", "_law_other"]) fun _ _ _ _ _ _ us hl => match us, hl with | [_, _], _ => rfl, g_l_sum := PySem.W.mg_of X G a27, F_l_added := fun_mk (st := s_l_added) l28 c28 k28, b_l_added := (fun_mk (st := s_l_added) l28 c28 k28).binds (ps := ["_law_spot", "_law_other"]) fun _ _ _ _ _ _ us hl => match us, hl with | [_, _], _ => rfl, g_l_added := PySem.W.mg_of X G a28, F_l_dot := fun_mk (st := s_l_dot) l29 c29 k29, b_l_dot := (fun_mk (st := s_l_dot) l29 c29 k29).binds (ps := ["_law_spot", "_law_other"]) fun _ _ _ _ _ _ us hl => match us, hl with | [_, _], _ => rfl, g_l_dot := PySem.W.mg_of X G a29, F_l_is_spot := fun_mk (st := s_l_is_spot) l30 c30 k30, b_l_is_spot := (fun_mk (st := s_l_is_spot) l30 c30 k30).binds (ps := ["_law_found"]) fun _ _ _ _ _ _ us hl => match us, hl with | [_], _ => rfl, g_l_is_spot := PySem.W.mg_of X G a30, F_l_push := fun_mk (st := s_l_push) l31 c31 k31, b_l_push := (fun_mk (st := s_l_push) l31 c31 k31).binds (ps := ["_law_deck_here", "_law_line_here"]) fun _ _ _ _ _ _ us hl => match us, hl with | [_, _], _ => rfl, g_l_push := PySem.W.mg_of X G a31, F_l_row := fun_mk (st := s_l_row) l32 c32 k32, b_l_row := (fun_mk (st := s_l_row) l32 c32 k32).binds (ps := ["_law_deck_here", "_law_kind", "_law_line_here"]) fun _ _ _ _ _ _ us hl => match us, hl with | [_, _, _], _ => rfl, g_l_row := PySem.W.mg_of X G a32, F_l_alone := fun_mk (st := s_l_alone) l33 c33 k33, b_l_alone := (fun_mk (st := s_l_alone) l33 c33 k33).binds (ps := ["_law_body", "_law_row_here", "_law_push_here", "_law_answer", "_law_mays"]) fun _ _ _ _ _ _ us hl => match us, hl with | [_, _, _, _, _], _ => rfl, g_l_alone := PySem.W.mg_of X G a33, F_l_two := fun_mk (st := s_l_two) l34 c34 k34, b_l_two := (fun_mk (st := s_l_two) l34 c34 k34).binds (ps := ["_law_body", "_law_one", "_law_other", "_law_here", "_law_there"]) fun _ _ _ _ _ _ us hl => match us, hl with | [_, _, _, _, _], _ => rfl, g_l_two := PySem.W.mg_of X G a34, F_law := fun_mk (st := s_law) l35 c35 k35, b_law := (fun_mk (st := s_law) l35 c35 k35).binds (ps := ["_law_script"]) fun _ _ _ _ _ _ us hl => match us, hl with | [_], _ => rfl, g_law := PySem.W.mg_of X G a35, m_abs := PySem.W.mg_none_of X G z_abs, m_bool := PySem.W.mg_none_of X G z_bool, m_int := PySem.W.mg_none_of X G z_int, m_isinstance := PySem.W.mg_none_of X G z_isinstance, m_len := PySem.W.mg_none_of X G z_len, m_max := PySem.W.mg_none_of X G z_max, m_min := PySem.W.mg_none_of X G z_min, m_range := PySem.W.mg_none_of X G z_range, m_str := PySem.W.mg_none_of X G z_str, m_tuple := PySem.W.mg_none_of X G z_tuple, g_BodyError := PySem.W.mg_of X G ac_BodyError, g_NoShare := PySem.W.mg_of X G ac_NoShare, g_Body := PySem.W.mg_of X G ac_Body, g_Wall := PySem.W.mg_of X G ac_Wall, g_Free := PySem.W.mg_of X G ac_Free, g_Railed := PySem.W.mg_of X G ac_Railed, x_NoShare := x_NoShare, k_NoShare := kc_NoShare, b_NoShare := bc_NoShare, t_NoShare := tc_NoShare, e_NoShare := PySem.W.exm_ref bc_NoShare hd_NoShare tc_NoShare sc_NoShare, E_NoShare := ⟨hg_NoShare, hk_NoShare, bc_NoShare, hd_NoShare, ha_NoShare, hn_NoShare, ht_NoShare, hm_NoShare⟩, F_m_Body___init__ := fun_mk (st := s_m_Body___init__) lm0 cm0 km0, b_m_Body___init__ := (fun_mk (st := s_m_Body___init__) lm0 cm0 km0).binds (ps := ["self", "row"]) fun _ _ _ _ _ _ us hl => match us, hl with | [_, _], _ => rfl, F_m_Wall_answer := fun_mk (st := s_m_Wall_answer) lm1 cm1 km1, b_m_Wall_answer := (fun_mk (st := s_m_Wall_answer) lm1 cm1 km1).binds (ps := ["self", "push"]) fun _ _ _ _ _ _ us hl => match us, hl with | [_, _], _ => rfl, mt_m_Wall_answer := ⟨am1, im1, km1⟩, F_m_Wall_kick := fun_mk (st := s_m_Wall_kick) lm2 cm2 km2, b_m_Wall_kick := (fun_mk (st := s_m_Wall_kick) lm2 cm2 km2).binds (ps := ["self", "pull"]) fun _ _ _ _ _ _ us hl => match us, hl with | [_, _], _ => rfl, mt_m_Wall_kick := ⟨am2, im2, km2⟩, F_m_Wall_may := fun_mk (st := s_m_Wall_may) lm3 cm3 km3, b_m_Wall_may := (fun_mk (st := s_m_Wall_may) lm3 cm3 km3).binds (ps := ["self", "speed"]) fun _ _ _ _ _ _ us hl => match us, hl with | [_, _], _ => rfl, mt_m_Wall_may := ⟨am3, im3, km3⟩, F_m_Free_answer := fun_mk (st := s_m_Free_answer) lm4 cm4 km4, b_m_Free_answer := (fun_mk (st := s_m_Free_answer) lm4 cm4 km4).binds (ps := ["self", "push"]) fun _ _ _ _ _ _ us hl => match us, hl with | [_, _], _ => rfl, mt_m_Free_answer := ⟨am4, im4, km4⟩, F_m_Free_kick := fun_mk (st := s_m_Free_kick) lm5 cm5 km5, b_m_Free_kick := (fun_mk (st := s_m_Free_kick) lm5 cm5 km5).binds (ps := ["self", "pull"]) fun _ _ _ _ _ _ us hl => match us, hl with | [_, _], _ => rfl, mt_m_Free_kick := ⟨am5, im5, km5⟩, F_m_Free_may := fun_mk (st := s_m_Free_may) lm6 cm6 km6, b_m_Free_may := (fun_mk (st := s_m_Free_may) lm6 cm6 km6).binds (ps := ["self", "speed"]) fun _ _ _ _ _ _ us hl => match us, hl with | [_, _], _ => rfl, mt_m_Free_may := ⟨am6, im6, km6⟩, F_m_Railed_answer := fun_mk (st := s_m_Railed_answer) lm7 cm7 km7, b_m_Railed_answer := (fun_mk (st := s_m_Railed_answer) lm7 cm7 km7).binds (ps := ["self", "push"]) fun _ _ _ _ _ _ us hl => match us, hl with | [_, _], _ => rfl, mt_m_Railed_answer := ⟨am7, im7, km7⟩, F_m_Railed_kick := fun_mk (st := s_m_Railed_kick) lm8 cm8 km8, b_m_Railed_kick := (fun_mk (st := s_m_Railed_kick) lm8 cm8 km8).binds (ps := ["self", "pull"]) fun _ _ _ _ _ _ us hl => match us, hl with | [_, _], _ => rfl, mt_m_Railed_kick := ⟨am8, im8, km8⟩, F_m_Railed_may := fun_mk (st := s_m_Railed_may) lm9 cm9 km9, b_m_Railed_may := (fun_mk (st := s_m_Railed_may) lm9 cm9 km9).binds (ps := ["self", "speed"]) fun _ _ _ _ _ _ us hl => match us, hl with | [_, _], _ => rfl, mt_m_Railed_may := ⟨am9, im9, km9⟩, na_Wall_row := na_Wall_row, na_Wall_name := na_Wall_name, na_Wall_mass := na_Wall_mass, cl_Wall := ⟨pg_Wall, bhd_Wall, po_Wall, sa_Wall⟩, mk_Wall := ⟨mki_Wall, ini_Wall, im0, kpc_Wall⟩, na_Free_row := na_Free_row, na_Free_name := na_Free_name, na_Free_mass := na_Free_mass, cl_Free := ⟨pg_Free, bhd_Free, po_Free, sa_Free⟩, mk_Free := ⟨mki_Free, ini_Free, im0, kpc_Free⟩, na_Railed_row := na_Railed_row, na_Railed_name := na_Railed_name, na_Railed_mass := na_Railed_mass, cl_Railed := ⟨pg_Railed, bhd_Railed, po_Railed, sa_Railed⟩, mk_Railed := ⟨mki_Railed, ini_Railed, im0, kpc_Railed⟩, g_LENGTHY := PySem.W.mg_of X G an_LENGTHY, g_NOUGHT := PySem.W.mg_of X G an_NOUGHT, t_NOUGHT := fun H => .inr ⟨_, _, _, ln_NOUGHT, rfl, rfl, size63 (show 2 ≤ 1000 by decide), (.cons ⟨_, rfl⟩ (.cons ⟨_, rfl⟩ .nil))⟩, g_STILL := PySem.W.mg_of X G aSt, t_STILL := ⟨a1S, a2S, fun H => .inr ⟨_, _, _, lSt, rfl, rfl, size63 (show 2 ≤ 1000 by decide), .cons rfl (.cons rfl .nil)⟩, fun H => .inr ⟨_, _, _, l1S, rfl, rfl, size63 (show 2 ≤ 1000 by decide), .cons ⟨_, rfl⟩ (.cons ⟨_, rfl⟩ .nil)⟩, fun H => .inr ⟨_, _, _, l2S, rfl, rfl, size63 (show 2 ≤ 1000 by decide), .cons ⟨_, rfl⟩ (.cons ⟨_, rfl⟩ .nil)⟩⟩ }
  exact ⟨PySem.W.fnOf "law" "law" (defArgs s_law) (defBody s_law) (defScope s_law) .none kV35 dc35 pm35 an35 cd35 ct35, fun s v => .of_eq rfl, fun base _ _ => ok_law T⟩
end R
open PySem PySem.W PyProof.Rows
set_option maxRecDepth 100000 in
set_option maxHeartbeats 0 in
theorem PySem.Challenge.cw_restbodies_k14_whole_answers_holds : PySem.Challenge.rw_restbodies_k14_whole_answers.Holds := by
  w_on; o_law; k_head; (case hw => w_witness2)
  k_fill
  refine L2.walk_of (l := PySem.Challenge.rw_restbodies_k14_whole_answers) (n := 63) (k := 12) (x := "_law_script") (CX := fun _ => L2.CX0) (sp := fun w => R.sp_law _) rfl (by decide) rfl ⟨rfl, by decide, by decide⟩ (fun w h Y => PySem.W.kIn_of Y) ?F (fun _ _ a ns hl hO hS => ⟨a, ns, rfl, hO, hS, hl, fun _ => rfl⟩) (fun _ _ _ _ _ h => h)
  case F =>
    intro w mg fa h KX G hmg
    refine' R.all_mk KX G hmg ?a0 ?l0 ?c0 ?k0 ?a1 ?l1 ?c1 ?k1 ?a2 ?l2 ?c2 ?k2 ?a3 ?l3 ?c3 ?k3 ?a4 ?l4 ?c4 ?k4 ?a5 ?l5 ?c5 ?k5 ?a6 ?l6 ?c6 ?k6 ?a7 ?l7 ?c7 ?k7 ?a8 ?l8 ?c8 ?k8 ?a9 ?l9 ?c9 ?k9 ?a10 ?l10 ?c10 ?k10 ?a11 ?l11 ?c11 ?k11 ?a12 ?l12 ?c12 ?k12 ?a13 ?l13 ?c13 ?k13 ?a14 ?l14 ?c14 ?k14 ?a15 ?l15 ?c15 ?k15 ?a16 ?l16 ?c16 ?k16 ?a17 ?l17 ?c17 ?k17 ?a18 ?l18 ?c18 ?k18 ?a19 ?l19 ?c19 ?k19 ?a20 ?l20 ?c20 ?k20 ?a21 ?l21 ?c21 ?k21 ?a22 ?l22 ?c22 ?k22 ?a23 ?l23 ?c23 ?k23 ?a24 ?l24 ?c24 ?k24 ?a25 ?l25 ?c25 ?k25 ?a26 ?l26 ?c26 ?k26 ?a27 ?l27 ?c27 ?k27 ?a28 ?l28 ?c28 ?k28 ?a29 ?l29 ?c29 ?k29 ?a30 ?l30 ?c30 ?k30 ?a31 ?l31 ?c31 ?k31 ?a32 ?l32 ?c32 ?k32 ?a33 ?l33 ?c33 ?k33 ?a34 ?l34 ?c34 ?k34 ?a35 ?l35 ?c35 ?k35 ?z_abs ?z_bool ?z_int ?z_isinstance ?z_len ?z_max ?z_min ?z_range ?z_str ?z_tuple ?ac_BodyError ?ac_NoShare ?ac_Body ?ac_Wall ?ac_Free ?ac_Railed ?x_NoShare ?kc_NoShare ?bc_NoShare ?tc_NoShare ?sc_NoShare ?hg_NoShare ?hk_NoShare ?hd_NoShare ?ha_NoShare ?hn_NoShare ?ht_NoShare ?hm_NoShare ?am0 ?im0 ?lm0 ?cm0 ?km0 ?am1 ?im1 ?lm1 ?cm1 ?km1 ?am2 ?im2 ?lm2 ?cm2 ?km2 ?am3 ?im3 ?lm3 ?cm3 ?km3 ?am4 ?im4 ?lm4 ?cm4 ?km4 ?am5 ?im5 ?lm5 ?cm5 ?km5 ?am6 ?im6 ?lm6 ?cm6 ?km6 ?am7 ?im7 ?lm7 ?cm7 ?km7 ?am8 ?im8 ?lm8 ?cm8 ?km8 ?am9 ?im9 ?lm9 ?cm9 ?km9 ?pg_Wall ?bhd_Wall ?po_Wall ?sa_Wall ?mki_Wall ?ini_Wall ?kpc_Wall ?na_Wall_row ?na_Wall_name ?na_Wall_mass ?pg_Free ?bhd_Free ?po_Free ?sa_Free ?mki_Free ?ini_Free ?kpc_Free ?na_Free_row ?na_Free_name ?na_Free_mass ?pg_Railed ?bhd_Railed ?po_Railed ?sa_Railed ?mki_Railed ?ini_Railed ?kpc_Railed ?na_Railed_row ?na_Railed_name ?na_Railed_mass ?an_LENGTHY ?an_NOUGHT ?ln_NOUGHT ?aSt ?lSt ?l1S ?l2S
    (case a0 => k_is)
    (case l0 => k_is)
    (case c0 => k_is)
    (case k0 => k_is)
    (case a1 => k_is)
    (case l1 => k_is)
    (case c1 => k_is)
    (case k1 => k_is)
    (case a2 => k_is)
    (case l2 => k_is)
    (case c2 => k_is)
    (case k2 => k_is)
    (case a3 => k_is)
    (case l3 => k_is)
    (case c3 => k_is)
    (case k3 => k_is)
    (case a4 => k_is)
    (case l4 => k_is)
    (case c4 => k_is)
    (case k4 => k_is)
    (case a5 => k_is)
    (case l5 => k_is)
    (case c5 => k_is)
    (case k5 => k_is)
    (case a6 => k_is)
    (case l6 => k_is)
    (case c6 => k_is)
    (case k6 => k_is)
    (case a7 => k_is)
    (case l7 => k_is)
    (case c7 => k_is)
    (case k7 => k_is)
    (case a8 => k_is)
    (case l8 => k_is)
    (case c8 => k_is)
    (case k8 => k_is)
    (case a9 => k_is)
    (case l9 => k_is)
    (case c9 => k_is)
    (case k9 => k_is)
    (case a10 => k_is)
    (case l10 => k_is)
    (case c10 => k_is)
    (case k10 => k_is)
    (case a11 => k_is)
    (case l11 => k_is)
    (case c11 => k_is)
    (case k11 => k_is)
    (case a12 => k_is)
    (case l12 => k_is)
    (case c12 => k_is)
    (case k12 => k_is)
    (case a13 => k_is)
    (case l13 => k_is)
    (case c13 => k_is)
    (case k13 => k_is)
    (case a14 => k_is)
    (case l14 => k_is)
    (case c14 => k_is)
    (case k14 => k_is)
    (case a15 => k_is)
    (case l15 => k_is)
    (case c15 => k_is)
    (case k15 => k_is)
    (case a16 => k_is)
    (case l16 => k_is)
    (case c16 => k_is)
    (case k16 => k_is)
    (case a17 => k_is)
    (case l17 => k_is)
    (case c17 => k_is)
    (case k17 => k_is)
    (case a18 => k_is)
    (case l18 => k_is)
    (case c18 => k_is)
    (case k18 => k_is)
    (case a19 => k_is)
    (case l19 => k_is)
    (case c19 => k_is)
    (case k19 => k_is)
    (case a20 => k_is)
    (case l20 => k_is)
    (case c20 => k_is)
    (case k20 => k_is)
    (case a21 => k_is)
    (case l21 => k_is)
    (case c21 => k_is)
    (case k21 => k_is)
    (case a22 => k_is)
    (case l22 => k_is)
    (case c22 => k_is)
    (case k22 => k_is)
    (case a23 => k_is)
    (case l23 => k_is)
    (case c23 => k_is)
    (case k23 => k_is)
    (case a24 => k_is)
    (case l24 => k_is)
    (case c24 => k_is)
    (case k24 => k_is)
    (case a25 => k_is)
    (case l25 => k_is)
    (case c25 => k_is)
    (case k25 => k_is)
    (case a26 => k_is)
    (case l26 => k_is)
    (case c26 => k_is)
    (case k26 => k_is)
    (case a27 => k_is)
    (case l27 => k_is)
    (case c27 => k_is)
    (case k27 => k_is)
    (case a28 => k_is)
    (case l28 => k_is)
    (case c28 => k_is)
    (case k28 => k_is)
    (case a29 => k_is)
    (case l29 => k_is)
    (case c29 => k_is)
    (case k29 => k_is)
    (case a30 => k_is)
    (case l30 => k_is)
    (case c30 => k_is)
    (case k30 => k_is)
    (case a31 => k_is)
    (case l31 => k_is)
    (case c31 => k_is)
    (case k31 => k_is)
    (case a32 => k_is)
    (case l32 => k_is)
    (case c32 => k_is)
    (case k32 => k_is)
    (case a33 => k_is)
    (case l33 => k_is)
    (case c33 => k_is)
    (case k33 => k_is)
    (case a34 => k_is)
    (case l34 => k_is)
    (case c34 => k_is)
    (case k34 => k_is)
    (case a35 => k_is)
    (case l35 => k_is)
    (case c35 => k_is)
    (case k35 => k_is)
    (case z_abs => k_is)
    (case z_bool => k_is)
    (case z_int => k_is)
    (case z_isinstance => k_is)
    (case z_len => k_is)
    (case z_max => k_is)
    (case z_min => k_is)
    (case z_range => k_is)
    (case z_str => k_is)
    (case z_tuple => k_is)
    (case ac_BodyError => k_is)
    (case ac_NoShare => k_is)
    (case ac_Body => k_is)
    (case ac_Wall => k_is)
    (case ac_Free => k_is)
    (case ac_Railed => k_is)
    (case x_NoShare => k_exc)
    (case kc_NoShare => k_is)
    (case bc_NoShare => k_is)
    (case tc_NoShare => k_is)
    (case sc_NoShare => k_is)
    (case hg_NoShare => k_is)
    (case hk_NoShare => k_is)
    (case hd_NoShare => k_is)
    (case ha_NoShare => k_is)
    (case hn_NoShare => k_is)
    (case ht_NoShare => k_is)
    (case hm_NoShare => k_is)
    (case am0 => k_is)
    (case im0 => k_is)
    (case lm0 => k_is)
    (case cm0 => k_is)
    (case km0 => k_is)
    (case am1 => k_is)
    (case im1 => k_is)
    (case lm1 => k_is)
    (case cm1 => k_is)
    (case km1 => k_is)
    (case am2 => k_is)
    (case im2 => k_is)
    (case lm2 => k_is)
    (case cm2 => k_is)
    (case km2 => k_is)
    (case am3 => k_is)
    (case im3 => k_is)
    (case lm3 => k_is)
    (case cm3 => k_is)
    (case km3 => k_is)
    (case am4 => k_is)
    (case im4 => k_is)
    (case lm4 => k_is)
    (case cm4 => k_is)
    (case km4 => k_is)
    (case am5 => k_is)
    (case im5 => k_is)
    (case lm5 => k_is)
    (case cm5 => k_is)
    (case km5 => k_is)
    (case am6 => k_is)
    (case im6 => k_is)
    (case lm6 => k_is)
    (case cm6 => k_is)
    (case km6 => k_is)
    (case am7 => k_is)
    (case im7 => k_is)
    (case lm7 => k_is)
    (case cm7 => k_is)
    (case km7 => k_is)
    (case am8 => k_is)
    (case im8 => k_is)
    (case lm8 => k_is)
    (case cm8 => k_is)
    (case km8 => k_is)
    (case am9 => k_is)
    (case im9 => k_is)
    (case lm9 => k_is)
    (case cm9 => k_is)
    (case km9 => k_is)
    (case pg_Wall => k_is)
    (case bhd_Wall => k_is)
    (case po_Wall => k_is)
    (case sa_Wall => k_is)
    (case mki_Wall => k_is)
    (case ini_Wall => k_is)
    (case kpc_Wall => k_is)
    (case na_Wall_row => k_is)
    (case na_Wall_name => k_is)
    (case na_Wall_mass => k_is)
    (case pg_Free => k_is)
    (case bhd_Free => k_is)
    (case po_Free => k_is)
    (case sa_Free => k_is)
    (case mki_Free => k_is)
    (case ini_Free => k_is)
    (case kpc_Free => k_is)
    (case na_Free_row => k_is)
    (case na_Free_name => k_is)
    (case na_Free_mass => k_is)
    (case pg_Railed => k_is)
    (case bhd_Railed => k_is)
    (case po_Railed => k_is)
    (case sa_Railed => k_is)
    (case mki_Railed => k_is)
    (case ini_Railed => k_is)
    (case kpc_Railed => k_is)
    (case na_Railed_row => k_is)
    (case na_Railed_name => k_is)
    (case na_Railed_mass => k_is)
    (case an_LENGTHY => k_is)
    (case an_NOUGHT => k_is)
    (case ln_NOUGHT => k_is)
    (case aSt => k_is)
    (case lSt => k_is)
    (case l1S => k_is)
    (case l2S => k_is)
