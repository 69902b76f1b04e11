import PyProof.Rows.All
import Wide.All
import OpenK.AllK
import Wide.FinOn
import HandS.ForMost
import HandS.Wide
import HandS.IsInst
import HandS.Defaults
import HandS.WideBits

import HandS.ForExc
import HandS.ExcIs
import HandS.Style
import HandS.Sort
import HandS.SortRule
import HandS.Zip
import PySem.Challenge.RW_restbodies_k11_answers_and_kicks

set_option Elab.async false
set_option linter.all false
set_option maxRecDepth 100000
set_option maxHeartbeats 2000000
set_option synthInstance.maxSize 100000
set_option synthInstance.maxHeartbeats 2000000
namespace R
open PySem PySem.Spec PyProof.Rows L2
/-! ### the text -/
def topS (i : Nat) : Stmt := PySem.Challenge.pw_restbodies_k11_answers_and_kicks.main.body.getD i (.Pass ⟨0, 0, 0, 0⟩)
abbrev s_p_common_divisor : Stmt := topS 8
theorem sc_p_common_divisor : FnScope ["one", "other"] ["one", "other"] (defScope s_p_common_divisor) := ⟨rfl, rfl, rfl, by decide +kernel, rfl, by decide +kernel, by decide +kernel⟩
abbrev s_p_plus : Stmt := topS 11
theorem sc_p_plus : FnScope ["one", "other", "top", "bottom", "more", "part", "divisor", "total", "again"] ["one", "other"] (defScope s_p_plus) := ⟨rfl, rfl, rfl, by decide +kernel, rfl, by decide +kernel, by decide +kernel⟩
abbrev s_p_minus : Stmt := topS 12
theorem sc_p_minus : FnScope ["one", "other", "top", "bottom"] ["one", "other"] (defScope s_p_minus) := ⟨rfl, rfl, rfl, by decide +kernel, rfl, by decide +kernel, by decide +kernel⟩
abbrev s_p_times : Stmt := topS 13
theorem sc_p_times : FnScope ["one", "other", "top", "bottom", "more", "part", "divisor", "again"] ["one", "other"] (defScope s_p_times) := ⟨rfl, rfl, rfl, by decide +kernel, rfl, by decide +kernel, by decide +kernel⟩
abbrev s_p_over : Stmt := topS 14
theorem sc_p_over : FnScope ["one", "other", "top", "bottom"] ["one", "other"] (defScope s_p_over) := ⟨rfl, rfl, rfl, by decide +kernel, rfl, by decide +kernel, by decide +kernel⟩
abbrev s_p_share_text : Stmt := topS 15
theorem sc_p_share_text : FnScope ["one", "top", "bottom"] ["one"] (defScope s_p_share_text) := ⟨rfl, rfl, rfl, by decide +kernel, rfl, by decide +kernel, by decide +kernel⟩
abbrev s_p_along : Stmt := topS 18
theorem sc_p_along : FnScope ["way", "spot", "p", "q", "x", "y"] ["way", "spot"] (defScope s_p_along) := ⟨rfl, rfl, rfl, by decide +kernel, rfl, by decide +kernel, by decide +kernel⟩
abbrev s_p_across : Stmt := topS 19
theorem sc_p_across : FnScope ["way", "spot", "p", "q", "x", "y"] ["way", "spot"] (defScope s_p_across) := ⟨rfl, rfl, rfl, by decide +kernel, rfl, by decide +kernel, by decide +kernel⟩
abbrev s_p_spot_times : Stmt := topS 20
theorem sc_p_spot_times : FnScope ["spot", "share"] ["spot", "share"] (defScope s_p_spot_times) := ⟨rfl, rfl, rfl, by decide +kernel, rfl, by decide +kernel, by decide +kernel⟩
abbrev s_p_onto_rail : Stmt := topS 22
theorem sc_p_onto_rail : FnScope ["rail", "spot", "mass", "p", "q", "part"] ["rail", "spot", "mass"] (defScope s_p_onto_rail) := ⟨rfl, rfl, rfl, by decide +kernel, rfl, by decide +kernel, by decide +kernel⟩
abbrev s_p_spot_words : Stmt := topS 23
theorem sc_p_spot_words : FnScope ["spot", "part"] ["spot"] (defScope s_p_spot_words) := ⟨rfl, rfl, rfl, by decide +kernel, rfl, by decide +kernel, by decide +kernel⟩
abbrev s_p_corner_words : Stmt := topS 24
theorem sc_p_corner_words : FnScope ["shape", "x", "y"] ["shape"] (defScope s_p_corner_words) := ⟨rfl, rfl, rfl, by decide +kernel, rfl, by decide +kernel, by decide +kernel⟩
abbrev s_p_wall_words : Stmt := topS 25
theorem sc_p_wall_words : FnScope ["row", "name", "shape", "mass", "rail", "place", "speed"] ["row"] (defScope s_p_wall_words) := ⟨rfl, rfl, rfl, by decide +kernel, rfl, by decide +kernel, by decide +kernel⟩
abbrev s_p_free_words : Stmt := topS 26
theorem sc_p_free_words : FnScope ["row", "name", "shape", "mass", "rail", "place", "speed"] ["row"] (defScope s_p_free_words) := ⟨rfl, rfl, rfl, by decide +kernel, rfl, by decide +kernel, by decide +kernel⟩
abbrev s_p_rail_words : Stmt := topS 27
theorem sc_p_rail_words : FnScope ["row", "name", "shape", "mass", "rail", "place", "speed", "ahead"] ["row"] (defScope s_p_rail_words) := ⟨rfl, rfl, rfl, by decide +kernel, rfl, by decide +kernel, by decide +kernel⟩
abbrev s_p_body_of : Stmt := topS 32
theorem sc_p_body_of : FnScope ["row", "name", "shape", "mass", "rail", "place", "speed"] ["row"] (defScope s_p_body_of) := ⟨rfl, rfl, rfl, by decide +kernel, rfl, by decide +kernel, by decide +kernel⟩
abbrev s_l_cell : Stmt := topS 34
theorem sc_l_cell : FnScope ["_law_script", "_law_k"] ["_law_script", "_law_k"] (defScope s_l_cell) := ⟨rfl, rfl, rfl, by decide +kernel, rfl, by decide +kernel, by decide +kernel⟩
abbrev s_l_mixed : Stmt := topS 35
theorem sc_l_mixed : FnScope ["_law_script", "_law_k", "_law_many", "_law_number_here"] ["_law_script", "_law_k", "_law_many"] (defScope s_l_mixed) := ⟨rfl, rfl, rfl, by decide +kernel, rfl, by decide +kernel, by decide +kernel⟩
abbrev s_l_deck : Stmt := topS 36
theorem sc_l_deck : FnScope ["_law_script", "_law_cell_here"] ["_law_script"] (defScope s_l_deck) := ⟨rfl, rfl, rfl, by decide +kernel, rfl, by decide +kernel, by decide +kernel⟩
abbrev s_l_take : Stmt := topS 37
theorem sc_l_take : FnScope ["_law_deck_here", "_law_many", "_law_cell_here"] ["_law_deck_here", "_law_many"] (defScope s_l_take) := ⟨rfl, rfl, rfl, by decide +kernel, rfl, by decide +kernel, by decide +kernel⟩
abbrev s_l_gcd : Stmt := topS 38
theorem sc_l_gcd : FnScope ["_law_one", "_law_other", "_law_rest"] ["_law_one", "_law_other"] (defScope s_l_gcd) := ⟨rfl, rfl, rfl, by decide +kernel, rfl, by decide +kernel, by decide +kernel⟩
abbrev s_l_left : Stmt := topS 39
theorem sc_l_left : FnScope ["_law_a", "_law_b", "_law_c"] ["_law_a", "_law_b", "_law_c"] (defScope s_l_left) := ⟨rfl, rfl, rfl, by decide +kernel, rfl, by decide +kernel, by decide +kernel⟩
abbrev s_l_half : Stmt := topS 40
theorem sc_l_half : FnScope ["_law_points", "_law_found", "_law_point"] ["_law_points"] (defScope s_l_half) := ⟨rfl, rfl, rfl, by decide +kernel, rfl, by decide +kernel, by decide +kernel⟩
abbrev s_l_hull : Stmt := topS 41
theorem sc_l_hull : FnScope ["_law_points", "_law_rows", "_law_found"] ["_law_points"] (defScope s_l_hull) := ⟨rfl, rfl, rfl, by decide +kernel, rfl, by decide +kernel, by decide +kernel⟩
abbrev s_l_number : Stmt := topS 42
theorem sc_l_number : FnScope ["_law_deck_here", "_law_span"] ["_law_deck_here", "_law_span"] (defScope s_l_number) := ⟨rfl, rfl, rfl, by decide +kernel, rfl, by decide +kernel, by decide +kernel⟩
abbrev s_l_whole : Stmt := topS 43
theorem sc_l_whole : FnScope ["_law_thing"] ["_law_thing"] (defScope s_l_whole) := ⟨rfl, rfl, rfl, by decide +kernel, rfl, by decide +kernel, by decide +kernel⟩
abbrev s_l_part : Stmt := topS 44
theorem sc_l_part : FnScope ["_law_top", "_law_bottom", "_law_by"] ["_law_top", "_law_bottom"] (defScope s_l_part) := ⟨rfl, rfl, rfl, by decide +kernel, rfl, by decide +kernel, by decide +kernel⟩
abbrev s_l_name : Stmt := topS 45
theorem sc_l_name : FnScope ["_law_deck_here", "_law_letters", "_law_many", "_law_k"] ["_law_deck_here"] (defScope s_l_name) := ⟨rfl, rfl, rfl, by decide +kernel, rfl, by decide +kernel, by decide +kernel⟩
abbrev s_l_shape : Stmt := topS 46
theorem sc_l_shape : FnScope ["_law_deck_here", "_law_span", "_law_many", "_law_k"] ["_law_deck_here"] (defScope s_l_shape) := ⟨rfl, rfl, rfl, by decide +kernel, rfl, by decide +kernel, by decide +kernel⟩
abbrev s_l_drawn : Stmt := topS 47
theorem sc_l_drawn : FnScope ["_law_deck_here", "_law_far", "_law_low", "_law_number_here"] ["_law_deck_here"] (defScope s_l_drawn) := ⟨rfl, rfl, rfl, by decide +kernel, rfl, by decide +kernel, by decide +kernel⟩
abbrev s_l_spot : Stmt := topS 48
theorem sc_l_spot : FnScope ["_law_deck_here"] ["_law_deck_here"] (defScope s_l_spot) := ⟨rfl, rfl, rfl, by decide +kernel, rfl, by decide +kernel, by decide +kernel⟩
abbrev s_l_line : Stmt := topS 49
theorem sc_l_line : FnScope ["_law_deck_here", "_law_far", "_law_p", "_law_q"] ["_law_deck_here"] (defScope s_l_line) := ⟨rfl, rfl, rfl, by decide +kernel, rfl, by decide +kernel, by decide +kernel⟩
abbrev s_l_way : Stmt := topS 50
theorem sc_l_way : FnScope ["_law_line_here", "_law_by"] ["_law_line_here"] (defScope s_l_way) := ⟨rfl, rfl, rfl, by decide +kernel, rfl, by decide +kernel, by decide +kernel⟩
abbrev s_l_so_many : Stmt := topS 51
theorem sc_l_so_many : FnScope ["_law_spot_here", "_law_top", "_law_bottom", "_law_found", "_law_one"] ["_law_spot_here", "_law_top", "_law_bottom"] (defScope s_l_so_many) := ⟨rfl, rfl, rfl, by decide +kernel, rfl, by decide +kernel, by decide +kernel⟩
abbrev s_l_on : Stmt := topS 52
theorem sc_l_on : FnScope ["_law_line_here", "_law_part_here", "_law_found", "_law_one"] ["_law_line_here", "_law_part_here"] (defScope s_l_on) := ⟨rfl, rfl, rfl, by decide +kernel, rfl, by decide +kernel, by decide +kernel⟩
abbrev s_l_upon : Stmt := topS 53
theorem sc_l_upon : FnScope ["_law_line_here", "_law_spot_here", "_law_a", "_law_b", "_law_c", "_law_d", "_law_top", "_law_square"] ["_law_line_here", "_law_spot_here"] (defScope s_l_upon) := ⟨rfl, rfl, rfl, by decide +kernel, rfl, by decide +kernel, by decide +kernel⟩
abbrev s_l_kick : Stmt := topS 54
theorem sc_l_kick : FnScope ["_law_kind", "_law_line_here", "_law_spot_here"] ["_law_kind", "_law_line_here", "_law_spot_here"] (defScope s_l_kick) := ⟨rfl, rfl, rfl, by decide +kernel, rfl, by decide +kernel, by decide +kernel⟩
abbrev s_l_may : Stmt := topS 55
theorem sc_l_may : FnScope ["_law_kind", "_law_line_here", "_law_spot_here", "_law_ahead"] ["_law_kind", "_law_line_here", "_law_spot_here"] (defScope s_l_may) := ⟨rfl, rfl, rfl, by decide +kernel, rfl, by decide +kernel, by decide +kernel⟩
abbrev s_l_is_spot : Stmt := topS 56
theorem sc_l_is_spot : FnScope ["_law_found", "_law_due", "_law_one", "_law_other"] ["_law_found", "_law_due"] (defScope s_l_is_spot) := ⟨rfl, rfl, rfl, by decide +kernel, rfl, by decide +kernel, by decide +kernel⟩
abbrev s_l_row : Stmt := topS 57
theorem sc_l_row : FnScope ["_law_deck_here", "_law_kind", "_law_line_here", "_law_name_here", "_law_shape_here", "_law_place", "_law_heavy"] ["_law_deck_here", "_law_kind", "_law_line_here"] (defScope s_l_row) := ⟨rfl, rfl, rfl, by decide +kernel, rfl, by decide +kernel, by decide +kernel⟩
abbrev s_l_classes : Stmt := topS 58
theorem sc_l_classes : FnScope ["_law_body", "_law_kind", "_law_found"] ["_law_body", "_law_kind"] (defScope s_l_classes) := ⟨rfl, rfl, rfl, by decide +kernel, rfl, by decide +kernel, by decide +kernel⟩
abbrev s_l_asked : Stmt := topS 59
theorem sc_l_asked : FnScope ["_law_body", "_law_kind", "_law_line_here", "_law_row_here", "_law_spot_here", "_law_way_here", "_law_due", "_law_slow", "_law_found"] ["_law_body", "_law_kind", "_law_line_here", "_law_row_here", "_law_spot_here", "_law_way_here"] (defScope s_l_asked) := ⟨rfl, rfl, rfl, by decide +kernel, rfl, by decide +kernel, by decide +kernel⟩
abbrev s_l_kept : Stmt := topS 60
theorem sc_l_kept : FnScope ["_law_body", "_law_row_here"] ["_law_body", "_law_row_here"] (defScope s_l_kept) := ⟨rfl, rfl, rfl, by decide +kernel, rfl, by decide +kernel, by decide +kernel⟩
abbrev s_law : Stmt := topS 61
theorem sc_law : FnScope ["_law_script", "_law_deck_here", "_law_kinds", "_law_ways", "_law_line_here", "_law_on_here", "_law_spots", "_law_beside", "_law_rows", "_law_bodies", "_law_turn", "_law_k", "_law_spot_here", "_law_way_here", "_law_one", "_law_kind", "_law_row_here"] ["_law_script"] (defScope s_law) := ⟨rfl, rfl, rfl, by decide +kernel, rfl, by decide +kernel, by decide +kernel⟩
abbrev s_m_Body___init__ : Stmt := inClass (topS 28) 0
theorem sc_m_Body___init__ : FnScope ["self", "row"] ["self", "row"] (defScope s_m_Body___init__) := ⟨rfl, rfl, rfl, by decide +kernel, rfl, by decide +kernel, by decide +kernel⟩
abbrev s_m_Wall_answer : Stmt := inClass (topS 29) 0
theorem sc_m_Wall_answer : FnScope ["self", "push"] ["self", "push"] (defScope s_m_Wall_answer) := ⟨rfl, rfl, rfl, by decide +kernel, rfl, by decide +kernel, by decide +kernel⟩
abbrev s_m_Wall_kick : Stmt := inClass (topS 29) 1
theorem sc_m_Wall_kick : FnScope ["self", "pull"] ["self", "pull"] (defScope s_m_Wall_kick) := ⟨rfl, rfl, rfl, by decide +kernel, rfl, by decide +kernel, by decide +kernel⟩
abbrev s_m_Wall_may : Stmt := inClass (topS 29) 2
theorem sc_m_Wall_may : FnScope ["self", "speed"] ["self", "speed"] (defScope s_m_Wall_may) := ⟨rfl, rfl, rfl, by decide +kernel, rfl, by decide +kernel, by decide +kernel⟩
abbrev s_m_Free_answer : Stmt := inClass (topS 30) 0
theorem sc_m_Free_answer : FnScope ["self", "push"] ["self", "push"] (defScope s_m_Free_answer) := ⟨rfl, rfl, rfl, by decide +kernel, rfl, by decide +kernel, by decide +kernel⟩
abbrev s_m_Free_kick : Stmt := inClass (topS 30) 1
theorem sc_m_Free_kick : FnScope ["self", "pull"] ["self", "pull"] (defScope s_m_Free_kick) := ⟨rfl, rfl, rfl, by decide +kernel, rfl, by decide +kernel, by decide +kernel⟩
abbrev s_m_Free_may : Stmt := inClass (topS 30) 2
theorem sc_m_Free_may : FnScope ["self", "speed"] ["self", "speed"] (defScope s_m_Free_may) := ⟨rfl, rfl, rfl, by decide +kernel, rfl, by decide +kernel, by decide +kernel⟩
abbrev s_m_Railed_answer : Stmt := inClass (topS 31) 0
theorem sc_m_Railed_answer : FnScope ["self", "push"] ["self", "push"] (defScope s_m_Railed_answer) := ⟨rfl, rfl, rfl, by decide +kernel, rfl, by decide +kernel, by decide +kernel⟩
abbrev s_m_Railed_kick : Stmt := inClass (topS 31) 1
theorem sc_m_Railed_kick : FnScope ["self", "pull"] ["self", "pull"] (defScope s_m_Railed_kick) := ⟨rfl, rfl, rfl, by decide +kernel, rfl, by decide +kernel, by decide +kernel⟩
abbrev s_m_Railed_may : Stmt := inClass (topS 31) 2
theorem sc_m_Railed_may : FnScope ["self", "speed"] ["self", "speed"] (defScope s_m_Railed_may) := ⟨rfl, rfl, rfl, by decide +kernel, rfl, by decide +kernel, by decide +kernel⟩
/-! ### heaps -/
theorem upd_some {H : Hp} {p x : Addr} {o u : HO} (hp : H p = none) (h : H x = some u) : (upd H p o) x = some u := by
  rw [upd_ne (ne_of_none h hp)]
  exact h
theorem same_upd {H : Hp} {p : Addr} {o : HO} (h : H p = none) : Same H (upd H p o) := fun b x e => upd_some h e
theorem alloc {H G : Hp} {p : Addr} {o : HO} (e : upd H p o = G) (hp : H p = none) : Same H G ∧ G p = some o := by
  subst e
  exact ⟨same_upd hp, upd_same⟩
theorem Same.seqT {K : PySem.W.Frag} {H H' : Hp} {a : Addr} {xs : List V} (e : Same H H') (h : SqT K H a xs) : SqT K H' a xs := by
  rcases h with (h | ⟨o, h⟩) | h
  · exact .inl (.inl (e _ _ h))
  · exact .inl (.inr ⟨o, e _ _ h⟩)
  · exact .inr h
/-- all but what stands at d and b is as it was -/
def Kp (d b : Addr) (H H' : Hp) : Prop := ∀ x o, x ≠ d → x ≠ b → H x = some o → H' x = some o
theorem Kp.refl {d b : Addr} {H : Hp} : Kp d b H H := fun _ _ _ _ h => h
theorem Kp.trans {d b : Addr} {H H1 H2 : Hp} (u : Kp d b H H1) (v : Kp d b H1 H2) : Kp d b H H2 := fun x o h1 h2 h => v x o h1 h2 (u x o h1 h2 h)
theorem Kp.same {d b : Addr} {H H' : Hp} (s : Same H H') : Kp d b H H' := fun x o _ _ h => s x o h
theorem Kp.free {d b : Addr} {H H' : Hp} (u : Kp d b H H') {x : Addr} (hd : H d ≠ none) (hb : H b ≠ none) (h : H' x = none) (h1 : H' d ≠ none) (h2 : H' b ≠ none) : H x = none := by
  cases e : H x with
  | none => rfl
  | some o =>
    by_cases e1 : x = d
    · subst e1; exact absurd h h1
    by_cases e2 : x = b
    · subst e2; exact absurd h h2
    rw [u x o e1 e2 e] at h
    cases h
/-- the law's script -/
def Sc (K : PySem.W.Frag) (H : Hp) (s : Addr) (ns : List Int) : Prop := (∃ o, H s = some (.frz o (.lst (ns.map V.int)))) ∨ ∀ H', SqL K H' s (ns.map V.int)
theorem Sc.seq {K : PySem.W.Frag} {H : Hp} {s : Addr} {ns : List Int} (h : Sc K H s ns) : SqL K H s (ns.map V.int) := by
  rcases h with ⟨o, h⟩ | h
  · exact .inl (.inr ⟨o, h⟩)
  · exact h H
theorem Sc.mk {K : PySem.W.Frag} {H : Hp} {s : Addr} {ns : List Int} (hO : Only H) (h : SqL K H s (ns.map V.int)) : Sc K H s ns := by
  rcases h with (h | ⟨o, h⟩) | h
  · rcases hO s with e | ⟨o, xs, e⟩
    · rw [e] at h; cases h
    · rw [e] at h; cases h
  · exact .inl ⟨o, h⟩
  · exact .inr fun H' => .inr h
theorem Sc.upd {K : PySem.W.Frag} {H : Hp} {s b : Addr} {ns : List Int} {u : HO} (h : Sc K H s ns) (hb : H b = none ∨ ∃ xs, H b = some (.lst xs)) : Sc K (upd H b u) s ns := by
  rcases h with ⟨o, h⟩ | h
  · refine .inl ⟨o, ?_⟩
    have n : s ≠ b := fun e => by
      subst e
      rcases hb with e | ⟨xs, e⟩ <;> rw [e] at h <;> cases h
    rw [upd_ne n]
    exact h
  · exact .inr h
theorem Sc.keep {K : PySem.W.Frag} {H H' : Hp} {s : Addr} {ns : List Int} (h : Sc K H s ns) (k : Same H H') : Sc K H' s ns := by
  rcases h with ⟨o, h⟩ | h
  · exact .inl ⟨o, k _ _ h⟩
  · exact .inr h
/-- the deck at d, its cells at b, drawn at most c times -/
structure Deck (K : PySem.W.Frag) (H : Hp) (d b : Addr) (c : Int) : Prop where
  ex : ∃ (s : Addr) (ns cs : List Int) (i k : Int), H d = some (.lst [.ref s, .ref b, .int i, .int k]) ∧ H b = some (.lst (cs.map V.int)) ∧ Sc K H s ns ∧ 0 ≤ i ∧ 0 ≤ k ∧ k ≤ c
  ne : b ≠ d
theorem Deck.keep {K : PySem.W.Frag} {H H' : Hp} {d b : Addr} {c : Int} (D : Deck K H d b c) (k : Same H H') : Deck K H' d b c := by
  obtain ⟨⟨s, ns, cs, i, j, h1, h2, h3, h4⟩, n⟩ := D
  exact ⟨⟨s, ns, cs, i, j, k _ _ h1, k _ _ h2, h3.keep k, h4⟩, n⟩
theorem Deck.le {K : PySem.W.Frag} {H : Hp} {d b : Addr} {c c' : Int} (D : Deck K H d b c) (h : c ≤ c') : Deck K H d b c' := by
  obtain ⟨⟨s, ns, cs, i, j, h1, h2, h3, h4, h5, h6⟩, n⟩ := D
  exact ⟨⟨s, ns, cs, i, j, h1, h2, h3, h4, h5, by omega⟩, n⟩
/-- an object beside the deck stands -/
theorem Deck.tup {K : PySem.W.Frag} {H H' : Hp} {d b x : Addr} {c : Int} {xs : List V} (D : Deck K H d b c) (k : Kp d b H H') (h : H x = some (.tup xs)) : H' x = some (.tup xs) := by
  obtain ⟨⟨s, ns, cs, i, j, h1, h2, _⟩, n⟩ := D
  exact k x _ (fun e => by rw [e, h1] at h; cases h) (fun e => by rw [e, h2] at h; cases h) h
theorem Deck.seqT {K : PySem.W.Frag} {H H' : Hp} {d b x : Addr} {c : Int} {xs : List V} (D : Deck K H d b c) (k : Kp d b H H') (h : SqT K H x xs) : SqT K H' x xs := by
  obtain ⟨⟨s, ns, cs, i, j, h1, h2, _⟩, n⟩ := D
  rcases h with (h | ⟨o, h⟩) | h
  · exact .inl (.inl (k x _ (fun e => by rw [e, h1] at h; cases h) (fun e => by rw [e, h2] at h; cases h) h))
  · exact .inl (.inr ⟨o, k x _ (fun e => by rw [e, h1] at h; cases h) (fun e => by rw [e, h2] at h; cases h) h⟩)
  · exact .inr h
theorem Deck.hd {K : PySem.W.Frag} {H : Hp} {d b : Addr} {c : Int} (D : Deck K H d b c) : H d ≠ none := by
  obtain ⟨⟨s, ns, cs, i, j, h1, _⟩, n⟩ := D
  rw [h1]; exact fun e => nomatch e
theorem Deck.hb {K : PySem.W.Frag} {H : Hp} {d b : Addr} {c : Int} (D : Deck K H d b c) : H b ≠ none := by
  obtain ⟨⟨s, ns, cs, i, j, _, h1, _⟩, n⟩ := D
  rw [h1]; exact fun e => nomatch e
theorem Deck.free {K : PySem.W.Frag} {H H' : Hp} {d b x : Addr} {c c' : Int} (D : Deck K H d b c) (D' : Deck K H' d b c') (k : Kp d b H H') (h : H' x = none) : H x = none := k.free D.hd D.hb h D'.hd D'.hb
theorem Deck.ne_d {K : PySem.W.Frag} {H : Hp} {d b x : Addr} {c : Int} (D : Deck K H d b c) (h : H x = none) : x ≠ d := fun e => D.hd (e ▸ h)
theorem Deck.ne_b {K : PySem.W.Frag} {H : Hp} {d b x : Addr} {c : Int} (D : Deck K H d b c) (h : H x = none) : x ≠ b := fun e => D.hb (e ▸ h)
/-! ### numbers -/
theorem log2_lt {n k : Nat} (h : n < 2 ^ k) (h0 : 0 < k) : n.log2 < k := PySem.Flt.log2_lt_of h0 h
theorem size63 {n : Nat} (h : n ≤ 1000) : n ≤ sizeLine := Nat.le_of_lt (small1000 h)
theorem abs_nn (i : Int) : 0 ≤ (if i < 0 then -i else i) := by
  split <;> omega
theorem abs_nat (i : Int) : (if i < 0 then -i else i) = (i.natAbs : Int) := by
  split <;> omega
/-! ### the facts of the text -/
structure Ad where
  f_p_common_divisor : Addr
  fd_p_common_divisor : FuncData
  f_p_plus : Addr
  fd_p_plus : FuncData
  f_p_minus : Addr
  fd_p_minus : FuncData
  f_p_times : Addr
  fd_p_times : FuncData
  f_p_over : Addr
  fd_p_over : FuncData
  f_p_share_text : Addr
  fd_p_share_text : FuncData
  f_p_along : Addr
  fd_p_along : FuncData
  f_p_across : Addr
  fd_p_across : FuncData
  f_p_spot_times : Addr
  fd_p_spot_times : FuncData
  f_p_onto_rail : Addr
  fd_p_onto_rail : FuncData
  f_p_spot_words : Addr
  fd_p_spot_words : FuncData
  f_p_corner_words : Addr
  fd_p_corner_words : FuncData
  f_p_wall_words : Addr
  fd_p_wall_words : FuncData
  f_p_free_words : Addr
  fd_p_free_words : FuncData
  f_p_rail_words : Addr
  fd_p_rail_words : FuncData
  f_p_body_of : Addr
  fd_p_body_of : FuncData
  f_l_cell : Addr
  fd_l_cell : FuncData
  f_l_mixed : Addr
  fd_l_mixed : FuncData
  f_l_deck : Addr
  fd_l_deck : FuncData
  f_l_take : Addr
  fd_l_take : FuncData
  f_l_gcd : Addr
  fd_l_gcd : FuncData
  f_l_left : Addr
  fd_l_left : FuncData
  f_l_half : Addr
  fd_l_half : FuncData
  f_l_hull : Addr
  fd_l_hull : FuncData
  f_l_number : Addr
  fd_l_number : FuncData
  f_l_whole : Addr
  fd_l_whole : FuncData
  f_l_part : Addr
  fd_l_part : FuncData
  f_l_name : Addr
  fd_l_name : FuncData
  f_l_shape : Addr
  fd_l_shape : FuncData
  f_l_drawn : Addr
  fd_l_drawn : FuncData
  f_l_spot : Addr
  fd_l_spot : FuncData
  f_l_line : Addr
  fd_l_line : FuncData
  f_l_way : Addr
  fd_l_way : FuncData
  f_l_so_many : Addr
  fd_l_so_many : FuncData
  f_l_on : Addr
  fd_l_on : FuncData
  f_l_upon : Addr
  fd_l_upon : FuncData
  f_l_kick : Addr
  fd_l_kick : FuncData
  f_l_may : Addr
  fd_l_may : FuncData
  f_l_is_spot : Addr
  fd_l_is_spot : FuncData
  f_l_row : Addr
  fd_l_row : FuncData
  f_l_classes : Addr
  fd_l_classes : FuncData
  f_l_asked : Addr
  fd_l_asked : FuncData
  f_l_kept : Addr
  fd_l_kept : FuncData
  f_law : Addr
  fd_law : FuncData
  c_BodyError : Addr
  c_NoShare : Addr
  c_Body : Addr
  c_Wall : Addr
  c_Free : Addr
  c_Railed : Addr
  f_m_Body___init__ : Addr
  fd_m_Body___init__ : FuncData
  f_m_Wall_answer : Addr
  fd_m_Wall_answer : FuncData
  f_m_Wall_kick : Addr
  fd_m_Wall_kick : FuncData
  f_m_Wall_may : Addr
  fd_m_Wall_may : FuncData
  f_m_Free_answer : Addr
  fd_m_Free_answer : FuncData
  f_m_Free_kick : Addr
  fd_m_Free_kick : FuncData
  f_m_Free_may : Addr
  fd_m_Free_may : FuncData
  f_m_Railed_answer : Addr
  fd_m_Railed_answer : FuncData
  f_m_Railed_kick : Addr
  fd_m_Railed_kick : FuncData
  f_m_Railed_may : Addr
  fd_m_Railed_may : FuncData
  n_NOUGHT : Addr
  n_STILL : Addr
  k_LENGTHY : Tok
structure Tx (K : PySem.W.Frag) (mg : Str → Option Value) (A : Ad) : Prop where
  F_p_common_divisor : Fun K "common_divisor" "common_divisor" s_p_common_divisor A.f_p_common_divisor A.fd_p_common_divisor
  b_p_common_divisor : Binds K A.fd_p_common_divisor ["one", "other"] []
  g_p_common_divisor : mg "common_divisor" = some (.ref A.f_p_common_divisor)
  F_p_plus : Fun K "plus" "plus" s_p_plus A.f_p_plus A.fd_p_plus
  b_p_plus : Binds K A.fd_p_plus ["one", "other"] []
  g_p_plus : mg "plus" = some (.ref A.f_p_plus)
  F_p_minus : Fun K "minus" "minus" s_p_minus A.f_p_minus A.fd_p_minus
  b_p_minus : Binds K A.fd_p_minus ["one", "other"] []
  g_p_minus : mg "minus" = some (.ref A.f_p_minus)
  F_p_times : Fun K "times" "times" s_p_times A.f_p_times A.fd_p_times
  b_p_times : Binds K A.fd_p_times ["one", "other"] []
  g_p_times : mg "times" = some (.ref A.f_p_times)
  F_p_over : Fun K "over" "over" s_p_over A.f_p_over A.fd_p_over
  b_p_over : Binds K A.fd_p_over ["one", "other"] []
  g_p_over : mg "over" = some (.ref A.f_p_over)
  F_p_share_text : Fun K "share_text" "share_text" s_p_share_text A.f_p_share_text A.fd_p_share_text
  b_p_share_text : Binds K A.fd_p_share_text ["one"] []
  g_p_share_text : mg "share_text" = some (.ref A.f_p_share_text)
  F_p_along : Fun K "along" "along" s_p_along A.f_p_along A.fd_p_along
  b_p_along : Binds K A.fd_p_along ["way", "spot"] []
  g_p_along : mg "along" = some (.ref A.f_p_along)
  F_p_across : Fun K "across" "across" s_p_across A.f_p_across A.fd_p_across
  b_p_across : Binds K A.fd_p_across ["way", "spot"] []
  g_p_across : mg "across" = some (.ref A.f_p_across)
  F_p_spot_times : Fun K "spot_times" "spot_times" s_p_spot_times A.f_p_spot_times A.fd_p_spot_times
  b_p_spot_times : Binds K A.fd_p_spot_times ["spot", "share"] []
  g_p_spot_times : mg "spot_times" = some (.ref A.f_p_spot_times)
  F_p_onto_rail : Fun K "onto_rail" "onto_rail" s_p_onto_rail A.f_p_onto_rail A.fd_p_onto_rail
  b_p_onto_rail : Binds K A.fd_p_onto_rail ["rail", "spot", "mass"] []
  g_p_onto_rail : mg "onto_rail" = some (.ref A.f_p_onto_rail)
  F_p_spot_words : Fun K "spot_words" "spot_words" s_p_spot_words A.f_p_spot_words A.fd_p_spot_words
  b_p_spot_words : Binds K A.fd_p_spot_words ["spot"] []
  g_p_spot_words : mg "spot_words" = some (.ref A.f_p_spot_words)
  F_p_corner_words : Fun K "corner_words" "corner_words" s_p_corner_words A.f_p_corner_words A.fd_p_corner_words
  b_p_corner_words : Binds K A.fd_p_corner_words ["shape"] []
  g_p_corner_words : mg "corner_words" = some (.ref A.f_p_corner_words)
  F_p_wall_words : Fun K "wall_words" "wall_words" s_p_wall_words A.f_p_wall_words A.fd_p_wall_words
  b_p_wall_words : Binds K A.fd_p_wall_words ["row"] []
  g_p_wall_words : mg "wall_words" = some (.ref A.f_p_wall_words)
  F_p_free_words : Fun K "free_words" "free_words" s_p_free_words A.f_p_free_words A.fd_p_free_words
  b_p_free_words : Binds K A.fd_p_free_words ["row"] []
  g_p_free_words : mg "free_words" = some (.ref A.f_p_free_words)
  F_p_rail_words : Fun K "rail_words" "rail_words" s_p_rail_words A.f_p_rail_words A.fd_p_rail_words
  b_p_rail_words : Binds K A.fd_p_rail_words ["row"] []
  g_p_rail_words : mg "rail_words" = some (.ref A.f_p_rail_words)
  F_p_body_of : Fun K "body_of" "body_of" s_p_body_of A.f_p_body_of A.fd_p_body_of
  b_p_body_of : Binds K A.fd_p_body_of ["row"] []
  g_p_body_of : mg "body_of" = some (.ref A.f_p_body_of)
  F_l_cell : Fun K "_law_cell" "_law_cell" s_l_cell A.f_l_cell A.fd_l_cell
  b_l_cell : Binds K A.fd_l_cell ["_law_script", "_law_k"] []
  g_l_cell : mg "_law_cell" = some (.ref A.f_l_cell)
  F_l_mixed : Fun K "_law_mixed" "_law_mixed" s_l_mixed A.f_l_mixed A.fd_l_mixed
  b_l_mixed : Binds K A.fd_l_mixed ["_law_script", "_law_k", "_law_many"] []
  g_l_mixed : mg "_law_mixed" = some (.ref A.f_l_mixed)
  F_l_deck : Fun K "_law_deck" "_law_deck" s_l_deck A.f_l_deck A.fd_l_deck
  b_l_deck : Binds K A.fd_l_deck ["_law_script"] []
  g_l_deck : mg "_law_deck" = some (.ref A.f_l_deck)
  F_l_take : Fun K "_law_take" "_law_take" s_l_take A.f_l_take A.fd_l_take
  b_l_take : Binds K A.fd_l_take ["_law_deck_here", "_law_many"] []
  g_l_take : mg "_law_take" = some (.ref A.f_l_take)
  F_l_gcd : Fun K "_law_gcd" "_law_gcd" s_l_gcd A.f_l_gcd A.fd_l_gcd
  b_l_gcd : Binds K A.fd_l_gcd ["_law_one", "_law_other"] []
  g_l_gcd : mg "_law_gcd" = some (.ref A.f_l_gcd)
  F_l_left : Fun K "_law_left" "_law_left" s_l_left A.f_l_left A.fd_l_left
  b_l_left : Binds K A.fd_l_left ["_law_a", "_law_b", "_law_c"] []
  g_l_left : mg "_law_left" = some (.ref A.f_l_left)
  F_l_half : Fun K "_law_half" "_law_half" s_l_half A.f_l_half A.fd_l_half
  b_l_half : Binds K A.fd_l_half ["_law_points"] []
  g_l_half : mg "_law_half" = some (.ref A.f_l_half)
  F_l_hull : Fun K "_law_hull" "_law_hull" s_l_hull A.f_l_hull A.fd_l_hull
  b_l_hull : Binds K A.fd_l_hull ["_law_points"] []
  g_l_hull : mg "_law_hull" = some (.ref A.f_l_hull)
  F_l_number : Fun K "_law_number" "_law_number" s_l_number A.f_l_number A.fd_l_number
  b_l_number : Binds K A.fd_l_number ["_law_deck_here", "_law_span"] []
  g_l_number : mg "_law_number" = some (.ref A.f_l_number)
  F_l_whole : Fun K "_law_whole" "_law_whole" s_l_whole A.f_l_whole A.fd_l_whole
  b_l_whole : Binds K A.fd_l_whole ["_law_thing"] []
  g_l_whole : mg "_law_whole" = some (.ref A.f_l_whole)
  F_l_part : Fun K "_law_part" "_law_part" s_l_part A.f_l_part A.fd_l_part
  b_l_part : Binds K A.fd_l_part ["_law_top", "_law_bottom"] []
  g_l_part : mg "_law_part" = some (.ref A.f_l_part)
  F_l_name : Fun K "_law_name" "_law_name" s_l_name A.f_l_name A.fd_l_name
  b_l_name : Binds K A.fd_l_name ["_law_deck_here"] []
  g_l_name : mg "_law_name" = some (.ref A.f_l_name)
  F_l_shape : Fun K "_law_shape" "_law_shape" s_l_shape A.f_l_shape A.fd_l_shape
  b_l_shape : Binds K A.fd_l_shape ["_law_deck_here"] []
  g_l_shape : mg "_law_shape" = some (.ref A.f_l_shape)
  F_l_drawn : Fun K "_law_drawn" "_law_drawn" s_l_drawn A.f_l_drawn A.fd_l_drawn
  b_l_drawn : Binds K A.fd_l_drawn ["_law_deck_here"] []
  g_l_drawn : mg "_law_drawn" = some (.ref A.f_l_drawn)
  F_l_spot : Fun K "_law_spot" "_law_spot" s_l_spot A.f_l_spot A.fd_l_spot
  b_l_spot : Binds K A.fd_l_spot ["_law_deck_here"] []
  g_l_spot : mg "_law_spot" = some (.ref A.f_l_spot)
  F_l_line : Fun K "_law_line" "_law_line" s_l_line A.f_l_line A.fd_l_line
  b_l_line : Binds K A.fd_l_line ["_law_deck_here"] []
  g_l_line : mg "_law_line" = some (.ref A.f_l_line)
  F_l_way : Fun K "_law_way" "_law_way" s_l_way A.f_l_way A.fd_l_way
  b_l_way : Binds K A.fd_l_way ["_law_line_here"] []
  g_l_way : mg "_law_way" = some (.ref A.f_l_way)
  F_l_so_many : Fun K "_law_so_many" "_law_so_many" s_l_so_many A.f_l_so_many A.fd_l_so_many
  b_l_so_many : Binds K A.fd_l_so_many ["_law_spot_here", "_law_top", "_law_bottom"] []
  g_l_so_many : mg "_law_so_many" = some (.ref A.f_l_so_many)
  F_l_on : Fun K "_law_on" "_law_on" s_l_on A.f_l_on A.fd_l_on
  b_l_on : Binds K A.fd_l_on ["_law_line_here", "_law_part_here"] []
  g_l_on : mg "_law_on" = some (.ref A.f_l_on)
  F_l_upon : Fun K "_law_upon" "_law_upon" s_l_upon A.f_l_upon A.fd_l_upon
  b_l_upon : Binds K A.fd_l_upon ["_law_line_here", "_law_spot_here"] []
  g_l_upon : mg "_law_upon" = some (.ref A.f_l_upon)
  F_l_kick : Fun K "_law_kick" "_law_kick" s_l_kick A.f_l_kick A.fd_l_kick
  b_l_kick : Binds K A.fd_l_kick ["_law_kind", "_law_line_here", "_law_spot_here"] []
  g_l_kick : mg "_law_kick" = some (.ref A.f_l_kick)
  F_l_may : Fun K "_law_may" "_law_may" s_l_may A.f_l_may A.fd_l_may
  b_l_may : Binds K A.fd_l_may ["_law_kind", "_law_line_here", "_law_spot_here"] []
  g_l_may : mg "_law_may" = some (.ref A.f_l_may)
  F_l_is_spot : Fun K "_law_is_spot" "_law_is_spot" s_l_is_spot A.f_l_is_spot A.fd_l_is_spot
  b_l_is_spot : Binds K A.fd_l_is_spot ["_law_found", "_law_due"] []
  g_l_is_spot : mg "_law_is_spot" = some (.ref A.f_l_is_spot)
  F_l_row : Fun K "_law_row" "_law_row" s_l_row A.f_l_row A.fd_l_row
  b_l_row : Binds K A.fd_l_row ["_law_deck_here", "_law_kind", "_law_line_here"] []
  g_l_row : mg "_law_row" = some (.ref A.f_l_row)
  F_l_classes : Fun K "_law_classes" "_law_classes" s_l_classes A.f_l_classes A.fd_l_classes
  b_l_classes : Binds K A.fd_l_classes ["_law_body", "_law_kind"] []
  g_l_classes : mg "_law_classes" = some (.ref A.f_l_classes)
  F_l_asked : Fun K "_law_asked" "_law_asked" s_l_asked A.f_l_asked A.fd_l_asked
  b_l_asked : Binds K A.fd_l_asked ["_law_body", "_law_kind", "_law_line_here", "_law_row_here", "_law_spot_here", "_law_way_here"] []
  g_l_asked : mg "_law_asked" = some (.ref A.f_l_asked)
  F_l_kept : Fun K "_law_kept" "_law_kept" s_l_kept A.f_l_kept A.fd_l_kept
  b_l_kept : Binds K A.fd_l_kept ["_law_body", "_law_row_here"] []
  g_l_kept : mg "_law_kept" = some (.ref A.f_l_kept)
  F_law : Fun K "law" "law" s_law A.f_law A.fd_law
  b_law : Binds K A.fd_law ["_law_script"] []
  g_law : mg "law" = some (.ref A.f_law)
  m_abs : mg "abs" = none
  m_bool : mg "bool" = none
  m_int : mg "int" = none
  m_isinstance : mg "isinstance" = none
  m_len : mg "len" = none
  m_max : mg "max" = none
  m_min : mg "min" = none
  m_range : mg "range" = none
  m_sorted : mg "sorted" = none
  m_str : mg "str" = none
  m_tuple : mg "tuple" = none
  m_zip : mg "zip" = none
  g_NOUGHT : mg "NOUGHT" = some (.ref A.n_NOUGHT)
  t_NOUGHT : ∀ H, SqT K H A.n_NOUGHT [.int 0, .int 1]
  g_STILL : mg "STILL" = some (.ref A.n_STILL)
  g_LENGTHY : mg "LENGTHY" = some (.int 4000 A.k_LENGTHY)
  g_BodyError : mg "BodyError" = some (.ref A.c_BodyError)
  g_NoShare : mg "NoShare" = some (.ref A.c_NoShare)
  g_Body : mg "Body" = some (.ref A.c_Body)
  g_Wall : mg "Wall" = some (.ref A.c_Wall)
  g_Free : mg "Free" = some (.ref A.c_Free)
  g_Railed : mg "Railed" = some (.ref A.c_Railed)
  F_m_Body___init__ : Fun K "__init__" "Body.__init__" s_m_Body___init__ A.f_m_Body___init__ A.fd_m_Body___init__
  b_m_Body___init__ : Binds K A.fd_m_Body___init__ ["self", "row"] []
  F_m_Wall_answer : Fun K "answer" "Wall.answer" s_m_Wall_answer A.f_m_Wall_answer A.fd_m_Wall_answer
  b_m_Wall_answer : Binds K A.fd_m_Wall_answer ["self", "push"] []
  mt_m_Wall_answer : Meth K A.c_Wall "answer" A.f_m_Wall_answer
  F_m_Wall_kick : Fun K "kick" "Wall.kick" s_m_Wall_kick A.f_m_Wall_kick A.fd_m_Wall_kick
  b_m_Wall_kick : Binds K A.fd_m_Wall_kick ["self", "pull"] []
  mt_m_Wall_kick : Meth K A.c_Wall "kick" A.f_m_Wall_kick
  F_m_Wall_may : Fun K "may" "Wall.may" s_m_Wall_may A.f_m_Wall_may A.fd_m_Wall_may
  b_m_Wall_may : Binds K A.fd_m_Wall_may ["self", "speed"] []
  mt_m_Wall_may : Meth K A.c_Wall "may" A.f_m_Wall_may
  F_m_Free_answer : Fun K "answer" "Free.answer" s_m_Free_answer A.f_m_Free_answer A.fd_m_Free_answer
  b_m_Free_answer : Binds K A.fd_m_Free_answer ["self", "push"] []
  mt_m_Free_answer : Meth K A.c_Free "answer" A.f_m_Free_answer
  F_m_Free_kick : Fun K "kick" "Free.kick" s_m_Free_kick A.f_m_Free_kick A.fd_m_Free_kick
  b_m_Free_kick : Binds K A.fd_m_Free_kick ["self", "pull"] []
  mt_m_Free_kick : Meth K A.c_Free "kick" A.f_m_Free_kick
  F_m_Free_may : Fun K "may" "Free.may" s_m_Free_may A.f_m_Free_may A.fd_m_Free_may
  b_m_Free_may : Binds K A.fd_m_Free_may ["self", "speed"] []
  mt_m_Free_may : Meth K A.c_Free "may" A.f_m_Free_may
  F_m_Railed_answer : Fun K "answer" "Railed.answer" s_m_Railed_answer A.f_m_Railed_answer A.fd_m_Railed_answer
  b_m_Railed_answer : Binds K A.fd_m_Railed_answer ["self", "push"] []
  mt_m_Railed_answer : Meth K A.c_Railed "answer" A.f_m_Railed_answer
  F_m_Railed_kick : Fun K "kick" "Railed.kick" s_m_Railed_kick A.f_m_Railed_kick A.fd_m_Railed_kick
  b_m_Railed_kick : Binds K A.fd_m_Railed_kick ["self", "pull"] []
  mt_m_Railed_kick : Meth K A.c_Railed "kick" A.f_m_Railed_kick
  F_m_Railed_may : Fun K "may" "Railed.may" s_m_Railed_may A.f_m_Railed_may A.fd_m_Railed_may
  b_m_Railed_may : Binds K A.fd_m_Railed_may ["self", "speed"] []
  mt_m_Railed_may : Meth K A.c_Railed "may" A.f_m_Railed_may
  cl_Wall : Cls K A.c_Wall
  mk_Wall : Mk K A.c_Wall A.f_m_Body___init__
  na_Wall_row : NoAttr K A.c_Wall "row"
  na_Wall_name : NoAttr K A.c_Wall "name"
  na_Wall_mass : NoAttr K A.c_Wall "mass"
  cl_Free : Cls K A.c_Free
  mk_Free : Mk K A.c_Free A.f_m_Body___init__
  na_Free_row : NoAttr K A.c_Free "row"
  na_Free_name : NoAttr K A.c_Free "name"
  na_Free_mass : NoAttr K A.c_Free "mass"
  cl_Railed : Cls K A.c_Railed
  mk_Railed : Mk K A.c_Railed A.f_m_Body___init__
  na_Railed_row : NoAttr K A.c_Railed "row"
  na_Railed_name : NoAttr K A.c_Railed "name"
  na_Railed_mass : NoAttr K A.c_Railed "mass"
  i_Wall_Wall : PySem.W.kitOne K (.ref A.c_Wall) (.ref A.c_Wall) = some true
  i_Wall_Free : PySem.W.kitOne K (.ref A.c_Wall) (.ref A.c_Free) = some false
  i_Wall_Railed : PySem.W.kitOne K (.ref A.c_Wall) (.ref A.c_Railed) = some false
  i_Wall_Body : PySem.W.kitOne K (.ref A.c_Wall) (.ref A.c_Body) = some true
  i_Free_Wall : PySem.W.kitOne K (.ref A.c_Free) (.ref A.c_Wall) = some false
  i_Free_Free : PySem.W.kitOne K (.ref A.c_Free) (.ref A.c_Free) = some true
  i_Free_Railed : PySem.W.kitOne K (.ref A.c_Free) (.ref A.c_Railed) = some false
  i_Free_Body : PySem.W.kitOne K (.ref A.c_Free) (.ref A.c_Body) = some true
  i_Railed_Wall : PySem.W.kitOne K (.ref A.c_Railed) (.ref A.c_Wall) = some false
  i_Railed_Free : PySem.W.kitOne K (.ref A.c_Railed) (.ref A.c_Free) = some false
  i_Railed_Railed : PySem.W.kitOne K (.ref A.c_Railed) (.ref A.c_Railed) = some true
  i_Railed_Body : PySem.W.kitOne K (.ref A.c_Railed) (.ref A.c_Body) = some true
  in1_Wall : PySem.W.findIn K (.ref A.c_Wall) "__class__" = some (some (.builtin "object.__class__"))
  in2_Wall : PySem.W.specialIn K (.builtin "object.__class__") "__get__" = some (some (.builtin "getset_descriptor.__get__"))
  in3_Wall : PySem.W.takesIn K (.builtin "object.__class__") = some true
  in4_Wall : PySem.W.mroIn K A.c_Wall (.type "object") = some true
  in1_Free : PySem.W.findIn K (.ref A.c_Free) "__class__" = some (some (.builtin "object.__class__"))
  in2_Free : PySem.W.specialIn K (.builtin "object.__class__") "__get__" = some (some (.builtin "getset_descriptor.__get__"))
  in3_Free : PySem.W.takesIn K (.builtin "object.__class__") = some true
  in4_Free : PySem.W.mroIn K A.c_Free (.type "object") = some true
  in1_Railed : PySem.W.findIn K (.ref A.c_Railed) "__class__" = some (some (.builtin "object.__class__"))
  in2_Railed : PySem.W.specialIn K (.builtin "object.__class__") "__get__" = some (some (.builtin "getset_descriptor.__get__"))
  in3_Railed : PySem.W.takesIn K (.builtin "object.__class__") = some true
  in4_Railed : PySem.W.mroIn K A.c_Railed (.type "object") = some true
  t_STILL : ∃ a1 a2, (∀ H, SqT K H A.n_STILL [.ref a1, .ref a2]) ∧ (∀ H, SqT K H a1 [.int 0, .int 1]) ∧ (∀ H, SqT K H a2 [.int 0, .int 1])
section
variable {P : Program} {w : World} {K : PySem.W.Frag} {mg : Str → Option Value} {base : Heap} {A : Ad}
theorem ixN_nat {n j : Nat} (h : j < n) : ixN n (j : Int) = some j := by
  unfold ixN
  rw [if_pos (by omega), if_pos (by omega)]
  rfl
theorem ty_tup {H : Hp} {a : Addr} {xs : List V} (h : SqT K H a xs) : TyX K H (.ref a) (.type "tuple") := by
  rcases h with (h | ⟨o, h⟩) | ⟨o, its, n, h, hc, _⟩
  · exact .base (.tup h)
  · exact .fTuple h
  · exact .kTuple h hc

/-! ### a cell of the script -/
def sp_l_cell (K : PySem.W.Frag) : Sp := fun vs H Q _ => ∃ (s : Addr) (ns : List Int) (k : Int), vs = [.ref s, .int k] ∧ SqL K H s (ns.map V.int) ∧ 0 ≤ k ∧ k ≤ 1000000 ∧ ∀ r, 0 ≤ r → Q (.int r) H
theorem ok_l_cell (T : Tx K mg A) : FnOk P w K mg base CX0 1 A.f_l_cell A.fd_l_cell ["_law_script", "_law_k"] (sp_l_cell K) := by
  refine T.F_l_cell.ok sc_l_cell (fun vs H Q E h => ?_) (fun cdv Ar outer s H vs Q E hr h => ?_)
  · obtain ⟨s, ns, k, rfl, _⟩ := h
    rfl
  · obtain ⟨s, ns, k, rfl, hS, h0, h1, q⟩ := h
    refine ⟨_, (pss_cons (ps_if (pt_cmpR op_eq (pe_callB call_len_seq (by rfl) T.m_len (by decide +kernel) (pa_cons (pv 0) pa_nil)) pe_int (nomark _))
      (pss_one (ps_ret (pe_op op_add (pe_op op_mul pe_int (pv 1)) pe_int)))
      pss_nil)
    (pss_one (ps_ret (pe_callB call_abs (by rfl) T.m_abs (by decide +kernel) (pa_cons (pe_ix ix_list (pv 0) (pe_op op_mod (pv 1) (pe_callB call_len_seq (by rfl) T.m_len (by decide +kernel) (pa_cons (pv 0) pa_nil))) (fun _ _ => rfl)) pa_nil))))), ?_⟩
    refine ⟨.ref s, rfl, s, ns.map V.int, rfl, .inl hS, rfl, _, rfl, ite2 (fun e => ?_) (fun e => ?_)⟩
    · exact ⟨_, rfl, 7, k, rfl, rfl, .inl (by decide), _, _, rfl, rfl, q _ (by omega)⟩
    · have hl : ns.length ≠ 0 := fun z => e (decide_eq_true (by rw [List.length_map, z]; rfl))
      have hp : (0 : Int) < ((ns.map V.int).length : Int) := by
        rw [List.length_map]
        omega
      have hm0 : 0 ≤ k % ((ns.map V.int).length : Int) := Int.emod_nonneg _ (by omega)
      have hm1 : k % ((ns.map V.int).length : Int) < ((ns.map V.int).length : Int) := Int.emod_lt_of_pos _ hp
      obtain ⟨j, hj⟩ : ∃ j : Nat, (j : Int) = k % ((ns.map V.int).length : Int) := ⟨_, Int.toNat_of_nonneg hm0⟩
      have hj2 : j < ns.length := by
        rw [List.length_map] at hj hm1
        omega
      have ha : atI (ns.map V.int) (k % ((ns.map V.int).length : Int)) = some (.int ns[j]) := by
        rw [← hj]
        exact atI_nat (by rw [List.getElem?_map, List.getElem?_eq_getElem hj2]; rfl)
      exact ⟨_, rfl, _, rfl, _, rfl, s, _, rfl, .inl hS, k, _, rfl, rfl, hp, s, _, _, _, rfl, rfl, hS, ha, _, rfl, q _ (abs_nn _)⟩
/-! ### a mixed number -/
def sp_l_mixed (K : PySem.W.Frag) : Sp := fun vs H Q _ => ∃ (s : Addr) (ns : List Int) (k m : Int), vs = [.ref s, .int k, .int m] ∧ SqL K H s (ns.map V.int) ∧ 0 ≤ k ∧ k ≤ 1000000 ∧ 0 < m ∧ ∀ r, 0 ≤ r → r < m → Q (.int r) H
theorem mixed_bound {r k : Int} (h0 : 0 ≤ r) (h1 : r < 1000003) (k0 : 0 ≤ k) (k1 : k ≤ 1000000) : ((r + 5) * (k + 2) + 7919 * k).natAbs < 2 ^ 64 := by
  have e1 : (r + 5) * (k + 2) ≤ 1000008 * 1000002 := Int.mul_le_mul (by omega) (by omega) (by omega) (by omega)
  have e0 : 0 ≤ (r + 5) * (k + 2) := Int.mul_nonneg (by omega) (by omega)
  omega
theorem ok_l_mixed (T : Tx K mg A) : FnOk P w K mg base CX0 2 A.f_l_mixed A.fd_l_mixed ["_law_script", "_law_k", "_law_many"] (sp_l_mixed K) := by
  refine T.F_l_mixed.ok sc_l_mixed (fun vs H Q E h => ?_) (fun cdv Ar outer s H vs Q E hr h => ?_)
  · obtain ⟨s, ns, k, m, rfl, _⟩ := h
    rfl
  · obtain ⟨s, ns, k, m, rfl, hS, h0, h1, hm, q⟩ := h
    refine ⟨_, (pss_cons (ps_set (i := 3) sc_l_mixed.nd rfl (.inl rfl) (pe_op op_mod (pe_op op_pow (pe_op op_add (pe_op op_mul (pe_op op_add (pe_op op_mod (pe_call (ok_l_cell T) (hr.mono (by decide)) (by rfl) T.g_l_cell T.F_l_cell.kp T.b_l_cell .nil pass0 (pa_cons (pv 0) (pa_cons (pv 1) pa_nil))) pe_int) pe_int) (pe_op op_add (pv 1) pe_int)) (pe_op op_mul pe_int (pv 1))) pe_int) pe_int))
    (pss_one (ps_ret (pe_op op_mod (pe_op op_fdivW (pv 3) pe_int) (pv 2))))), ?_⟩
    refine ⟨_, rfl, _, rfl, s, ns, k, rfl, hS, h0, h1, fun r hr0 => ?_⟩
    have c0 : 0 ≤ r % 1000003 := Int.emod_nonneg _ (by decide)
    have c1 : r % 1000003 < 1000003 := Int.emod_lt_of_pos _ (by decide)
    refine ⟨r, 1000003, rfl, rfl, (show (0 : Int) < 1000003 by decide), _, _, rfl, rfl, _, rfl, _, _, rfl, rfl, _, _, rfl, rfl, ?_, _, rfl, _, _, rfl, rfl, .inl (by decide), _, _, rfl, rfl, _, _, rfl, rfl, ⟨by decide, by decide, ?_⟩, _, _, rfl, rfl, (show (0 : Int) < 2147483647 by decide), ?_⟩
    · exact .inl ⟨by omega, by omega⟩
    · exact mixed_bound c0 c1 h0 h1
    · refine ⟨_, rfl, _, _, rfl, rfl, ⟨by decide, by decide⟩, _, rfl, _, _, rfl, rfl, hm, ?_⟩
      exact q _ (Int.emod_nonneg _ (by omega)) (Int.emod_lt_of_pos _ hm)
/-! ### the deck is made -/
def sp_l_deck (K : PySem.W.Frag) : Sp := fun vs H Q _ => ∃ (s : Addr) (ns : List Int), vs = [.ref s] ∧ Sc K H s ns ∧ ns.length ≤ 63 ∧ ∀ H' d b, H d = none → H b = none → Deck K H' d b 0 → Same H H' → Q (.ref d) H'
theorem ok_l_deck (T : Tx K mg A) : FnOk P w K mg base CX0 1 A.f_l_deck A.fd_l_deck ["_law_script"] (sp_l_deck K) := by
  refine T.F_l_deck.ok sc_l_deck (fun vs H Q E h => ?_) (fun cdv Ar outer s H vs Q E hr h => ?_)
  · obtain ⟨s, ns, rfl, _⟩ := h
    rfl
  · obtain ⟨s, ns, rfl, hS, hlen, q⟩ := h
    refine ⟨_, (pss_one (ps_ret (pe_lst (pa_cons (pv 0) (pa_cons (pe_lc (own := [("_law_cell_here", 1)]) rfl sc_l_deck.nd (pi_list (pv 0)) (blkOk_by (own := [("_law_cell_here", 1)]) (N := ["_law_script", "_law_cell_here"]) (sc := defScope s_l_deck) (by decide +kernel)) (fun _ _ _ _ _ => (pg_name (i := 1) sc_l_deck.nd rfl (Or.inl rfl))) (fun _ _ _ _ _ => (pts_one (pt_cmpR op_ge (pe_callB call_abs (by rfl) T.m_abs (by decide +kernel) (pa_cons (pv 1) pa_nil)) (pe_op op_pow pe_int pe_int) (nomark _)))) (fun _ _ _ _ _ => (pe_callB call_abs (by rfl) T.m_abs (by decide +kernel) (pa_cons (pv 1) pa_nil)))) (pa_cons pe_int (pa_cons pe_int pa_nil))))))), ?_⟩
    refine ⟨_, rfl, _, rfl, s, rfl, ⟨_, hS.seq⟩, fun D hD => lc_list (K := K) (a := s) (xs := ns.map V.int) (fun i H' => ∃ cs : List Int, Same H H' ∧ Sc K H' s ns ∧ H' D = some (.lst (cs.map V.int)) ∧ cs.length ≤ i) ?_ ?_ ?_ ?_⟩
    · exact ⟨[], same_upd hD, hS.upd (.inl hD), upd_same, Nat.le_refl _⟩
    · rintro i H' _ ⟨cs, _, h, _⟩
      exact h.seq
    · rintro i x H' hx ⟨cs, sm, hs, hd, hc⟩
      obtain ⟨n, rfl⟩ : ∃ n : Int, x = .int n := by
        rw [List.getElem?_map] at hx
        cases e : ns[i]? with
        | none => rw [e] at hx; cases hx
        | some n => rw [e] at hx; exact ⟨n, (Option.some.inj hx).symm⟩
      have hi : i < ns.length := by
        have := (List.getElem?_eq_some_iff.mp hx).1
        rw [List.length_map] at this
        exact this
      refine ⟨rfl, _, rfl, n, rfl, 10, 18, rfl, rfl, ⟨by decide, by decide, by decide⟩, _, _, rfl, rfl, _, rfl, ite2 (fun e => ?_) (fun e => ?_)⟩
      · refine ⟨_, rfl, n, rfl, cs.map V.int, hd, small1000 (by rw [List.length_map]; omega), cs ++ [(if n < 0 then -n else n)], ?_, ?_, ?_, ?_⟩
        · exact fun x o h => by
            rw [upd_ne (ne_of_none h hD)]
            exact sm _ _ h
        · exact hs.upd (.inr ⟨_, hd⟩)
        · rw [upd_same, List.map_append]
          rfl
        · rw [List.length_append]
          exact Nat.succ_le_succ hc
      · exact ⟨cs, sm, hs, hd, Nat.le_succ_of_le hc⟩
    · rintro H' ⟨cs, sm, hs, hd, hc⟩
      refine ⟨size63 (show 4 ≤ 1000 by decide), fun d hn => ?_⟩
      have ne : D ≠ d := ne_of_none hd hn
      refine q _ d D (sm.free hn) hD ⟨⟨s, ns, cs, 0, 0, upd_same, ?_, hs.upd (.inl hn), by omega, by omega, by omega⟩, ne⟩ (sm.trans (same_upd hn))
      rw [upd_ne ne]
      exact hd
/-! ### a number is taken -/
def sp_l_take (K : PySem.W.Frag) : Sp := fun vs H Q _ => ∃ (d b : Addr) (c m : Int), vs = [.ref d, .int m] ∧ Deck K H d b c ∧ c < 1000000 ∧ 0 < m ∧ m.natAbs.log2 < 9000 ∧ ∀ H' r, Deck K H' d b (c + 1) → Kp d b H H' → 0 ≤ r → r < m → Q (.int r) H'
theorem ok0_l_take (T : Tx K mg A) : FnOk P w K mg base CX0 3 A.f_l_take A.fd_l_take ["_law_deck_here", "_law_many"] (sp_l_take K) := by
  refine T.F_l_take.ok sc_l_take (fun vs H Q E h => ?_) (fun cdv Ar outer s H vs Q E hr h => ?_)
  · obtain ⟨d, b, c, m, rfl, _⟩ := h
    rfl
  · obtain ⟨d, b, c, m, rfl, ⟨⟨s, ns, cs, i0, k, hd, hb, hS, hi0, hk0, hk1⟩, ne⟩, hc, hm, hm2, q⟩ := h
    refine ⟨_, (pss_cons (ps_while PassesOwn.never (pt_cmpR op_lt (pe_ix ix_list (pv 0) pe_int (fun _ _ => rfl)) (pe_callB call_len_seq (by rfl) T.m_len (by decide +kernel) (pa_cons (pe_ix ix_list (pv 0) pe_int (fun _ _ => rfl)) pa_nil)) (nomark _))
      (pss_cons (ps_set (i := 2) sc_l_take.nd rfl (.inl rfl) (pe_ix ix_list (pe_ix ix_list (pv 0) pe_int (fun _ _ => rfl)) (pe_ix ix_list (pv 0) pe_int (fun _ _ => rfl)) (fun _ _ => rfl)))
    (pss_cons (ps_if (pt_cmpR op_gt (pv 2) pe_int (nomark _))
      (pss_cons (ps_asg (pe_op op_fdivW (pv 2) (pv 1)) (pg_sub (pe_ix ix_list (pv 0) pe_int (fun _ _ => rfl)) (pe_ix ix_list (pv 0) pe_int (fun _ _ => rfl)) set_list))
    (pss_one (ps_ret (pe_op op_mod (pv 2) (pv 1)))))
      pss_nil)
    (pss_one (ps_asg (pe_op op_add (pe_ix ix_list (pv 0) pe_int (fun _ _ => rfl)) pe_int) (pg_sub (pv 0) pe_int set_list))))))
    (pss_cons (ps_asg (pe_op op_add (pe_ix ix_list (pv 0) pe_int (fun _ _ => rfl)) pe_int) (pg_sub (pv 0) pe_int set_list))
    (pss_one (ps_ret (pe_call (ok_l_mixed T) (hr.mono (by decide)) (by rfl) T.g_l_mixed T.F_l_mixed.kp T.b_l_mixed .nil pass0 (pa_cons (pe_ix ix_list (pv 0) pe_int (fun _ _ => rfl)) (pa_cons (pe_ix ix_list (pv 0) pe_int (fun _ _ => rfl)) (pa_cons (pv 1) pa_nil)))))))), ?_⟩
    refine ⟨fun n σ H' => ∃ (y : Option V) (i : Int), σ = [some (.ref d), some (.int m), y] ∧ 0 ≤ i ∧ n = cs.length - i.toNat ∧ H' d = some (.lst [.ref s, .ref b, .int i, .int k]) ∧ H' b = some (.lst (cs.map V.int)) ∧ Sc K H' s ns ∧ Kp d b H H', ⟨_, none, i0, rfl, hi0, rfl, hd, hb, hS, Kp.refl⟩, fun n σ H' hW => ?_⟩
    obtain ⟨y, i, rfl, hi, hn, hd', hb', hS', kp⟩ := hW
    refine ⟨_, rfl, d, _, 2, .int i, rfl, rfl, SqL.of hd', rfl, _, rfl, d, _, 1, .ref b, rfl, rfl, SqL.of hd', rfl, b, _, rfl, .inl (SqL.of hb'), i, _, rfl, rfl, _, rfl, ite2 (fun e => ?_) (fun e => ?_)⟩
    · -- a turn
      have hlt : i < ((cs.map V.int).length : Int) := of_decide_eq_true e
      rw [List.length_map] at hlt
      obtain ⟨j, rfl⟩ : ∃ j : Nat, i = (j : Int) := ⟨_, (Int.toNat_of_nonneg hi).symm⟩
      have hj : j < cs.length := by omega
      have ha : atI (cs.map V.int) (j : Int) = some (.int cs[j]) := atI_nat (by rw [List.getElem?_map, List.getElem?_eq_getElem hj]; rfl)
      refine ⟨fun σ' H'' => ∃ (y : Option V), σ' = [some (.ref d), some (.int m), y] ∧ H'' d = some (.lst [.ref s, .ref b, .int ((j : Int) + 1), .int k]) ∧ H'' b = some (.lst (cs.map V.int)) ∧ Sc K H'' s ns ∧ Kp d b H H'', ?_, ?_⟩
      · rintro σ' H'' ⟨y, e1, e2, e3, e4, e5⟩
        exact ⟨cs.length - ((j : Int) + 1).toNat, by omega, y, _, e1, by omega, rfl, e2, e3, e4, e5⟩
      · refine ⟨_, rfl, d, _, 1, .ref b, rfl, rfl, SqL.of hd', rfl, _, rfl, d, _, 2, .int (j : Int), rfl, rfl, SqL.of hd', rfl, b, _, (j : Int), .int cs[j], rfl, rfl, SqL.of hb', ha, ?_⟩
        refine ⟨_, rfl, cs[j], 0, rfl, rfl, _, rfl, ite2 (fun e2 => ?_) (fun e2 => ?_)⟩
        · -- the cell is drawn from
          refine ⟨_, rfl, _, rfl, cs[j], m, rfl, rfl, ⟨hm, hm2⟩, _, rfl, d, _, 1, .ref b, rfl, rfl, SqL.of hd', rfl, _, rfl, d, _, 2, .int (j : Int), rfl, rfl, SqL.of hd', rfl, b, _, (j : Int), j, rfl, rfl, hb', ?_, ?_⟩
          · exact ixN_nat (by rw [List.length_map]; exact hj)
          · refine ⟨_, rfl, _, rfl, cs[j], m, rfl, rfl, hm, ?_⟩
            refine q _ _ ⟨⟨s, ns, cs.set j (cs[j] / m), (j : Int), k, ?_, ?_, hS'.upd (.inr ⟨_, hb'⟩), by omega, hk0, by omega⟩, ne⟩ ?_ (Int.emod_nonneg _ (by omega)) (Int.emod_lt_of_pos _ hm)
            · rw [upd_ne (Ne.symm ne)]
              exact hd'
            · rw [upd_same, List.map_set]
            · intro x o h1 h2 h
              rw [upd_ne h2]
              exact kp x o h1 h2 h
        · -- the next cell
          refine ⟨_, rfl, d, _, 2, .int (j : Int), rfl, rfl, SqL.of hd', rfl, _, _, rfl, rfl, _, rfl, d, _, 2, 2, rfl, rfl, hd', rfl, ?_⟩
          refine ⟨_, rfl, ?_, ?_, hS'.upd (.inr ⟨_, hd'⟩), ?_⟩
          · rw [upd_same]; rfl
          · rw [upd_ne ne]; exact hb'
          · intro x o h1 h2 h
            rw [upd_ne h1]
            exact kp x o h1 h2 h
    · -- no cell is left
      refine ⟨_, rfl, d, _, 3, .int k, rfl, rfl, SqL.of hd', rfl, _, _, rfl, rfl, _, rfl, d, _, 3, 3, rfl, rfl, hd', rfl, ?_⟩
      have hd2 : (upd H' d (.lst ([V.ref s, V.ref b, V.int i, V.int k].set 3 (V.int (k + 1))))) d = some (.lst [.ref s, .ref b, .int i, .int (k + 1)]) := upd_same
      have hS2 : Sc K (upd H' d (.lst ([V.ref s, V.ref b, V.int i, V.int k].set 3 (V.int (k + 1))))) s ns := hS'.upd (.inr ⟨_, hd'⟩)
      refine ⟨_, rfl, d, _, 0, .ref s, rfl, rfl, SqL.of hd2, rfl, _, rfl, d, _, 3, .int (k + 1), rfl, rfl, SqL.of hd2, rfl, _, rfl, s, ns, k + 1, m, rfl, hS2.seq, by omega, by omega, hm, fun r h0 h1 => ?_⟩
      refine q _ r ⟨⟨s, ns, cs, i, k + 1, hd2, ?_, hS2, hi, by omega, by omega⟩, ne⟩ ?_ h0 h1
      · rw [upd_ne ne]; exact hb'
      · intro x o h1 h2 h
        rw [upd_ne h1]
        exact kp x o h1 h2 h

/-! ### divisors -/
def gcdI (a b : Int) : Int := ((Nat.gcd a.natAbs b.natAbs : Nat) : Int)
/-- a share's two numbers -/
def IsSh (t u : Int) : Prop := 1 ≤ u ∧ gcdI t u = 1
instance (t u : Int) : Decidable (IsSh t u) := inferInstanceAs (Decidable (_ ∧ _))
theorem gcdI_nn (a b : Int) : 0 ≤ gcdI a b := Int.natCast_nonneg _
theorem gcdI_pos {a b : Int} (h : b ≠ 0) : 0 < gcdI a b := by
  have : 0 < Nat.gcd a.natAbs b.natAbs := Nat.gcd_pos_of_pos_right _ (by omega)
  unfold gcdI
  omega
theorem gcdI_neg_l (a b : Int) : gcdI (-a) b = gcdI a b := by
  unfold gcdI
  rw [Int.natAbs_neg]
theorem gcdI_neg_r (a b : Int) : gcdI a (-b) = gcdI a b := by
  unfold gcdI
  rw [Int.natAbs_neg]
theorem gcdI_dvd_l (a b : Int) : gcdI a b ∣ a := by
  unfold gcdI
  exact Int.ofNat_dvd_left.mpr (Nat.gcd_dvd_left _ _)
theorem gcdI_dvd_r (a b : Int) : gcdI a b ∣ b := by
  unfold gcdI
  exact Int.ofNat_dvd_left.mpr (Nat.gcd_dvd_right _ _)
/-- a share is told by what it is worth -/
theorem share_uniq {t u t' u' : Int} (h : IsSh t u) (h' : IsSh t' u') (e : t * u' = t' * u) : t = t' ∧ u = u' := by
  obtain ⟨u1, g1⟩ := h
  obtain ⟨u2, g2⟩ := h'
  have c1 : Nat.gcd t.natAbs u.natAbs = 1 := by unfold gcdI at g1; omega
  have c2 : Nat.gcd t'.natAbs u'.natAbs = 1 := by unfold gcdI at g2; omega
  have en : t.natAbs * u'.natAbs = t'.natAbs * u.natAbs := by
    rw [← Int.natAbs_mul, ← Int.natAbs_mul, e]
  have d1 : u.natAbs ∣ u'.natAbs := (Nat.Coprime.symm c1).dvd_of_dvd_mul_left (by rw [en]; exact Nat.dvd_mul_left _ _)
  have d2 : u'.natAbs ∣ u.natAbs := (Nat.Coprime.symm c2).dvd_of_dvd_mul_left (by rw [← en]; exact Nat.dvd_mul_left _ _)
  have eu : u = u' := by
    have := Nat.dvd_antisymm d1 d2
    omega
  subst eu
  exact ⟨Int.eq_of_mul_eq_mul_right (by omega) e, rfl⟩
theorem dvd_le_natAbs {g a : Int} (h : g ∣ a) (ha : a ≠ 0) : g.natAbs ≤ a.natAbs := Nat.le_of_dvd (by omega) (Int.natAbs_dvd_natAbs.mpr h)
theorem div_natAbs_le {a g : Int} (hg : 0 < g) (h : g ∣ a) : (a / g).natAbs ≤ a.natAbs := by
  obtain ⟨q, rfl⟩ := h
  rw [Int.mul_ediv_cancel_left _ (by omega), Int.natAbs_mul]
  exact Nat.le_mul_of_pos_left _ (by omega)
/-- a over b (b above nought) in lowest terms -/
theorem low_is {a b : Int} (hb : 0 < b) : IsSh (a / gcdI a b) (b / gcdI a b) ∧ (a / gcdI a b) * b = (b / gcdI a b) * a ∧ (a / gcdI a b).natAbs ≤ a.natAbs ∧ (b / gcdI a b).natAbs ≤ b.natAbs := by
  have hg : 0 < gcdI a b := gcdI_pos (by omega)
  have d1 := gcdI_dvd_l a b
  have d2 := gcdI_dvd_r a b
  refine ⟨⟨?_, ?_⟩, ?_, div_natAbs_le hg d1, div_natAbs_le hg d2⟩
  · have : 0 < b / gcdI a b := Int.ediv_pos_of_pos_of_dvd hb (by omega) d2
    omega
  · unfold gcdI at hg d1 d2 ⊢
    have e1 : (a / ((Nat.gcd a.natAbs b.natAbs : Nat) : Int)).natAbs = a.natAbs / Nat.gcd a.natAbs b.natAbs := by
      rw [Int.natAbs_ediv_of_dvd d1]
      rfl
    have e2 : (b / ((Nat.gcd a.natAbs b.natAbs : Nat) : Int)).natAbs = b.natAbs / Nat.gcd a.natAbs b.natAbs := by
      rw [Int.natAbs_ediv_of_dvd d2]
      rfl
    rw [e1, e2, Nat.gcd_div_gcd_div_gcd_of_pos_right (by omega)]
    rfl
  · obtain ⟨x, hx⟩ := d1
    obtain ⟨y, hy⟩ := d2
    have q1 : a / gcdI a b = x := (Int.eq_ediv_of_mul_eq_right (by omega) hx.symm).symm
    have q2 : b / gcdI a b = y := (Int.eq_ediv_of_mul_eq_right (by omega) hy.symm).symm
    rw [q1, q2]
    conv => lhs; rw [hy]
    conv => rhs; rw [hx]
    rw [Int.mul_left_comm, Int.mul_left_comm y, Int.mul_comm x y]
theorem log_le {m n k : Nat} (h : m ≤ n) (hn : n < 2 ^ k) (h0 : 0 < k) : m.log2 < k := log2_lt (Nat.lt_of_le_of_lt h hn) h0
/-! ### the law's gcd -/

/-! ### the law's own share -/
def Bd (n : Nat) (x : Int) : Prop := x.natAbs < 2 ^ n
theorem Bd.le {n m : Nat} {x : Int} (h : Bd n x) (l : n ≤ m) : Bd m x := Nat.lt_of_lt_of_le h (Nat.pow_le_pow_right (by decide) l)
theorem Bd.mul {n m : Nat} {x y : Int} (h : Bd n x) (g : Bd m y) : Bd (n + m) (x * y) := wide_lt h g
theorem Bd.of_le {n : Nat} {x y : Int} (h : Bd n x) (l : y.natAbs ≤ x.natAbs) : Bd n y := Nat.lt_of_le_of_lt l h
theorem Bd.neg {n : Nat} {x : Int} (h : Bd n x) : Bd n (-x) := by
  unfold Bd
  rw [Int.natAbs_neg]
  exact h
theorem Bd.add {n : Nat} {x y : Int} (h : Bd n x) (g : Bd n y) : Bd (n + 1) (x + y) := by
  unfold Bd at *
  rw [Nat.pow_succ]
  omega
theorem Bd.mulW {n m : Nat} {x y : Int} (h : Bd n x) (g : Bd m y) (hn : n ≤ 400000) (hm : m ≤ 400000) : CMulW x y := wide_mul (a := n + 1) (b := m + 1) (h.le (Nat.le_succ _)) (g.le (Nat.le_succ _)) (by omega) (by omega) (by omega)
theorem Bd.divW {n : Nat} {x y : Int} (h : Bd n y) (h0 : 0 < y) (hn : n < 9000) : CDivW x y := wide_div (b := n + 1) h0 (h.le (Nat.le_succ _)) (by omega) (by omega)
theorem gcdI_bd {n : Nat} {a b : Int} (h : Bd n b) (hb : b ≠ 0) : Bd n (gcdI a b) := h.of_le (by
  unfold gcdI
  exact Nat.le_of_dvd (by omega) (Nat.gcd_dvd_right _ _))

/-! ### fractions -/
theorem isSh_q (q : Rat) : IsSh q.num q.den := by
  refine ⟨by have := q.den_pos; omega, ?_⟩
  unfold gcdI
  rw [Int.natAbs_natCast]
  exact congrArg Int.ofNat q.reduced
theorem divInt_cross {a b : Int} (hb : b ≠ 0) : a * ((Rat.divInt a b).den : Int) = (Rat.divInt a b).num * b := by
  have h : Rat.divInt a b = Rat.divInt (Rat.divInt a b).num ((Rat.divInt a b).den : Int) := (Rat.num_divInt_den _).symm
  exact (Rat.divInt_eq_divInt_iff hb (by have := (Rat.divInt a b).den_pos; omega)).mp h
theorem rep_of {t u : Int} {q : Rat} (h : IsSh t u) (e : t * (q.den : Int) = q.num * u) : t = q.num ∧ u = (q.den : Int) := share_uniq h (isSh_q q) e
theorem rep_divInt {t u a b : Int} (h : IsSh t u) (hb : b ≠ 0) (e : t * b = u * a) : t = (Rat.divInt a b).num ∧ u = ((Rat.divInt a b).den : Int) := by
  have hu : u ≠ 0 := by have := h.1; omega
  have eq : Rat.divInt t u = Rat.divInt a b := (Rat.divInt_eq_divInt_iff hu hb).mpr (by rw [e, Int.mul_comm])
  rw [← eq]
  exact rep_of h (divInt_cross hu)
theorem low_bd {t u a b : Int} (h : IsSh t u) (hb : 0 < b) (e : t * b = u * a) : t.natAbs ≤ a.natAbs ∧ u.natAbs ≤ b.natAbs := by
  obtain ⟨h1, h2, h3, h4⟩ := low_is (a := a) (b := b) hb
  have hu : u ≠ 0 := by have := h.1; omega
  have e1 := rep_divInt h (by omega) e
  have e2 := rep_divInt h1 (by omega) h2
  rw [e1.1, e1.2, ← e2.1, ← e2.2]
  exact ⟨h3, h4⟩
def BdQ (n : Nat) (q : Rat) : Prop := Bd n q.num ∧ Bd n (q.den : Int)
theorem BdQ.le {n m : Nat} {q : Rat} (h : BdQ n q) (l : n ≤ m) : BdQ m q := ⟨h.1.le l, h.2.le l⟩
theorem divInt_bd {a b : Int} {n : Nat} (hb : 0 < b) (ha : Bd n a) (hn : Bd n b) : BdQ n (Rat.divInt a b) := by
  have h := low_bd (isSh_q (Rat.divInt a b)) hb (by rw [← divInt_cross (by omega), Int.mul_comm])
  exact ⟨ha.of_le h.1, hn.of_le h.2⟩
theorem den_pos (q : Rat) : (0 : Int) < (q.den : Int) := by have := q.den_pos; omega
theorem add_divInt (p q : Rat) : p + q = Rat.divInt (p.num * q.den + q.num * p.den) (p.den * q.den) := by
  have h := Rat.divInt_add_divInt p.num q.num (d₁ := p.den) (d₂ := q.den) (by have := den_pos p; omega) (by have := den_pos q; omega)
  rw [Rat.num_divInt_den, Rat.num_divInt_den] at h
  exact h
theorem mul_divInt (p q : Rat) : p * q = Rat.divInt (p.num * q.num) (p.den * q.den) := by
  have h := Rat.divInt_mul_divInt p.num q.num (d₁ := p.den) (d₂ := q.den)
  rw [Rat.num_divInt_den, Rat.num_divInt_den] at h
  exact h
theorem BdQ.add {n m : Nat} {p q : Rat} (h : BdQ n p) (g : BdQ m q) : BdQ (n + m + 1) (p + q) := by
  rw [add_divInt]
  refine divInt_bd (Int.mul_pos (den_pos p) (den_pos q)) ?_ ((h.2.mul g.2).le (Nat.le_succ _))
  exact (h.1.mul g.2).add ((g.1.mul h.2).le (by omega))
theorem BdQ.mul {n m : Nat} {p q : Rat} (h : BdQ n p) (g : BdQ m q) : BdQ (n + m) (p * q) := by
  rw [mul_divInt]
  exact divInt_bd (Int.mul_pos (den_pos p) (den_pos q)) (h.1.mul g.1) (h.2.mul g.2)
theorem BdQ.neg {n : Nat} {q : Rat} (h : BdQ n q) : BdQ n (-q) := by
  refine ⟨?_, h.2⟩
  rw [Rat.neg_num]
  exact h.1.neg
theorem BdQ.sub {n m : Nat} {p q : Rat} (h : BdQ n p) (g : BdQ m q) : BdQ (n + m + 1) (p - q) := by
  rw [Rat.sub_eq_add_neg]
  exact h.add g.neg
theorem neg_num (q : Rat) : (-q).num = -q.num := Rat.neg_num q
theorem neg_den (q : Rat) : (-q).den = q.den := rfl
/-- one over a fraction -/
theorem inv_rep {q : Rat} (h : 0 < q.num) : (q⁻¹).num = q.den ∧ ((q⁻¹).den : Int) = q.num := by
  have hs := isSh_q q
  have e := rep_divInt (t := (q.den : Int)) (u := q.num) (a := (q.den : Int)) (b := q.num) ⟨by omega, by
    have := hs.2
    unfold gcdI at this ⊢
    rw [Nat.gcd_comm]
    exact this⟩ (by omega) (Int.mul_comm _ _)
  rw [Rat.inv_def]
  exact ⟨e.1.symm, e.2.symm⟩
theorem inv_rep_neg {q : Rat} (h : q.num < 0) : (q⁻¹).num = -(q.den : Int) ∧ ((q⁻¹).den : Int) = -q.num := by
  have hs := isSh_q q
  have e := rep_divInt (t := -(q.den : Int)) (u := -q.num) (a := (q.den : Int)) (b := q.num) ⟨by omega, by
    rw [gcdI_neg_l, gcdI_neg_r]
    have := hs.2
    unfold gcdI at this ⊢
    rw [Nat.gcd_comm]
    exact this⟩ (by omega) (by rw [Int.neg_mul, Int.neg_mul, Int.mul_comm])
  rw [Rat.inv_def]
  exact ⟨e.1.symm, e.2.symm⟩
/-! ### divisors, further -/
theorem cop_iff {a b : Int} : gcdI a b = 1 ↔ ∀ k : Nat, (k : Int) ∣ a → (k : Int) ∣ b → k = 1 := by
  constructor
  · intro h k h1 h2
    have h3 : k ∣ Nat.gcd a.natAbs b.natAbs := Nat.dvd_gcd (Int.ofNat_dvd_left.mp h1) (Int.ofNat_dvd_left.mp h2)
    have h4 : Nat.gcd a.natAbs b.natAbs = 1 := by unfold gcdI at h; omega
    rw [h4] at h3
    exact Nat.dvd_one.mp h3
  · intro h
    have := h (Nat.gcd a.natAbs b.natAbs) (gcdI_dvd_l a b) (gcdI_dvd_r a b)
    unfold gcdI
    rw [this]
    rfl
theorem cop_comm {a b : Int} (h : gcdI a b = 1) : gcdI b a = 1 := cop_iff.mpr fun k h1 h2 => cop_iff.mp h k h2 h1
theorem cop_dvd_l {a a' b : Int} (h : gcdI a b = 1) (d : a' ∣ a) : gcdI a' b = 1 := cop_iff.mpr fun k h1 h2 => cop_iff.mp h k (Int.dvd_trans h1 d) h2
theorem cop_dvd_r {a b b' : Int} (h : gcdI a b = 1) (d : b' ∣ b) : gcdI a b' = 1 := cop_iff.mpr fun k h1 h2 => cop_iff.mp h k h1 (Int.dvd_trans h2 d)
theorem cop_mul_r {a b c : Int} (h : gcdI a b = 1) (g : gcdI a c = 1) : gcdI a (b * c) = 1 := by
  unfold gcdI at *
  rw [Int.natAbs_mul]
  have h1 : Nat.Coprime a.natAbs b.natAbs := by unfold Nat.Coprime; omega
  have h2 : Nat.Coprime a.natAbs c.natAbs := by unfold Nat.Coprime; omega
  have h3 : Nat.Coprime a.natAbs (b.natAbs * c.natAbs) := Nat.Coprime.mul_right h1 h2
  unfold Nat.Coprime at h3
  omega
theorem cop_mul_l {a b c : Int} (h : gcdI a c = 1) (g : gcdI b c = 1) : gcdI (a * b) c = 1 := cop_comm (cop_mul_r (cop_comm h) (cop_comm g))
theorem cop_add {x y a : Int} (h : gcdI x a = 1) (d : a ∣ y) : gcdI (x + y) a = 1 := cop_iff.mpr fun k h1 h2 => cop_iff.mp h k ((Int.dvd_add_left (Int.dvd_trans h2 d)).mp h1) h2
theorem cop_div {a b : Int} (h : b ≠ 0) : gcdI (a / gcdI a b) (b / gcdI a b) = 1 := by
  rcases Int.lt_or_gt_of_ne h with h | h
  · have := (low_is (a := a) (b := -b) (by omega)).1.2
    rw [gcdI_neg_r, Int.neg_ediv_of_dvd (gcdI_dvd_r a b), gcdI_neg_r] at this
    exact this
  · exact (low_is h).1.2
theorem div_mul {g a : Int} (h : g ∣ a) : g * (a / g) = a := Int.mul_ediv_cancel' h
theorem div_dvd {g a : Int} (h : g ∣ a) : a / g ∣ a := ⟨g, by rw [Int.mul_comm]; exact (div_mul h).symm⟩
/-! ### sums and products of shares, as the program reckons them -/
theorem plus_one {t u t' u' : Int} (h : IsSh t u) (h' : IsSh t' u') (e : gcdI u u' = 1) : IsSh (t * u' + t' * u) (u * u') := by
  have hu : 0 < u * u' := Int.mul_pos (by have := h.1; omega) (by have := h'.1; omega)
  refine ⟨by omega, cop_mul_r ?_ ?_⟩
  · exact cop_add (cop_mul_l h.2 (cop_comm e)) (Int.dvd_mul_left ..)
  · rw [Int.add_comm]
    exact cop_add (cop_mul_l h'.2 e) (Int.dvd_mul_left ..)
theorem plus_two {t u t' u' d tot g : Int} (h : IsSh t u) (h' : IsSh t' u') (ed : gcdI u u' = d) (et : t * (u' / d) + t' * (u / d) = tot) (eg : gcdI tot d = g) :
    IsSh (tot / g) (u / d * (u' / g)) ∧ (tot / g) * (u * u') = (u / d * (u' / g)) * (t * u' + t' * u) := by
  have hu1 := h.1
  have hu2 := h'.1
  have d0 : 0 < d := by rw [← ed]; exact gcdI_pos (by omega)
  have g0 : 0 < g := by rw [← eg]; exact gcdI_pos (by omega)
  have da : d ∣ u := by rw [← ed]; exact gcdI_dvd_l _ _
  have db : d ∣ u' := by rw [← ed]; exact gcdI_dvd_r _ _
  have gt : g ∣ tot := by rw [← eg]; exact gcdI_dvd_l _ _
  have gd : g ∣ d := by rw [← eg]; exact gcdI_dvd_r _ _
  have hab : gcdI (u / d) (u' / d) = 1 := by rw [← ed]; exact cop_div (by omega)
  have hgd : gcdI (tot / g) (d / g) = 1 := by rw [← eg]; exact cop_div (by omega)
  obtain ⟨a, rfl⟩ := da
  obtain ⟨b, rfl⟩ := db
  obtain ⟨e, rfl⟩ := gd
  obtain ⟨f, rfl⟩ := gt
  have g1 : g ≠ 0 := by omega
  have d1 : g * e ≠ 0 := by omega
  rw [Int.mul_ediv_cancel_left _ d1] at et hab ⊢
  rw [Int.mul_ediv_cancel_left _ d1] at et hab
  rw [Int.mul_ediv_cancel_left _ g1] at hgd ⊢
  rw [Int.mul_ediv_cancel_left _ g1] at hgd
  have eb : g * e * b / g = e * b := by rw [Int.mul_assoc, Int.mul_ediv_cancel_left _ g1]
  rw [eb]
  have e0 : 0 < e := by
    rcases Int.lt_trichotomy e 0 with z | z | z
    · have := Int.mul_neg_of_pos_of_neg g0 z
      omega
    · rw [z] at d0; simp at d0
    · exact z
  have a0 : 0 < a := Int.pos_of_mul_pos_right (a := g * e) (by omega) d0
  have b0 : 0 < b := Int.pos_of_mul_pos_right (a := g * e) (by omega) d0
  have c1 : gcdI f a = 1 := by
    refine cop_dvd_l (a := g * f) ?_ (Int.dvd_mul_left ..)
    rw [← et]
    exact cop_add (cop_mul_l (cop_dvd_r h.2 (Int.dvd_mul_left ..)) (cop_comm hab)) (Int.dvd_mul_left ..)
  have c2 : gcdI f b = 1 := by
    refine cop_dvd_l (a := g * f) ?_ (Int.dvd_mul_left ..)
    rw [← et, Int.add_comm]
    exact cop_add (cop_mul_l (cop_dvd_r h'.2 (Int.dvd_mul_left ..)) hab) (Int.dvd_mul_left ..)
  refine ⟨⟨?_, cop_mul_r c1 (cop_mul_r hgd c2)⟩, ?_⟩
  · have := Int.mul_pos a0 (Int.mul_pos e0 b0)
    omega
  · have : a * (e * b) * (t * (g * e * b) + t' * (g * e * a)) = a * (e * b) * (g * e) * (t * b + t' * a) := by grind
    rw [this, et]
    grind
theorem times_one {t u t' u' d e : Int} (h : IsSh t u) (h' : IsSh t' u') (ed : gcdI t u' = d) (ee : gcdI t' u = e) :
    IsSh ((t / d) * (t' / e)) ((u / e) * (u' / d)) ∧ ((t / d) * (t' / e)) * (u * u') = ((u / e) * (u' / d)) * (t * t') := by
  have hu1 := h.1
  have hu2 := h'.1
  have d0 : 0 < d := by rw [← ed]; exact gcdI_pos (by omega)
  have e0 : 0 < e := by rw [← ee]; exact gcdI_pos (by omega)
  have d1 : d ∣ t := by rw [← ed]; exact gcdI_dvd_l _ _
  have d2 : d ∣ u' := by rw [← ed]; exact gcdI_dvd_r _ _
  have d3 : e ∣ t' := by rw [← ee]; exact gcdI_dvd_l _ _
  have d4 : e ∣ u := by rw [← ee]; exact gcdI_dvd_r _ _
  have c1 : gcdI (t / d) (u' / d) = 1 := by rw [← ed]; exact cop_div (by omega)
  have c2 : gcdI (t' / e) (u / e) = 1 := by rw [← ee]; exact cop_div (by omega)
  have c3 : gcdI (t / d) (u / e) = 1 := cop_dvd_l (cop_dvd_r h.2 (div_dvd d4)) (div_dvd d1)
  have c4 : gcdI (t' / e) (u' / d) = 1 := cop_dvd_l (cop_dvd_r h'.2 (div_dvd d2)) (div_dvd d3)
  refine ⟨⟨?_, cop_mul_l (cop_mul_r c3 c1) (cop_mul_r c2 c4)⟩, ?_⟩
  · have := Int.mul_pos (Int.ediv_pos_of_pos_of_dvd (show 0 < u by omega) (by omega) d4) (Int.ediv_pos_of_pos_of_dvd (show 0 < u' by omega) (by omega) d2)
    omega
  · have m1 := div_mul d1
    have m2 := div_mul d2
    have m3 := div_mul d3
    have m4 := div_mul d4
    generalize t / d = x at *
    generalize u' / d = y at *
    generalize t' / e = v at *
    generalize u / e = z at *
    subst m1 m2 m3 m4
    grind
theorem gcdI_bd2 {n : Nat} {p q : Int} (h : Bd n p) (g : Bd n q) (h0 : ¬ (p = 0 ∧ q = 0)) : Bd n (gcdI p q) := by
  by_cases hq : q = 0
  · have hp : p ≠ 0 := fun z => h0 ⟨z, hq⟩
    refine h.of_le ?_
    unfold gcdI
    exact Nat.le_of_dvd (by omega) (Nat.gcd_dvd_left _ _)
  · exact gcdI_bd g hq
theorem gcdI_comm (p q : Int) : gcdI p q = gcdI q p := by
  unfold gcdI
  rw [Nat.gcd_comm]
theorem gcdI_pos2 {p q : Int} (h0 : ¬ (p = 0 ∧ q = 0)) : 0 < gcdI p q := by
  by_cases hq : q = 0
  · rw [gcdI_comm]
    exact gcdI_pos fun z => h0 ⟨z, hq⟩
  · exact gcdI_pos hq
theorem cop_div2 {p q : Int} (h0 : ¬ (p = 0 ∧ q = 0)) : gcdI (p / gcdI p q) (q / gcdI p q) = 1 := by
  by_cases hq : q = 0
  · have hp : p ≠ 0 := fun z => h0 ⟨z, hq⟩
    rw [gcdI_comm p q]
    exact cop_comm (cop_div hp)
  · exact cop_div hq
/-- a fraction by what it is worth -/
theorem eq_divInt {q : Rat} {a b : Int} (hb : b ≠ 0) (h : q * (b : Rat) = (a : Rat)) : q = Rat.divInt a b := by
  rw [Rat.divInt_eq_div, ← h]
  have : (b : Rat) ≠ 0 := fun z => hb (by exact_mod_cast z)
  grind
theorem num_eq (x : Rat) : (x.num : Rat) = x * ((x.den : Int) : Rat) := by
  have h : (((x.den : Int)) : Rat) ≠ 0 := fun z => by
    have hp := den_pos x
    have : ((x.den : Int)) = 0 := by exact_mod_cast z
    omega
  have e := Rat.num_divInt_den x
  rw [Rat.divInt_eq_div] at e
  have e2 := Rat.div_mul_cancel (a := (x.num : Rat)) h
  rw [e] at e2
  exact e2.symm

end
/-! ### the mirror: things without a heap -/
inductive Ty where
  | non | bl | int | str | tup | lst | dic
def Ty.nm : Ty → String
  | .non => "NoneType" | .bl => "bool" | .int => "int" | .str => "str" | .tup => "tuple" | .lst => "list" | .dic => "dict"
inductive D where
  | non | bl (b : Bool) | int (i : Int) | str (x : Str) | ty (t : Ty) | cls (a : Addr) | tup (ds : List D) | lst (ds : List D) | dic (ks : List Key) (ds : List D) | ins (C : Addr) (ns : List Str) (ds : List D) | deck
/-- the world: the law's deck and its cells, lists that are being built -/
structure Wd where
  dk : Option (Addr × Addr)
  own : List (Addr × HO)
def Wd.rs (W : Wd) (a : Addr) : Prop := (∃ d b, W.dk = some (d, b) ∧ (a = d ∨ a = b)) ∨ a ∈ W.own.map (·.1)
def Mt : HO → Prop
  | .lst _ => True
  | .dK _ => True
  | _ => False
structure Wd.ok (K : PySem.W.Frag) (W : Wd) (n : Nat) (H : Hp) : Prop where
  deck : ∀ d b, W.dk = some (d, b) → ∃ c : Int, Deck K H d b c ∧ c + n ≤ 900000
  owns : ∀ p ∈ W.own, H p.1 = some p.2 ∧ Mt p.2
  dis : ∀ d b, W.dk = some (d, b) → ∀ p ∈ W.own, p.1 ≠ d ∧ p.1 ≠ b
def Wd.le (W : Wd) (H H' : Hp) : Prop := ∀ a o, ¬ W.rs a → H a = some o → H' a = some o
theorem Wd.le_refl {W : Wd} {H : Hp} : W.le H H := fun _ _ _ h => h
theorem Wd.le.trans {W : Wd} {H H1 H2 : Hp} (u : W.le H H1) (v : W.le H1 H2) : W.le H H2 := fun a o n h => v a o n (u a o n h)
theorem Wd.le_same {W : Wd} {H H' : Hp} (s : Same H H') : W.le H H' := fun a o _ h => s a o h
theorem Wd.ok.same {K : PySem.W.Frag} {W : Wd} {n : Nat} {H H' : Hp} (o : W.ok K n H) (s : Same H H') : W.ok K n H' :=
  ⟨fun d b e => let ⟨c, h, l⟩ := o.deck d b e; ⟨c, h.keep s, l⟩, fun p hp => ⟨s _ _ (o.owns p hp).1, (o.owns p hp).2⟩, o.dis⟩
theorem Wd.ok.le {K : PySem.W.Frag} {W : Wd} {n m : Nat} {H : Hp} (o : W.ok K n H) (l : m ≤ n) : W.ok K m H :=
  ⟨fun d b e => let ⟨c, h, l'⟩ := o.deck d b e; ⟨c, h, by omega⟩, o.owns, o.dis⟩
theorem Wd.ok.lst {K : PySem.W.Frag} {W : Wd} {n : Nat} {H : Hp} (o : W.ok K n H) {a : Addr} (r : W.rs a) : ∃ ob, H a = some ob ∧ Mt ob := by
  rcases r with ⟨d, b, e, h⟩ | h
  · obtain ⟨c, ⟨⟨s, ns, cs, i, k, h1, h2, _⟩, _⟩, _⟩ := o.deck d b e
    rcases h with rfl | rfl
    · exact ⟨_, h1, trivial⟩
    · exact ⟨_, h2, trivial⟩
  · obtain ⟨p, hp, rfl⟩ := List.mem_map.mp h
    exact ⟨_, o.owns p hp⟩
theorem Wd.ok.fresh {K : PySem.W.Frag} {W : Wd} {n : Nat} {H : Hp} (o : W.ok K n H) {a : Addr} (h : H a = none) : ¬ W.rs a := fun r => by
  obtain ⟨xs, e, _⟩ := o.lst r
  rw [e] at h
  cases h
mutual
inductive At (K : PySem.W.Frag) (W : Wd) (H : Hp) : V → D → Prop
  | non : At K W H .non .non
  | bl (b : Bool) : At K W H (.bl b) (.bl b)
  | int (i : Int) : At K W H (.int i) (.int i)
  | str (x : Str) : At K W H (.str x) (.str x)
  | ty (t : Ty) : At K W H (.ty t.nm) (.ty t)
  | cls (a : Addr) : At K W H (.ref a) (.cls a)
  | tup {a : Addr} {xs : List V} {ds : List D} : SqT K H a xs → AtAll K W H xs ds → At K W H (.ref a) (.tup ds)
  | lst {a : Addr} {xs : List V} {ds : List D} : ¬ W.rs a → H a = some (.lst xs) → AtAll K W H xs ds → At K W H (.ref a) (.lst ds)
  | dic {a : Addr} {ks : List Key} {xs : List V} {ds : List D} : ¬ W.rs a → H a = some (.dK (ks.zip xs)) → ks.length = xs.length → AtAll K W H xs ds → At K W H (.ref a) (.dic ks ds)
  | ins {a C dx : Addr} {ns : List Str} {xs : List V} {ds : List D} : H a = some (.ins C dx (ns.zip xs)) → ns.length = xs.length → AtAll K W H xs ds → At K W H (.ref a) (.ins C ns ds)
  | deck {d b : Addr} : W.dk = some (d, b) → At K W H (.ref d) .deck
inductive AtAll (K : PySem.W.Frag) (W : Wd) (H : Hp) : List V → List D → Prop
  | nil : AtAll K W H [] []
  | cons {v : V} {vs : List V} {d : D} {ds : List D} : At K W H v d → AtAll K W H vs ds → AtAll K W H (v :: vs) (d :: ds)
end
section
variable {K : PySem.W.Frag} {W : Wd} {H H' : Hp}
def Wd.lk (W : Wd) (H : Hp) : Prop := ∀ a, W.rs a → ∀ o, H a = some o → Mt o
theorem Wd.ok.lk {n : Nat} (o : W.ok K n H) : W.lk H := fun a r ob e => by
  obtain ⟨xs, e', m⟩ := o.lst r
  rw [e'] at e
  cases e
  exact m
theorem sqt_lk {a : Addr} {xs : List V} (o : W.lk H) (l : W.le H H') (h : SqT K H a xs) : SqT K H' a xs := by
  rcases h with (h | ⟨ob, h⟩) | h
  · exact .inl (.inl (l _ _ (fun r => o _ r _ h) h))
  · exact .inl (.inr ⟨ob, l _ _ (fun r => o _ r _ h) h⟩)
  · exact .inr h
mutual
theorem At.lk (o : W.lk H) (l : W.le H H') : ∀ (d : D) {v : V}, At K W H v d → At K W H' v d
  | .non, _, h => by cases h; exact .non
  | .bl b, _, h => by cases h; exact .bl b
  | .int i, _, h => by cases h; exact .int i
  | .str x, _, h => by cases h; exact .str x
  | .ty t, _, h => by cases h; exact .ty t
  | .cls a, _, h => by cases h; exact .cls a
  | .tup ds, _, h => by
    cases h with
    | tup s a => exact .tup (sqt_lk o l s) (AtAll.lk o l ds a)
  | .lst ds, _, h => by
    cases h with
    | lst r s a => exact .lst r (l _ _ r s) (AtAll.lk o l ds a)
  | .dic ks ds, _, h => by
    cases h with
    | dic r s e a => exact .dic r (l _ _ r s) e (AtAll.lk o l ds a)
  | .ins C ns ds, _, h => by
    cases h with
    | ins s e a => exact .ins (l _ _ (fun r => o _ r _ s) s) e (AtAll.lk o l ds a)
  | .deck, _, h => by
    cases h with
    | deck e => exact .deck e
theorem AtAll.lk (o : W.lk H) (l : W.le H H') : ∀ (ds : List D) {vs : List V}, AtAll K W H vs ds → AtAll K W H' vs ds
  | [], _, h => by cases h; exact .nil
  | d :: ds, _, h => by
    cases h with
    | cons a r => exact .cons (At.lk o l d a) (AtAll.lk o l ds r)
end
theorem At.le {n : Nat} (o : W.ok K n H) (l : W.le H H') (d : D) {v : V} (h : At K W H v d) : At K W H' v d := At.lk o.lk l d h
theorem AtAll.le {n : Nat} (o : W.ok K n H) (l : W.le H H') (ds : List D) {vs : List V} (h : AtAll K W H vs ds) : AtAll K W H' vs ds := AtAll.lk o.lk l ds h
/-- one more list is being built -/
def Wd.add (W : Wd) (p : Addr × HO) : Wd := { W with own := p :: W.own }
mutual
/-- a world with more that is reserved, none of it there -/
theorem At.ext {W' : Wd} (hr : ∀ a, W'.rs a → ¬ W.rs a → H a = none) (hd : W'.dk = W.dk) : ∀ (d : D) {v : V}, At K W H v d → At K W' H v d
  | .non, _, h => by cases h; exact .non
  | .bl b, _, h => by cases h; exact .bl b
  | .int i, _, h => by cases h; exact .int i
  | .str x, _, h => by cases h; exact .str x
  | .ty t, _, h => by cases h; exact .ty t
  | .cls a, _, h => by cases h; exact .cls a
  | .tup ds, _, h => by
    cases h with
    | tup s a => exact .tup s (AtAll.ext hr hd ds a)
  | .lst ds, _, h => by
    cases h with
    | lst r s a => exact .lst (fun z => by rw [hr _ z r] at s; cases s) s (AtAll.ext hr hd ds a)
  | .dic ks ds, _, h => by
    cases h with
    | dic r s e a => exact .dic (fun z => by rw [hr _ z r] at s; cases s) s e (AtAll.ext hr hd ds a)
  | .ins C ns ds, _, h => by
    cases h with
    | ins s e a => exact .ins s e (AtAll.ext hr hd ds a)
  | .deck, _, h => by
    cases h with
    | deck e => exact .deck (hd.trans e)
theorem AtAll.ext {W' : Wd} (hr : ∀ a, W'.rs a → ¬ W.rs a → H a = none) (hd : W'.dk = W.dk) : ∀ (ds : List D) {vs : List V}, AtAll K W H vs ds → AtAll K W' H vs ds
  | [], _, h => by cases h; exact .nil
  | d :: ds, _, h => by
    cases h with
    | cons a r => exact .cons (At.ext hr hd d a) (AtAll.ext hr hd ds r)
end
mutual
/-- the worlds' reserved places alone count; fewer are less asked -/
theorem At.weak {W' : Wd} (hr : ∀ a, W'.rs a → W.rs a) (hd : W'.dk = W.dk) : ∀ (d : D) {v : V}, At K W H v d → At K W' H v d
  | .non, _, h => by cases h; exact .non
  | .bl b, _, h => by cases h; exact .bl b
  | .int i, _, h => by cases h; exact .int i
  | .str x, _, h => by cases h; exact .str x
  | .ty t, _, h => by cases h; exact .ty t
  | .cls a, _, h => by cases h; exact .cls a
  | .tup ds, _, h => by
    cases h with
    | tup s a => exact .tup s (AtAll.weak hr hd ds a)
  | .lst ds, _, h => by
    cases h with
    | lst r s a => exact .lst (fun z => r (hr _ z)) s (AtAll.weak hr hd ds a)
  | .dic ks ds, _, h => by
    cases h with
    | dic r s e a => exact .dic (fun z => r (hr _ z)) s e (AtAll.weak hr hd ds a)
  | .ins C ns ds, _, h => by
    cases h with
    | ins s e a => exact .ins s e (AtAll.weak hr hd ds a)
  | .deck, _, h => by
    cases h with
    | deck e => exact .deck (hd.trans e)
theorem AtAll.weak {W' : Wd} (hr : ∀ a, W'.rs a → W.rs a) (hd : W'.dk = W.dk) : ∀ (ds : List D) {vs : List V}, AtAll K W H vs ds → AtAll K W' H vs ds
  | [], _, h => by cases h; exact .nil
  | d :: ds, _, h => by
    cases h with
    | cons a r => exact .cons (At.weak hr hd d a) (AtAll.weak hr hd ds r)
end
theorem Wd.rs_add {q : Addr × HO} {a : Addr} (h : W.rs a) : (W.add q).rs a := by
  rcases h with h | h
  · exact .inl h
  · exact .inr (List.mem_cons_of_mem _ h)
theorem AtAll.length : ∀ {vs : List V} {ds : List D}, AtAll K W H vs ds → vs.length = ds.length
  | _, [], h => by cases h; rfl
  | _, d :: ds, h => by
    cases h with
    | cons a r => rw [List.length_cons, List.length_cons, AtAll.length r]
theorem AtAll.append : ∀ {vs us : List V} {ds es : List D}, AtAll K W H vs ds → AtAll K W H us es → AtAll K W H (vs ++ us) (ds ++ es)
  | _, _, [], _, h, g => by cases h; exact g
  | _, _, d :: ds, _, h, g => by
    cases h with
    | cons a r => exact .cons a (AtAll.append r g)
theorem AtAll.get : ∀ {vs : List V} {ds : List D} {i : Nat} {d : D}, AtAll K W H vs ds → ds[i]? = some d → ∃ v, vs[i]? = some v ∧ At K W H v d
  | _, [], _, _, h, e => by cases e
  | _, _ :: _, 0, _, h, e => by
    cases h with
    | cons a r => cases e; exact ⟨_, rfl, a⟩
  | _, _ :: ds, i + 1, _, h, e => by
    cases h with
    | cons a r => exact AtAll.get (i := i) r e
theorem AtAll.get' : ∀ {vs : List V} {ds : List D} {i : Nat} {v : V}, AtAll K W H vs ds → vs[i]? = some v → ∃ d, ds[i]? = some d ∧ At K W H v d
  | _, [], _, _, h, e => by cases h; cases e
  | _, _ :: _, 0, _, h, e => by
    cases h with
    | cons a r => cases e; exact ⟨_, rfl, a⟩
  | _, _ :: ds, i + 1, _, h, e => by
    cases h with
    | cons a r => exact AtAll.get' (i := i) r e
end
/-! ### environments and the judgement of expressions -/
abbrev Env' := List (Option D)
def eGet : Env' → Nat → Option D
  | [], _ => none
  | d :: _, 0 => d
  | _ :: r, i + 1 => eGet r i
def eSet : Env' → Nat → Option D → Env'
  | [], _, _ => []
  | _ :: r, 0, d => d :: r
  | x :: r, i + 1, d => x :: eSet r i d
theorem eSet_length : ∀ (ρ : Env') (i : Nat) (d : Option D), (eSet ρ i d).length = ρ.length
  | [], _, _ => rfl
  | _ :: _, 0, _ => rfl
  | x :: r, i + 1, d => by rw [eSet, List.length_cons, List.length_cons, eSet_length]
theorem eGet_set : ∀ {ρ : Env'} {i : Nat} {d : Option D} {e : D}, eGet (eSet ρ i d) i = some e → i < ρ.length ∧ d = some e
  | [], _, _, _, h => by cases h
  | _ :: _, 0, _, _, h => ⟨Nat.succ_pos _, h⟩
  | _ :: r, i + 1, _, _, h => let ⟨h1, h2⟩ := eGet_set (ρ := r) (i := i) h; ⟨Nat.succ_lt_succ h1, h2⟩
theorem eGet_ne : ∀ {ρ : Env'} {i j : Nat} {d : Option D}, i ≠ j → eGet (eSet ρ i d) j = eGet ρ j
  | [], _, _, _, _ => rfl
  | _ :: _, 0, 0, _, h => absurd rfl h
  | _ :: _, 0, _ + 1, _, _ => rfl
  | _ :: _, _ + 1, 0, _, _ => rfl
  | _ :: r, i + 1, j + 1, _, h => eGet_ne (ρ := r) (i := i) (j := j) fun z => h (by rw [z])
def EnvAt (K : PySem.W.Frag) (W : Wd) (H : Hp) (σ : L2.St) (ρ : Env') : Prop := σ.length = ρ.length ∧ ∀ (i : Nat) (d : D), eGet ρ i = some d → ∃ v, σ[i]? = some (some v) ∧ At K W H v d
theorem EnvAt.le {K : PySem.W.Frag} {W : Wd} {H H' : Hp} {n : Nat} {σ : L2.St} {ρ : Env'} (h : EnvAt K W H σ ρ) (o : W.ok K n H) (l : W.le H H') : EnvAt K W H' σ ρ :=
  ⟨h.1, fun i d e => let ⟨v, e', a⟩ := h.2 i d e; ⟨v, e', At.le o l d a⟩⟩
theorem EnvAt.set {K : PySem.W.Frag} {W : Wd} {H : Hp} {σ : L2.St} {ρ : Env'} {i : Nat} {v : V} {d : D} (h : EnvAt K W H σ ρ) (a : At K W H v d) : EnvAt K W H (σ.set i (some v)) (eSet ρ i (some d)) := by
  refine ⟨by rw [List.length_set, eSet_length]; exact h.1, fun j e he => ?_⟩
  by_cases hj : i = j
  · subst hj
    obtain ⟨hl, he⟩ := eGet_set he
    cases he
    exact ⟨v, by rw [List.getElem?_set_self (by rw [h.1]; exact hl)], a⟩
  · rw [eGet_ne hj] at he
    rw [List.getElem?_set_ne hj]
    exact h.2 j e he
/-- what is wanted of a value: any heap that has grown -/
def Wants (K : PySem.W.Frag) (W : Wd) (H : Hp) (Qa : D → Nat → Prop) (Q : VK) : Prop := ∀ d n', Qa d n' → ∀ H' v, W.le H H' → W.ok K n' H' → At K W H' v d → Q v H'
abbrev AE := Env' → Nat → (D → Nat → Prop) → Prop
class DE (K : PySem.W.Frag) (te : TE) (f : outParam AE) : Prop where
  run : ∀ (W : Wd) (σ : L2.St) (ρ : Env') (n : Nat) (H : Hp) (Q : VK) (Qa : D → Nat → Prop), Wants K W H Qa Q → EnvAt K W H σ ρ → W.ok K n H → f ρ n Qa → te σ H Q
abbrev AT := Env' → Nat → (Bool → Nat → Prop) → Prop
class DT (K : PySem.W.Frag) (te : TT) (f : outParam AT) : Prop where
  run : ∀ (W : Wd) (σ : L2.St) (ρ : Env') (n : Nat) (H : Hp) (Q : Bool → Hp → Prop) (Qa : Bool → Nat → Prop), (∀ b n', Qa b n' → ∀ H', W.le H H' → W.ok K n' H' → Q b H') → EnvAt K W H σ ρ → W.ok K n H → f ρ n Qa → te σ H Q
abbrev AA := Env' → Nat → (List D → Nat → Prop) → Prop
class DA (K : PySem.W.Frag) (te : TA) (f : outParam AA) : Prop where
  run : ∀ (W : Wd) (σ : L2.St) (ρ : Env') (n : Nat) (H : Hp) (Q : List V → Hp → Prop) (Qa : List D → Nat → Prop), (∀ ds n', Qa ds n' → ∀ H' vs, W.le H H' → W.ok K n' H' → AtAll K W H' vs ds → Q vs H') → EnvAt K W H σ ρ → W.ok K n H → f ρ n Qa → te σ H Q
/-- a choice whose side is not yet known -/
def aIte (b : Bool) (p q : Prop) : Prop := (b = true → p) ∧ (b = false → q)
theorem aT {p q : Prop} (h : p) : aIte true p q := ⟨fun _ => h, fun z => Bool.noConfusion z⟩
theorem aF {p q : Prop} (h : q) : aIte false p q := ⟨fun z => Bool.noConfusion z, fun _ => h⟩
section
variable {K : PySem.W.Frag}
/-- by values, one -/
class D1 (K : PySem.W.Frag) (r : V → Hp → VK → Prop) (f : outParam (D → Nat → (D → Nat → Prop) → Prop)) : Prop where
  run : ∀ (W : Wd) (n : Nat) (H : Hp) (x : V) (d : D) (Q : VK) (Qa : D → Nat → Prop), Wants K W H Qa Q → W.ok K n H → At K W H x d → f d n Qa → r x H Q
class D2 (K : PySem.W.Frag) (r : R2) (f : outParam (D → D → Nat → (D → Nat → Prop) → Prop)) : Prop where
  run : ∀ (W : Wd) (n : Nat) (H : Hp) (x y : V) (d e : D) (Q : VK) (Qa : D → Nat → Prop), Wants K W H Qa Q → W.ok K n H → At K W H x d → At K W H y e → f d e n Qa → r x y H Q
class DL (K : PySem.W.Frag) (r : List V → Hp → VK → Prop) (f : outParam (List D → Nat → (D → Nat → Prop) → Prop)) : Prop where
  run : ∀ (W : Wd) (n : Nat) (H : Hp) (xs : List V) (ds : List D) (Q : VK) (Qa : D → Nat → Prop), Wants K W H Qa Q → W.ok K n H → AtAll K W H xs ds → f ds n Qa → r xs H Q
theorem Wants.le {W : Wd} {H H1 : Hp} {Qa : D → Nat → Prop} {Q : VK} (h : Wants K W H Qa Q) (l : W.le H H1) : Wants K W H1 Qa Q := fun d n' q H' v l' o a => h d n' q H' v (l.trans l') o a
theorem Wants.now {W : Wd} {H : Hp} {Qa : D → Nat → Prop} {Q : VK} {n : Nat} {d : D} {v : V} (h : Wants K W H Qa Q) (o : W.ok K n H) (q : Qa d n) (a : At K W H v d) : Q v H := h d n q H v Wd.le_refl o a
/-- a new object -/
theorem Wants.new {W : Wd} {H : Hp} {Qa : D → Nat → Prop} {Q : VK} {n : Nat} {d : D} {p : Addr} {ob : HO} (h : Wants K W H Qa Q) (o : W.ok K n H) (q : Qa d n) (hp : H p = none) (a : At K W (upd H p ob) (.ref p) d) : Q (.ref p) (upd H p ob) :=
  h d n q _ _ (Wd.le_same (same_upd hp)) (o.same (same_upd hp)) a
/-! expressions -/
def aVar (i : Nat) : AE := fun ρ n Q => match eGet ρ i with
  | some d => Q d n
  | none => False
instance {i : Nat} : DE K (tVar i) (aVar i) := ⟨fun W σ ρ n H Q Qa hQ hE o h => by
  unfold aVar at h
  split at h
  · rename_i d e
    obtain ⟨v, e', a⟩ := hE.2 i d e
    exact ⟨v, e', hQ.now o h a⟩
  · exact h.elim⟩
def vD : V → Option D
  | .non => some .non | .bl b => some (.bl b) | .int i => some (.int i) | .str x => some (.str x)
  | _ => none
theorem vD_at {W : Wd} {H : Hp} {v : V} {d : D} (h : vD v = some d) : At K W H v d := by
  cases v <;> cases h
  · exact .non
  · exact .bl _
  · exact .int _
  · exact .str _
def aC (v : V) : AE := fun _ n Q => match vD v with
  | some d => Q d n
  | none => False
instance (priority := 100) {v : V} : DE K (tC v) (aC v) := ⟨fun W σ ρ n H Q Qa hQ hE o h => by
  unfold aC at h
  split at h
  · rename_i d e
    exact hQ.now o h (vD_at e)
  · exact h.elim⟩
def a1 (f : D → Nat → (D → Nat → Prop) → Prop) (fa : AE) : AE := fun ρ n Q => fa ρ n fun d n1 => f d n1 Q
def a2 (f : D → D → Nat → (D → Nat → Prop) → Prop) (fa fb : AE) : AE := fun ρ n Q => fa ρ n fun d n1 => fb ρ n1 fun e n2 => f d e n2 Q
instance {r : R2} {f : D → D → Nat → (D → Nat → Prop) → Prop} {ta tb : TE} {fa fb : AE} [D2 K r f] [DE K ta fa] [DE K tb fb] : DE K (tOp r ta tb) (a2 f fa fb) := ⟨fun W σ ρ n H Q Qa hQ hE o h =>
  DE.run (te := ta) (f := fa) W σ ρ n H _ _ (fun d n1 h1 H1 x l1 o1 ax => DE.run (te := tb) (f := fb) W σ ρ n1 H1 _ _ (fun e n2 h2 H2 y l2 o2 ay => D2.run (f := f) W n2 H2 x y d e Q Qa (hQ.le (l1.trans l2)) o2 (At.le o1 l2 d ax) ay h2) (hE.le o l1) o1 h1) hE o h⟩
instance {r : V → Hp → VK → Prop} {f : D → Nat → (D → Nat → Prop) → Prop} {ta : TE} {fa : AE} [D1 K r f] [DE K ta fa] : DE K (tUn r ta) (a1 f fa) := ⟨fun W σ ρ n H Q Qa hQ hE o h =>
  DE.run (te := ta) (f := fa) W σ ρ n H _ _ (fun d n1 h1 H1 x l1 o1 ax => D1.run (f := f) W n1 H1 x d Q Qa (hQ.le l1) o1 ax h1) hE o h⟩
def aInt2 (C : Int → Int → Prop) (g : Int → Int → V) : D → D → Nat → (D → Nat → Prop) → Prop
  | .int i, .int j, n, Q => C i j ∧ (match vD (g i j) with
    | some d => Q d n
    | none => False)
  | _, _, _, _ => False
def aInt0 (g : Int → Int → V) : D → D → Nat → (D → Nat → Prop) → Prop
  | .int i, .int j, n, Q => (match vD (g i j) with
    | some d => Q d n
    | none => False)
  | _, _, _, _ => False
instance {C : Int → Int → Prop} {g : Int → Int → V} : D2 K (rI C g) (aInt2 C g) := ⟨fun W n H x y d e Q Qa hQ o ax ay h => by
  unfold aInt2 at h
  split at h
  · obtain ⟨hc, h⟩ := h
    cases ax
    cases ay
    refine ⟨_, _, rfl, rfl, hc, ?_⟩
    split at h
    · rename_i d e
      exact hQ.now o h (vD_at e)
    · exact h.elim
  · exact h.elim⟩
instance {g : Int → Int → V} : D2 K (rI0 g) (aInt0 g) := ⟨fun W n H x y d e Q Qa hQ o ax ay h => by
  unfold aInt0 at h
  split at h
  · cases ax
    cases ay
    refine ⟨_, _, rfl, rfl, ?_⟩
    split at h
    · rename_i d e
      exact hQ.now o h (vD_at e)
    · exact h.elim
  · exact h.elim⟩
def aIntU (g : Int → V) : D → Nat → (D → Nat → Prop) → Prop
  | .int i, n, Q => (match vD (g i) with
    | some d => Q d n
    | none => False)
  | _, _, _ => False
instance {g : Int → V} : D1 K (rU g) (aIntU g) := ⟨fun W n H x d Q Qa hQ o ax h => by
  unfold aIntU at h
  split at h
  · cases ax
    refine ⟨_, rfl, ?_⟩
    split at h
    · rename_i d e
      exact hQ.now o h (vD_at e)
    · exact h.elim
  · exact h.elim⟩
/-! == of scalars -/
def eqS : D → D → Option Bool
  | .int i, .int j => some (decide (i = j)) | .bl i, .bl j => some (decide (i = j)) | .str i, .str j => some (decide (i = j)) | .non, .non => some true
  | .non, .int _ => some false | .int _, .non => some false | .non, .bl _ => some false | .bl _, .non => some false | .non, .str _ => some false | .str _, .non => some false
  | .int _, .str _ => some false | .str _, .int _ => some false | .bl _, .str _ => some false | .str _, .bl _ => some false
  | _, _ => none
def aEqS (f : Bool → Bool) : D → D → Nat → (D → Nat → Prop) → Prop := fun d e n Q => match eqS d e with
  | some b => Q (.bl (f b)) n
  | none => False
theorem eqS_is {W : Wd} {H : Hp} {x y : V} {d e : D} {b : Bool} (ax : At K W H x d) (ay : At K W H y e) (h : eqS d e = some b) : scal x y = true ∧ decide (x = y) = b := by
  cases ax <;> cases ay <;> first
    | cases h; done
    | (cases h; refine ⟨rfl, ?_⟩; first
        | rfl
        | (refine decide_eq_decide.mpr ⟨fun z => ?_, fun z => by rw [z]⟩; injection z))
instance : D2 K rEq (aEqS id) := ⟨fun W n H x y d e Q Qa hQ o ax ay h => by
  unfold aEqS at h
  split at h
  · rename_i b e
    obtain ⟨h1, h2⟩ := eqS_is ax ay e
    refine ⟨h1, ?_⟩
    rw [h2]
    exact hQ.now o h (.bl _)
  · exact h.elim⟩
instance : D2 K rNe (aEqS not) := ⟨fun W n H x y d e Q Qa hQ o ax ay h => by
  unfold aEqS at h
  split at h
  · rename_i b e
    obtain ⟨h1, h2⟩ := eqS_is ax ay e
    refine ⟨h1, ?_⟩
    rw [h2]
    exact hQ.now o h (.bl _)
  · exact h.elim⟩
/-! tests -/
def aTest (f : AE) : AT := fun ρ n Q => f ρ n fun d n1 => match d with
  | .bl b => Q b n1
  | _ => False
theorem aTest_run {te : TE} {f : AE} [DE K te f] (W : Wd) (σ : L2.St) (ρ : Env') (n : Nat) (H : Hp) (Q : Bool → Hp → Prop) (Qa : Bool → Nat → Prop) (hQ : ∀ b n', Qa b n' → ∀ H', W.le H H' → W.ok K n' H' → Q b H') (hE : EnvAt K W H σ ρ) (o : W.ok K n H) (h : aTest f ρ n Qa) :
    te σ H fun x H' => ∃ k, x = .bl k ∧ Q k H' :=
  DE.run (te := te) (f := f) W σ ρ n H _ _ (fun d n1 h1 H1 x l1 o1 ax => by
    split at h1
    · cases ax
      exact ⟨_, rfl, hQ _ _ h1 H1 l1 o1⟩
    · exact h1.elim) hE o h
instance {te : TE} {f : AE} [DE K te f] : DT K (tTest te) (aTest f) := ⟨aTest_run⟩
instance {te : TE} {f : AE} [DE K te f] : DT K (tB te) (aTest f) := ⟨aTest_run⟩
def aNotT (f : AT) : AT := fun ρ n Q => f ρ n fun b n1 => Q (!b) n1
instance {t : TT} {f : AT} [DT K t f] : DT K (tNot t) (aNotT f) := ⟨fun W σ ρ n H Q Qa hQ hE o h => DT.run (te := t) (f := f) W σ ρ n H _ _ (fun b n1 h1 H1 l1 o1 => hQ _ _ h1 H1 l1 o1) hE o h⟩
def aAndT (f g : AT) : AT := fun ρ n Q => f ρ n fun b n1 => aIte b (g ρ n1 Q) (Q false n1)
def aOrT (f g : AT) : AT := fun ρ n Q => f ρ n fun b n1 => aIte b (Q true n1) (g ρ n1 Q)
instance {t u : TT} {f g : AT} [DT K t f] [DT K u g] : DT K (tAnd t u) (aAndT f g) := ⟨fun W σ ρ n H Q Qa hQ hE o h =>
  DT.run (te := t) (f := f) W σ ρ n H _ _ (fun b n1 h1 H1 l1 o1 => by
    cases b with
    | true => rw [if_pos rfl]; exact DT.run (te := u) (f := g) W σ ρ n1 H1 Q Qa (fun b n2 h2 H2 l2 o2 => hQ _ _ h2 H2 (l1.trans l2) o2) (hE.le o l1) o1 (h1.1 rfl)
    | false => rw [if_neg Bool.false_ne_true]; exact hQ _ _ (h1.2 rfl) H1 l1 o1) hE o h⟩
instance {t u : TT} {f g : AT} [DT K t f] [DT K u g] : DT K (tOr t u) (aOrT f g) := ⟨fun W σ ρ n H Q Qa hQ hE o h =>
  DT.run (te := t) (f := f) W σ ρ n H _ _ (fun b n1 h1 H1 l1 o1 => by
    cases b with
    | false => rw [if_neg Bool.false_ne_true]; exact DT.run (te := u) (f := g) W σ ρ n1 H1 Q Qa (fun b n2 h2 H2 l2 o2 => hQ _ _ h2 H2 (l1.trans l2) o2) (hE.le o l1) o1 (h1.2 rfl)
    | true => rw [if_pos rfl]; exact hQ _ _ (h1.1 rfl) H1 l1 o1) hE o h⟩
def aYes : AT := fun _ n Q => Q true n
instance : DT K tYes aYes := ⟨fun W σ ρ n H Q Qa hQ hE o h => hQ _ _ h H Wd.le_refl o⟩
def aNotV (f : AE) : AE := fun ρ n Q => f ρ n fun d n1 => match d with
  | .bl b => Q (.bl (!b)) n1
  | _ => False
def aBits (f : AE) : AE := fun ρ n Q => f ρ n fun d n1 => match d with
  | .int i => Q (.int (Builtin.Int.intBits i : Nat)) n1
  | _ => False
def aAndV (f g : AE) : AE := fun ρ n Q => f ρ n fun d n1 => match d with
  | .bl b => aIte b (g ρ n1 Q) (Q (.bl false) n1)
  | _ => False
def aOrV (f g : AE) : AE := fun ρ n Q => f ρ n fun d n1 => match d with
  | .bl b => aIte b (Q (.bl true) n1) (g ρ n1 Q)
  | _ => False
instance {te : TE} {f : AE} [DE K te f] : DE K (tNotV te) (aNotV f) := ⟨fun W σ ρ n H Q Qa hQ hE o h =>
  DE.run (te := te) (f := f) W σ ρ n H _ _ (fun d n1 h1 H1 x l1 o1 ax => by
    split at h1
    · cases ax
      exact ⟨_, rfl, (hQ.le l1).now o1 h1 (.bl _)⟩
    · exact h1.elim) hE o h⟩
instance {te : TE} {f : AE} [DE K te f] : DE K (tBits te) (aBits f) := ⟨fun W σ ρ n H Q Qa hQ hE o h =>
  DE.run (te := te) (f := f) W σ ρ n H _ _ (fun d n1 h1 H1 x l1 o1 ax => by
    split at h1
    · cases ax
      exact ⟨_, rfl, (hQ.le l1).now o1 h1 (.int _)⟩
    · exact h1.elim) hE o h⟩
instance {te tu : TE} {f g : AE} [DE K te f] [DE K tu g] : DE K (tAndV te tu) (aAndV f g) := ⟨fun W σ ρ n H Q Qa hQ hE o h =>
  DE.run (te := te) (f := f) W σ ρ n H _ _ (fun d n1 h1 H1 x l1 o1 ax => by
    split at h1
    · rename_i b
      cases ax
      refine ⟨_, rfl, ?_⟩
      cases b with
      | true => rw [if_pos rfl]; exact DE.run (te := tu) (f := g) W σ ρ n1 H1 Q Qa (hQ.le l1) (hE.le o l1) o1 (h1.1 rfl)
      | false => rw [if_neg Bool.false_ne_true]; exact (hQ.le l1).now o1 (h1.2 rfl) (.bl _)
    · exact h1.elim) hE o h⟩
instance {te tu : TE} {f g : AE} [DE K te f] [DE K tu g] : DE K (tOrV te tu) (aOrV f g) := ⟨fun W σ ρ n H Q Qa hQ hE o h =>
  DE.run (te := te) (f := f) W σ ρ n H _ _ (fun d n1 h1 H1 x l1 o1 ax => by
    split at h1
    · rename_i b
      cases ax
      refine ⟨_, rfl, ?_⟩
      cases b with
      | false => rw [if_neg Bool.false_ne_true]; exact DE.run (te := tu) (f := g) W σ ρ n1 H1 Q Qa (hQ.le l1) (hE.le o l1) o1 (h1.2 rfl)
      | true => rw [if_pos rfl]; exact (hQ.le l1).now o1 (h1.1 rfl) (.bl _)
    · exact h1.elim) hE o h⟩
def aIfE (c : AT) (f g : AE) : AE := fun ρ n Q => c ρ n fun b n1 => aIte b (f ρ n1 Q) (g ρ n1 Q)
instance {tc : TT} {te tu : TE} {c : AT} {f g : AE} [DT K tc c] [DE K te f] [DE K tu g] : DE K (tIf tc te tu) (aIfE c f g) := ⟨fun W σ ρ n H Q Qa hQ hE o h =>
  DT.run (te := tc) (f := c) W σ ρ n H _ _ (fun b n1 h1 H1 l1 o1 => by
    cases b with
    | true => rw [if_pos rfl]; exact DE.run (te := te) (f := f) W σ ρ n1 H1 Q Qa (hQ.le l1) (hE.le o l1) o1 (h1.1 rfl)
    | false => rw [if_neg Bool.false_ne_true]; exact DE.run (te := tu) (f := g) W σ ρ n1 H1 Q Qa (hQ.le l1) (hE.le o l1) o1 (h1.2 rfl)) hE o h⟩
def aChain (f g : D → D → Nat → (D → Nat → Prop) → Prop) (fa fb fc : AE) : AE := fun ρ n Q => fa ρ n fun x n1 => fb ρ n1 fun y n2 => f x y n2 fun z n3 => match z with
  | .bl b => aIte b (fc ρ n3 fun w n4 => g y w n4 Q) (Q (.bl false) n3)
  | _ => False
instance {r r' : R2} {f g : D → D → Nat → (D → Nat → Prop) → Prop} {ta tb tc : TE} {fa fb fc : AE} [D2 K r f] [D2 K r' g] [DE K ta fa] [DE K tb fb] [DE K tc fc] : DE K (tChain r r' ta tb tc) (aChain f g fa fb fc) := ⟨fun W σ ρ n H Q Qa hQ hE o h =>
  DE.run (te := ta) (f := fa) W σ ρ n H _ _ (fun d n1 h1 H1 x l1 o1 ax => DE.run (te := tb) (f := fb) W σ ρ n1 H1 _ _ (fun e n2 h2 H2 y l2 o2 ay => D2.run (f := f) W n2 H2 x y d e _ _ (fun z n3 h3 H3 v l3 o3 az => by
    split at h3
    · rename_i b
      cases az
      refine ⟨_, rfl, ?_⟩
      have l13 := l1.trans (l2.trans l3)
      cases b with
      | true =>
        rw [if_pos rfl]
        exact DE.run (te := tc) (f := fc) W σ ρ n3 H3 _ _ (fun w n4 h4 H4 u l4 o4 au => D2.run (f := g) W n4 H4 y u e w Q Qa (hQ.le (l13.trans l4)) o4 (At.le o2 (l3.trans l4) e ay) au h4) (hE.le o l13) o3 (h3.1 rfl)
      | false => rw [if_neg Bool.false_ne_true]; exact (hQ.le l13).now o3 (h3.2 rfl) (.bl _)
    · exact h3.elim) o2 (At.le o1 l2 d ax) ay h2) (hE.le o l1) o1 h1) hE o h⟩
/-! argument lists, displays, calls -/
def aNil : AA := fun _ n Q => Q [] n
def aCons (f : AE) (g : AA) : AA := fun ρ n Q => f ρ n fun d n1 => g ρ n1 fun ds n2 => Q (d :: ds) n2
instance : DA K tNil aNil := ⟨fun W σ ρ n H Q Qa hQ hE o h => hQ _ _ h H _ Wd.le_refl o .nil⟩
instance {te : TE} {ta : TA} {f : AE} {g : AA} [DE K te f] [DA K ta g] : DA K (tCons te ta) (aCons f g) := ⟨fun W σ ρ n H Q Qa hQ hE o h =>
  DE.run (te := te) (f := f) W σ ρ n H _ _ (fun d n1 h1 H1 x l1 o1 ax => DA.run (te := ta) (f := g) W σ ρ n1 H1 _ _ (fun ds n2 h2 H2 xs l2 o2 axs => hQ _ _ h2 H2 _ (l1.trans l2) o2 (.cons (At.le o1 l2 d ax) axs)) (hE.le o l1) o1 h1) hE o h⟩
def aTup (g : AA) : AE := fun ρ n Q => g ρ n fun ds n1 => match Nat.ble ds.length 1000 with
  | true => Q (.tup ds) n1
  | false => False
def aLst (g : AA) : AE := fun ρ n Q => g ρ n fun ds n1 => match Nat.ble ds.length 1000 with
  | true => Q (.lst ds) n1
  | false => False
instance {ta : TA} {g : AA} [DA K ta g] : DE K (tTup ta) (aTup g) := ⟨fun W σ ρ n H Q Qa hQ hE o h =>
  DA.run (te := ta) (f := g) W σ ρ n H _ _ (fun ds n1 h1 H1 xs l1 o1 ax => by
    split at h1
    · rename_i e
      refine ⟨size63 (by rw [ax.length]; exact Nat.le_of_ble_eq_true e), fun p hp => (hQ.le l1).new o1 h1 hp ?_⟩
      exact .tup (.inl (.inl upd_same)) (AtAll.le o1 (Wd.le_same (same_upd hp)) ds ax)
    · exact h1.elim) hE o h⟩
instance {ta : TA} {g : AA} [DA K ta g] : DE K (tLst ta) (aLst g) := ⟨fun W σ ρ n H Q Qa hQ hE o h =>
  DA.run (te := ta) (f := g) W σ ρ n H _ _ (fun ds n1 h1 H1 xs l1 o1 ax => by
    split at h1
    · rename_i e
      refine ⟨size63 (by rw [ax.length]; exact Nat.le_of_ble_eq_true e), fun p hp => (hQ.le l1).new o1 h1 hp ?_⟩
      exact .lst (o1.fresh hp) upd_same (AtAll.le o1 (Wd.le_same (same_upd hp)) ds ax)
    · exact h1.elim) hE o h⟩
abbrev ASp := List D → Nat → (D → Nat → Prop) → Prop
/-- the promise of a def that only makes new things (and draws) -/
def spOf (K : PySem.W.Frag) (k : Nat) (A : ASp) : Sp := fun vs H Q _ => ∃ (W : Wd) (n : Nat) (ds : List D) (Qa : D → Nat → Prop), AtAll K W H vs ds ∧ ds.length = k ∧ W.ok K n H ∧ Wants K W H Qa Q ∧ A ds n Qa
def aCall (k : Nat) (A : ASp) (g : AA) : AE := fun ρ n Q => g ρ n fun ds n1 => match Nat.beq ds.length k with
  | true => A ds n1 Q
  | false => False
instance {k : Nat} {A : ASp} {E : XK} {ta : TA} {g : AA} [DA K ta g] : DE K (tCall (spOf K k A) [] E ta) (aCall k A g) := ⟨fun W σ ρ n H Q Qa hQ hE o h =>
  DA.run (te := ta) (f := g) W σ ρ n H _ _ (fun ds n1 h1 H1 xs l1 o1 ax => by
    rw [List.append_nil]
    split at h1
    · rename_i e
      exact ⟨W, n1, ds, Qa, ax, Nat.eq_of_beq_eq_true e, o1, hQ.le l1, h1⟩
    · exact h1.elim) hE o h⟩
def aCB (f : List D → Nat → (D → Nat → Prop) → Prop) (g : AA) : AE := fun ρ n Q => g ρ n fun ds n1 => f ds n1 Q
instance {r : List V → Hp → VK → Prop} {f : List D → Nat → (D → Nat → Prop) → Prop} {ta : TA} {g : AA} [DL K r f] [DA K ta g] : DE K (tCB r ta) (aCB f g) := ⟨fun W σ ρ n H Q Qa hQ hE o h =>
  DA.run (te := ta) (f := g) W σ ρ n H _ _ (fun ds n1 h1 H1 xs l1 o1 ax => DL.run (f := f) W n1 H1 xs ds Q Qa (hQ.le l1) o1 ax h1) hE o h⟩
end

/-! ### the mirror, second part: rules over the kinds -/
section
variable {K : PySem.W.Frag}
theorem take_at {W : Wd} {H : Hp} : ∀ (k : Nat) {vs : List V} {ds : List D}, AtAll K W H vs ds → AtAll K W H (vs.take k) (ds.take k)
  | 0, _, _, _ => .nil
  | k + 1, _, [], h => by cases h; exact .nil
  | k + 1, _, d :: ds, h => by
    cases h with
    | cons a r => exact .cons a (take_at k r)
theorem drop_at {W : Wd} {H : Hp} : ∀ (k : Nat) {vs : List V} {ds : List D}, AtAll K W H vs ds → AtAll K W H (vs.drop k) (ds.drop k)
  | 0, _, _, h => h
  | k + 1, _, [], h => by cases h; exact .nil
  | k + 1, _, d :: ds, h => by
    cases h with
    | cons a r => exact drop_at k r
theorem rev_at {W : Wd} {H : Hp} : ∀ {vs : List V} {ds : List D}, AtAll K W H vs ds → AtAll K W H vs.reverse ds.reverse
  | _, [], h => by cases h; exact .nil
  | _, d :: ds, h => by
    cases h with
    | cons a r =>
      rw [List.reverse_cons, List.reverse_cons]
      exact (rev_at r).append (.cons a .nil)
theorem atI_at {W : Wd} {H : Hp} {vs : List V} {ds : List D} {i : Int} {d : D} (h : AtAll K W H vs ds) (e : atI ds i = some d) : ∃ v, atI vs i = some v ∧ At K W H v d := by
  unfold atI at e ⊢
  rw [h.length]
  cases e1 : ixN ds.length i with
  | none => rw [e1] at e; cases e
  | some j =>
    rw [e1] at e
    obtain ⟨v, h1, h2⟩ := h.get (i := j) e
    exact ⟨v, h1, h2⟩
theorem lim : (1000000 : Nat) ≤ sizeLine := by rw [sizeLine_eq]; decide
/-! a place in a list, a tuple, a text -/
def aIx : D → D → Nat → (D → Nat → Prop) → Prop
  | .tup ds, .int i, n, Q => (match atI ds i with
    | some d => Q d n
    | none => False)
  | .lst ds, .int i, n, Q => (match atI ds i with
    | some d => Q d n
    | none => False)
  | .str z, .int i, n, Q => z.length ≤ 1000000 ∧ (match atI z.cps.toList i with
    | some c => Q (.str ⟨#[c]⟩) n
    | none => False)
  | _, _, _, _ => False
instance : D2 K (rIx K) aIx := ⟨fun W n H x y d e Q Qa hQ o ax ay h => by
  unfold aIx at h
  split at h
  · cases ay
    cases ax with
    | tup s a =>
      split at h
      · rename_i d' e'
        obtain ⟨v, h1, h2⟩ := atI_at a e'
        exact .inr (.inl ⟨_, _, _, v, rfl, rfl, s, h1, hQ.now o h h2⟩)
      · exact h.elim
  · cases ay
    cases ax with
    | lst r s a =>
      split at h
      · rename_i d' e'
        obtain ⟨v, h1, h2⟩ := atI_at a e'
        exact .inl ⟨_, _, _, v, rfl, rfl, SqL.of s, h1, hQ.now o h h2⟩
      · exact h.elim
  · cases ay
    cases ax
    obtain ⟨hl, h⟩ := h
    split at h
    · rename_i c e'
      exact .inr (.inr ⟨_, _, c, rfl, rfl, Nat.le_trans hl lim, e', hQ.now o h (.str _)⟩)
    · exact h.elim
  · exact h.elim⟩
theorem k_ix {X : Cx} (hK : X.K = K) : IxR X (rIx K) := hK ▸ ix_seq
/-- the same, where the place is not written -/
def rIxY (K : PySem.W.Frag) : R2 := rIx K
@[irreducible] def aIxS : D → D → Nat → (D → Nat → Prop) → Prop := aIx
instance : D2 K (rIxY K) aIxS := ⟨fun W n H x y d e Q Qa hQ o ax ay h => by
  unfold aIxS at h
  exact D2.run (K := K) (r := rIx K) (f := aIx) W n H x y d e Q Qa hQ o ax ay h⟩
theorem k_ixS {X : Cx} (hK : X.K = K) : IxR X (rIxY K) := hK ▸ ix_seq
theorem aIx_lst {ds : List D} {i : Int} {d : D} {n : Nat} {Q : D → Nat → Prop} (e : atI ds i = some d) (q : Q d n) : aIxS (.lst ds) (.int i) n Q := by
  unfold aIxS
  show (match atI ds i with
    | some d => Q d n
    | none => False)
  rw [e]
  exact q
theorem aIx_tup {ds : List D} {i : Int} {d : D} {n : Nat} {Q : D → Nat → Prop} (e : atI ds i = some d) (q : Q d n) : aIxS (.tup ds) (.int i) n Q := by
  unfold aIxS
  show (match atI ds i with
    | some d => Q d n
    | none => False)
  rw [e]
  exact q
/-! + -/
def rAddA (K : PySem.W.Frag) : R2 := fun x y H Q => (rI0 (fun i j => .int (i + j)) x y H Q ∨ rCat x y H Q) ∨ (rCatT K x y H Q ∨ ∃ i j, x = .str i ∧ y = .str j ∧ i.length + j.length ≤ sizeLine ∧ Q (.str (i ++ j)) H)
theorem OpR.or' {X : Cx} {op : Value → Value → Sem Value} {r r' : R2} (h : OpR X op r) (h' : OpR X op r') : OpR X op (fun x y H Q => r x y H Q ∨ r' x y H Q) := by
  intro pins s σ H x y v u Q I rx ry q
  rcases q with q | q
  · exact h pins s σ H x y v u Q I rx ry q
  · exact h' pins s σ H x y v u Q I rx ry q
theorem k_add {X : Cx} (hK : X.K = K) : OpR X (binaryOp .Add) (rAddA K) := hK ▸ OpR.or' (OpR.or' op_add op_cat) (OpR.or' op_catT op_add_str)
def aAdd : D → D → Nat → (D → Nat → Prop) → Prop
  | .int i, .int j, n, Q => Q (.int (i + j)) n
  | .lst ds, .lst es, n, Q => ds.length + es.length ≤ 1000000 ∧ Q (.lst (ds ++ es)) n
  | .tup ds, .tup es, n, Q => ds ≠ [] ∧ ds.length + es.length ≤ 1000000 ∧ Q (.tup (ds ++ es)) n
  | .str a, .str b, n, Q => a.length + b.length ≤ 1000000 ∧ Q (.str (a ++ b)) n
  | _, _, _, _ => False
instance : D2 K (rAddA K) aAdd := ⟨fun W n H x y d e Q Qa hQ o ax ay h => by
  unfold aAdd at h
  split at h
  · cases ax
    cases ay
    exact .inl (.inl ⟨_, _, rfl, rfl, hQ.now o h (.int _)⟩)
  · cases ax with
    | lst r s a =>
      cases ay with
      | lst r' s' a' =>
        refine .inl (.inr ⟨_, _, _, _, rfl, rfl, s, s', ?_, fun p hp => hQ.new o h.2 hp ?_⟩)
        · rw [a.length, a'.length]
          exact Nat.le_trans h.1 lim
        · exact .lst (o.fresh hp) upd_same ((AtAll.le o (Wd.le_same (same_upd hp)) _ a).append (AtAll.le o (Wd.le_same (same_upd hp)) _ a'))
  · cases ax with
    | tup s a =>
      cases ay with
      | tup s' a' =>
        obtain ⟨h0, h1, h2⟩ := h
        refine .inr (.inl ⟨_, _, _, _, rfl, rfl, s, s', ?_, ?_, fun z => ?_, fun z p hp => hQ.new o h2 hp ?_⟩)
        · rintro rfl
          cases a
          exact h0 rfl
        · rw [a.length, a'.length]
          exact Nat.le_trans h1 lim
        · subst z
          cases a'
          rw [List.append_nil] at h2
          exact hQ.now o h2 (.tup s a)
        · exact .tup (.inl (.inl upd_same)) ((AtAll.le o (Wd.le_same (same_upd hp)) _ a).append (AtAll.le o (Wd.le_same (same_upd hp)) _ a'))
  · cases ax
    cases ay
    exact .inr (.inr ⟨_, _, rfl, rfl, Nat.le_trans h.1 lim, hQ.now o h.2 (.str _)⟩)
  · exact h.elim⟩
/-! * and // of numbers of any size -/
def CMulA (i j : Int) : Prop := CMul i j ∨ CMulW i j
def CDivA (i j : Int) : Prop := CDiv i j ∨ CDivW i j
theorem k_mul {X : Cx} : OpR X (binaryOp .Mult) (rI CMulA fun i j => .int (i * j)) := by
  intro pins s σ H x y v u Q I rx ry q
  obtain ⟨i, j, h1, h2, h | h, q⟩ := q
  · exact op_mul pins s σ H x y v u Q I rx ry ⟨i, j, h1, h2, h, q⟩
  · exact op_mulW pins s σ H x y v u Q I rx ry ⟨i, j, h1, h2, h, q⟩
theorem k_fdiv {X : Cx} : OpR X (binaryOp .FloorDiv) (rI CDivA fun i j => .int (i / j)) := by
  intro pins s σ H x y v u Q I rx ry q
  obtain ⟨i, j, h1, h2, h | h, q⟩ := q
  · exact op_fdiv pins s σ H x y v u Q I rx ry ⟨i, j, h1, h2, h, q⟩
  · exact op_fdivW pins s σ H x y v u Q I rx ry ⟨i, j, h1, h2, h, q⟩
/-! == at any depth -/
mutual
def D.pd : D → PyData
  | .bl b => .bool b | .int i => .int i | .str x => .str x | .tup ds => .tuple (pdAll ds) | .lst ds => .list (pdAll ds)
  | _ => .none
def pdAll : List D → List PyData
  | [] => []
  | d :: ds => d.pd :: pdAll ds
end
mutual
def D.isD : D → Bool
  | .non => true | .bl _ => true | .int _ => true | .str _ => true | .tup ds => isDAll ds | .lst ds => isDAll ds
  | _ => false
def isDAll : List D → Bool
  | [] => true
  | d :: ds => d.isD && isDAll ds
end
mutual
theorem At.dp {W : Wd} {H : Hp} : ∀ (d : D) {v : V}, d.isD = true → At K W H v d → Dp K H v d.pd
  | .non, _, _, h => by cases h; exact .non
  | .bl b, _, _, h => by cases h; exact .bl b
  | .int i, _, _, h => by cases h; exact .int i
  | .str x, _, _, h => by cases h; exact .str x
  | .ty t, _, e, _ => Bool.noConfusion e
  | .cls a, _, e, _ => Bool.noConfusion e
  | .tup ds, _, e, h => by
    cases h with
    | tup s a => exact .tup s (AtAll.dp ds e a)
  | .lst ds, _, e, h => by
    cases h with
    | lst r s a => exact .lst (SqL.of s) (AtAll.dp ds e a)
  | .dic ks ds, _, e, _ => Bool.noConfusion e
  | .ins C ns ds, _, e, _ => Bool.noConfusion e
  | .deck, _, e, _ => Bool.noConfusion e
theorem AtAll.dp {W : Wd} {H : Hp} : ∀ (ds : List D) {vs : List V}, isDAll ds = true → AtAll K W H vs ds → DpAll K H vs (pdAll ds)
  | [], _, _, h => by cases h; exact .nil
  | d :: ds, _, e, h => by
    have e' : (d.isD && isDAll ds) = true := e
    rw [Bool.and_eq_true] at e'
    cases h with
    | cons a r => exact .cons (At.dp d e'.1 a) (AtAll.dp ds e'.2 r)
end
def rEqA (K : PySem.W.Frag) : R2 := fun x y H Q => rEq x y H Q ∨ rEqD K x y H Q
def rNeA (K : PySem.W.Frag) : R2 := fun x y H Q => rNe x y H Q ∨ rNeD K x y H Q
theorem k_eq {X : Cx} (hK : X.K = K) (hu : X.A.units + 64 < cLine) : OpR X (compareOp .Eq) (rEqA K) := hK ▸ OpR.or' op_eq (op_eqD hu)
theorem k_ne {X : Cx} (hK : X.K = K) (hu : X.A.units + 64 < cLine) : OpR X (compareOp .NotEq) (rNeA K) := hK ▸ OpR.or' op_ne (op_neD hu)
def aEq (f : Bool → Bool) : D → D → Nat → (D → Nat → Prop) → Prop := fun d e n Q => match eqS d e with
  | some b => Q (.bl (f b)) n
  | none => (d.isD = true ∧ e.isD = true ∧ SeqAt.shaped d.pd = true ∧ SeqAt.shaped e.pd = true) ∧ Q (.bl (f (PyData.eqv d.pd e.pd))) n
instance : D2 K (rEqA K) (aEq id) := ⟨fun W n H x y d e Q Qa hQ o ax ay h => by
  unfold aEq at h
  split at h
  · rename_i b e
    obtain ⟨h1, h2⟩ := eqS_is ax ay e
    refine .inl ⟨h1, ?_⟩
    rw [h2]
    exact hQ.now o h (.bl _)
  · obtain ⟨⟨h1, h2, h3, h4⟩, h⟩ := h
    exact .inr ⟨_, _, At.dp d h1 ax, At.dp e h2 ay, h3, h4, hQ.now o h (.bl _)⟩⟩
instance : D2 K (rNeA K) (aEq not) := ⟨fun W n H x y d e Q Qa hQ o ax ay h => by
  unfold aEq at h
  split at h
  · rename_i b e
    obtain ⟨h1, h2⟩ := eqS_is ax ay e
    refine .inl ⟨h1, ?_⟩
    rw [h2]
    exact hQ.now o h (.bl _)
  · obtain ⟨⟨h1, h2, h3, h4⟩, h⟩ := h
    exact .inr ⟨_, _, At.dp d h1 ax, At.dp e h2 ay, h3, h4, hQ.now o h (.bl _)⟩⟩
/-! is None -/
def rIsN : R2 := fun x y H Q => y = .non ∧ Q (.bl (decide (x = .non))) H
def rNotN : R2 := fun x y H Q => y = .non ∧ Q (.bl (!decide (x = .non))) H
theorem k_isN {X : Cx} : OpR X (compareOp .Is) rIsN := op_isN
theorem k_notN {X : Cx} : OpR X (compareOp .IsNot) rNotN := op_notN
def D.isN : D → Bool
  | .non => true
  | _ => false
def aIsN (f : Bool → Bool) : D → D → Nat → (D → Nat → Prop) → Prop
  | d, .non, n, Q => Q (.bl (f d.isN)) n
  | _, _, _, _ => False
theorem isN_is {W : Wd} {H : Hp} {x : V} {d : D} (ax : At K W H x d) : decide (x = .non) = d.isN := by
  cases ax <;> rfl
instance : D2 K rIsN (aIsN id) := ⟨fun W n H x y d e Q Qa hQ o ax ay h => by
  unfold aIsN at h
  split at h
  · cases ay
    refine ⟨rfl, ?_⟩
    rw [isN_is ax]
    exact hQ.now o h (.bl _)
  · exact h.elim⟩
instance : D2 K rNotN (aIsN not) := ⟨fun W n H x y d e Q Qa hQ o ax ay h => by
  unfold aIsN at h
  split at h
  · cases ay
    refine ⟨rfl, ?_⟩
    rw [isN_is ax]
    exact hQ.now o h (.bl _)
  · exact h.elim⟩
/-! built-in functions -/
def rLen (K : PySem.W.Frag) : List V → Hp → VK → Prop := fun xs H Q => ∃ x n, xs = [x] ∧ LenV K x H n ∧ Q (.int n) H
theorem k_len {X : Cx} (hK : X.K = K) : CallR X (.builtin "len") (rLen K) := hK ▸ call_len
def aLen : List D → Nat → (D → Nat → Prop) → Prop
  | [.tup ds], n, Q => Q (.int ds.length) n
  | [.lst ds], n, Q => Q (.int ds.length) n
  | [.str z], n, Q => z.length ≤ 1000000 ∧ Q (.int z.length) n
  | _, _, _ => False
instance : DL K (rLen K) aLen := ⟨fun W n H xs ds Q Qa hQ o a h => by
  unfold aLen at h
  split at h
  · cases a with
    | cons a r =>
      cases r
      cases a with
      | tup s a => exact ⟨_, _, rfl, .inr ⟨_, s, rfl⟩, by rw [a.length]; exact hQ.now o h (.int _)⟩
  · cases a with
    | cons a r =>
      cases r
      cases a with
      | lst _ s a => exact ⟨_, _, rfl, .inl ⟨_, SqL.of s, rfl⟩, by rw [a.length]; exact hQ.now o h (.int _)⟩
  · cases a with
    | cons a r =>
      cases r
      cases a
      exact ⟨_, _, rfl, ⟨Nat.le_trans h.1 lim, rfl⟩, hQ.now o h.2 (.int _)⟩
  · exact h.elim⟩
def rAbs : List V → Hp → VK → Prop := fun xs H Q => ∃ i, xs = [.int i] ∧ Q (.int (if i < 0 then -i else i)) H
theorem k_abs {X : Cx} : CallR X (.builtin "abs") rAbs := call_abs
def aAbs : List D → Nat → (D → Nat → Prop) → Prop
  | [.int i], n, Q => Q (.int (if i < 0 then -i else i)) n
  | _, _, _ => False
instance : DL K rAbs aAbs := ⟨fun W n H xs ds Q Qa hQ o a h => by
  unfold aAbs at h
  split at h
  · cases a with
    | cons a r =>
      cases r
      cases a
      exact ⟨_, rfl, hQ.now o h (.int _)⟩
  · exact h.elim⟩
def rMax2 : List V → Hp → VK → Prop := fun xs H Q => ∃ i j, xs = [.int i, .int j] ∧ Q (.int (if j > i then j else i)) H
def rMin2 : List V → Hp → VK → Prop := fun xs H Q => ∃ i j, xs = [.int i, .int j] ∧ Q (.int (if j < i then j else i)) H
theorem k_max2 {X : Cx} (hc : X.calm = true) : CallR X (.builtin "max") rMax2 := call_max2 hc
theorem k_min2 {X : Cx} (hc : X.calm = true) : CallR X (.builtin "min") rMin2 := call_min2 hc
def aMM (g : Int → Int → Int) : List D → Nat → (D → Nat → Prop) → Prop
  | [.int i, .int j], n, Q => Q (.int (g i j)) n
  | _, _, _ => False
instance : DL K rMax2 (aMM fun i j => if j > i then j else i) := ⟨fun W n H xs ds Q Qa hQ o a h => by
  unfold aMM at h
  split at h
  · cases a with
    | cons a r =>
      cases r with
      | cons b r =>
        cases r
        cases a
        cases b
        exact ⟨_, _, rfl, hQ.now o h (.int _)⟩
  · exact h.elim⟩
instance : DL K rMin2 (aMM fun i j => if j < i then j else i) := ⟨fun W n H xs ds Q Qa hQ o a h => by
  unfold aMM at h
  split at h
  · cases a with
    | cons a r =>
      cases r with
      | cons b r =>
        cases r
        cases a
        cases b
        exact ⟨_, _, rfl, hQ.now o h (.int _)⟩
  · exact h.elim⟩
def rListOf (K : PySem.W.Frag) : List V → Hp → VK → Prop := fun xs H Q => ∃ p ys, xs = [.ref p] ∧ (SqL K H p ys ∨ SqT K H p ys) ∧ ∀ l, H l = none → Q (.ref l) (upd H l (.lst ys))
def rTupOf (K : PySem.W.Frag) : List V → Hp → VK → Prop := fun xs H Q => ∃ p ys, xs = [.ref p] ∧ ((SqL K H p ys ∧ ∀ l, H l = none → Q (.ref l) (upd H l (.tup ys))) ∨ (SqT K H p ys ∧ Q (.ref p) H))
theorem k_list {X : Cx} (hK : X.K = K) : CallR X (.type "list") (rListOf K) := hK ▸ call_list_of
theorem k_tuple {X : Cx} (hK : X.K = K) : CallR X (.type "tuple") (rTupOf K) := hK ▸ call_tuple_of
def aListOf : List D → Nat → (D → Nat → Prop) → Prop
  | [.tup ds], n, Q => Q (.lst ds) n
  | [.lst ds], n, Q => Q (.lst ds) n
  | _, _, _ => False
def aTupOf : List D → Nat → (D → Nat → Prop) → Prop
  | [.tup ds], n, Q => Q (.tup ds) n
  | [.lst ds], n, Q => Q (.tup ds) n
  | _, _, _ => False
instance : DL K (rListOf K) aListOf := ⟨fun W n H xs ds Q Qa hQ o a h => by
  unfold aListOf at h
  split at h
  · cases a with
    | cons a r =>
      cases r
      cases a with
      | tup s a => exact ⟨_, _, rfl, .inr s, fun p hp => hQ.new o h hp (.lst (o.fresh hp) upd_same (AtAll.le o (Wd.le_same (same_upd hp)) _ a))⟩
  · cases a with
    | cons a r =>
      cases r
      cases a with
      | lst _ s a => exact ⟨_, _, rfl, .inl (SqL.of s), fun p hp => hQ.new o h hp (.lst (o.fresh hp) upd_same (AtAll.le o (Wd.le_same (same_upd hp)) _ a))⟩
  · exact h.elim⟩
instance : DL K (rTupOf K) aTupOf := ⟨fun W n H xs ds Q Qa hQ o a h => by
  unfold aTupOf at h
  split at h
  · cases a with
    | cons a r =>
      cases r
      cases a with
      | tup s a => exact ⟨_, _, rfl, .inr ⟨s, hQ.now o h (.tup s a)⟩⟩
  · cases a with
    | cons a r =>
      cases r
      cases a with
      | lst _ s a => exact ⟨_, _, rfl, .inl ⟨SqL.of s, fun p hp => hQ.new o h hp (.tup (.inl (.inl upd_same)) (AtAll.le o (Wd.le_same (same_upd hp)) _ a))⟩⟩
  · exact h.elim⟩
/-! isinstance -/
def D.tv : D → Option Ty
  | .non => some .non | .bl _ => some .bl | .int _ => some .int | .str _ => some .str | .tup _ => some .tup | .lst _ => some .lst | .dic _ _ => some .dic
  | _ => none
def isiB : Ty → Ty → Bool
  | .non, .non => true | .bl, .bl => true | .bl, .int => true | .int, .int => true | .str, .str => true | .tup, .tup => true | .lst, .lst => true | .dic, .dic => true
  | _, _ => false
theorem kitB_is (a b : Ty) (h : b ≠ .non) : kitB a.nm b.nm = some (isiB a b) := by
  cases a <;> cases b <;> first
    | exact absurd rfl h
    | decide +kernel
theorem tv_is {W : Wd} {H : Hp} {x : V} {d : D} {t : Ty} (ax : At K W H x d) (e : d.tv = some t) : TyX K H x (.type t.nm) := by
  cases ax <;> cases e
  · exact .base .non
  · exact .base (.bl _)
  · exact .base (.int _)
  · exact .base (.str _)
  · rename_i a xs ds s _
    rcases s with (h | ⟨o, h⟩) | ⟨o, its, n, h, hc, _⟩
    · exact .base (.tup h)
    · exact .fTuple h
    · exact .kTuple h hc
  · rename_i r s _
    exact .base (.lst s)
  · rename_i r s _ _
    exact .base (.dK s)
theorem k_isi {X : Cx} (hK : X.K = K) : CallR X (.builtin "isinstance") (rIsi K) := hK ▸ call_isi
/-- what isinstance asks of an own class -/
structure InsC (K : PySem.W.Frag) (C : Addr) : Prop where
  cl : Cls K C
  ha : PySem.W.findIn K (.ref C) "__class__" = some (some (.builtin "object.__class__"))
  hn : PySem.W.specialIn K (.builtin "object.__class__") "__get__" = some (some (.builtin "getset_descriptor.__get__"))
  ht : PySem.W.takesIn K (.builtin "object.__class__") = some true
  hm : PySem.W.mroIn K C (.type "object") = some true
def aIsi (K : PySem.W.Frag) : List D → Nat → (D → Nat → Prop) → Prop
  | [.ins C _ _, .ty t], n, Q => InsC K C ∧ ∃ b, PySem.W.kitOne K (.ref C) (.type t.nm) = some b ∧ Q (.bl b) n
  | [.ins C _ _, .cls c], n, Q => InsC K C ∧ ∃ b, PySem.W.kitOne K (.ref C) (.ref c) = some b ∧ Q (.bl b) n
  | [d, .cls c], n, Q => (match d.tv with
    | some t => ∃ b, PySem.W.kitOne K (.type t.nm) (.ref c) = some b ∧ Q (.bl b) n
    | none => False)
  | [d, .ty t], n, Q => (match d.tv, t with
    | some _, .non => False
    | some t', t => Q (.bl (isiB t' t)) n
    | none, _ => False)
  | _, _, _ => False
instance : DL K (rIsi K) (aIsi K) := ⟨fun W n H xs ds Q Qa hQ o a h => by
  unfold aIsi at h
  split at h
  · cases a with
    | cons a r =>
      cases r with
      | cons b r =>
        cases r
        cases b
        cases a with
        | ins s e a =>
          obtain ⟨ic, b, hk, h⟩ := h
          exact ⟨_, _, _, _, b, rfl, .ty _, .base (.ins s ic.cl ic.ha ic.hn ic.ht ic.hm), hk, hQ.now o h (.bl _)⟩
  · cases a with
    | cons a r =>
      cases r with
      | cons b r =>
        cases r
        cases b
        cases a with
        | ins s e a =>
          obtain ⟨ic, b, hk, h⟩ := h
          exact ⟨_, _, _, _, b, rfl, .own _, .base (.ins s ic.cl ic.ha ic.hn ic.ht ic.hm), hk, hQ.now o h (.bl _)⟩
  · cases a with
    | cons a r =>
      cases r with
      | cons b r =>
        cases r
        cases b
        split at h
        · rename_i t e
          obtain ⟨b, hk, h⟩ := h
          exact ⟨_, _, _, _, b, rfl, .own _, tv_is a e, hk, hQ.now o h (.bl _)⟩
        · exact h.elim
  · cases a with
    | cons a r =>
      cases r with
      | cons b r =>
        cases r
        cases b
        split at h
        · exact h.elim
        · rename_i t' e hne
          exact ⟨_, _, _, _, _, rfl, .ty _, tv_is a e, kit_ty (kitB_is _ _ (fun z => hne z)), hQ.now o h (.bl _)⟩
        · exact h.elim
  · exact h.elim⟩
/-! constants of the program's top, classes and types as values -/
def tKon (a : Addr) : TE := tC (.ref a)
def tCls (a : Addr) : TE := tC (.ref a)
def tTy (t : Ty) : TE := tC (.ty t.nm)
class Kon (K : PySem.W.Frag) (a : Addr) (d : outParam D) : Prop where
  at_ : ∀ W H, At K W H (.ref a) d
def aD (d : D) : AE := fun _ n Q => Q d n
instance {a : Addr} {d : D} [k : Kon K a d] : DE K (tKon a) (aD d) := ⟨fun W σ ρ n H Q Qa hQ hE o h => hQ.now o h (k.at_ W H)⟩
instance {a : Addr} : DE K (tCls a) (aD (.cls a)) := ⟨fun W σ ρ n H Q Qa hQ hE o h => hQ.now o h (.cls a)⟩
instance {t : Ty} : DE K (tTy t) (aD (.ty t)) := ⟨fun W σ ρ n H Q Qa hQ hE o h => hQ.now o h (.ty t)⟩
theorem k_kon {X : Cx} {x : Str} {a : Addr} {pos : Pos} (hg : Gl X x) (hm : X.mg x = some (.ref a)) (hd : (x == ("__debug__" : Str)) = false := by decide) : PE X (.Name x pos) (tKon a) := pe_glob (v := .ref a) hg hm rfl hd
theorem k_cls {X : Cx} {x : Str} {a : Addr} {pos : Pos} (hg : Gl X x) (hm : X.mg x = some (.ref a)) (hd : (x == ("__debug__" : Str)) = false := by decide) : PE X (.Name x pos) (tCls a) := pe_glob (v := .ref a) hg hm rfl hd
theorem k_ty {X : Cx} {x : Str} {t : Ty} {pos : Pos} (hg : Gl X x) (hm : X.mg x = none) (hv : bootBuiltins x = some (.type t.nm)) (hn : x ≠ "__name__" := by decide) (hd : (x == ("__debug__" : Str)) = false := by decide) : PE X (.Name x pos) (tTy t) := pe_bltn (v := .ty t.nm) hg hm hv rfl hn hd
/-! fields -/
def tFldK (K : PySem.W.Frag) (ta : TE) (f : Str) : TE := tFld K ta f
theorem k_fld {X : Cx} {e : Expr} {ta : TE} {f : Str} {pos : Pos} (hK : X.K = K) (he : PE X e ta) (hb : attributeBase e f X.env (eval e X.env) = eval e X.env) : PE X (.Attribute e f pos) (tFldK K ta f) := hK ▸ pe_fld he hb
def aFld (K : PySem.W.Frag) (f : Str) (fa : AE) : AE := fun ρ n Q => fa ρ n fun d n1 => match d with
  | .ins C ns ds => (Cls K C ∧ NoAttr K C f) ∧ ∃ d, (ns.zip ds).lookup f = some d ∧ Q d n1
  | _ => False
theorem lookup_at {W : Wd} {H : Hp} {f : Str} : ∀ {ns : List Str} {vs : List V} {ds : List D} {d : D}, AtAll K W H vs ds → (ns.zip ds).lookup f = some d → ∃ v, (ns.zip vs).lookup f = some v ∧ At K W H v d
  | [], _, _, _, _, e => by cases e
  | _ :: _, _, [], _, h, e => by cases h; cases e
  | x :: ns, _, d :: ds, d', h, e => by
    cases h with
    | cons a r =>
      rw [List.zip_cons_cons, List.lookup_cons] at e ⊢
      cases hb : f == x with
      | true =>
        rw [hb] at e
        cases e
        exact ⟨_, rfl, a⟩
      | false =>
        rw [hb] at e
        exact lookup_at r e
instance {f : Str} {ta : TE} {fa : AE} [DE K ta fa] : DE K (tFldK K ta f) (aFld K f fa) := ⟨fun W σ ρ n H Q Qa hQ hE o h =>
  DE.run (te := ta) (f := fa) W σ ρ n H _ _ (fun d n1 h1 H1 x l1 o1 ax => by
    split at h1
    · obtain ⟨⟨hc, hn⟩, d, e, q⟩ := h1
      cases ax with
      | ins s e' a =>
        obtain ⟨v, h1, h2⟩ := lookup_at a e
        exact ⟨_, _, _, _, v, rfl, s, hc, hn, h1, (hQ.le l1).now o1 q h2⟩
    · exact h1.elim) hE o h⟩
/-! slices of lists -/
def cutL (xs : List D) (lo hi : Option Int) : List D := (xs.drop (HT.sIx xs.length 0 lo)).take (HT.sIx xs.length xs.length hi - HT.sIx xs.length 0 lo)
class DO (K : PySem.W.Frag) (te : TO) (f : outParam (Env' → Nat → (Option Int → Nat → Prop) → Prop)) : Prop where
  run : ∀ (W : Wd) (σ : L2.St) (ρ : Env') (n : Nat) (H : Hp) (Q : Option Int → Hp → Prop) (Qa : Option Int → Nat → Prop), (∀ b n', Qa b n' → ∀ H', W.le H H' → W.ok K n' H' → Q b H') → EnvAt K W H σ ρ → W.ok K n H → f ρ n Qa → te σ H Q
def aNoPart : Env' → Nat → (Option Int → Nat → Prop) → Prop := fun _ n Q => Q none n
def aPart (f : AE) : Env' → Nat → (Option Int → Nat → Prop) → Prop := fun ρ n Q => f ρ n fun d n1 => match d with
  | .int i => Q (some i) n1
  | _ => False
instance : DO K tNoPart aNoPart := ⟨fun W σ ρ n H Q Qa hQ hE o h => hQ _ _ h H Wd.le_refl o⟩
instance {te : TE} {f : AE} [DE K te f] : DO K (tPart te) (aPart f) := ⟨fun W σ ρ n H Q Qa hQ hE o h =>
  DE.run (te := te) (f := f) W σ ρ n H _ _ (fun d n1 h1 H1 x l1 o1 ax => by
    split at h1
    · cases ax
      exact ⟨_, rfl, hQ _ _ h1 H1 l1 o1⟩
    · exact h1.elim) hE o h⟩
def rSlA (K : PySem.W.Frag) : V → Option Int → Option Int → Hp → VK → Prop := fun x lo hi H Q => rSlL K x lo hi H Q ∨ (fun x lo hi H Q => rSlT K x lo hi H Q ∨ rSlS x lo hi H Q) x lo hi H Q
def aCut (d : D) (l u : Option Int) (n : Nat) (Q : D → Nat → Prop) : Prop := match d with
  | .lst ds => Q (.lst (cutL ds l u)) n
  | .tup ds => ¬ (HT.sIx ds.length 0 l = 0 ∧ HT.sIx ds.length ds.length u = ds.length) ∧ Q (.tup (cutL ds l u)) n
  | .str z => z.length ≤ 1000000 ∧ Q (.str (cutS z l u)) n
  | _ => False
def aSl (fa : AE) (fl fu : Env' → Nat → (Option Int → Nat → Prop) → Prop) : AE := fun ρ n Q => fa ρ n fun d n1 => fl ρ n1 fun l n2 => fu ρ n2 fun u n3 => aCut d l u n3 Q
instance {te : TE} {tl tu : TO} {fa : AE} {fl fu : Env' → Nat → (Option Int → Nat → Prop) → Prop} [DE K te fa] [DO K tl fl] [DO K tu fu] : DE K (tSl (rSlA K) te tl tu) (aSl fa fl fu) := ⟨fun W σ ρ n H Q Qa hQ hE o h =>
  DE.run (te := te) (f := fa) W σ ρ n H _ _ (fun d n1 h1 H1 x l1 o1 ax => DO.run (te := tl) (f := fl) W σ ρ n1 H1 _ _ (fun l n2 h2 H2 l2 o2 => DO.run (te := tu) (f := fu) W σ ρ n2 H2 _ _ (fun u n3 h3 H3 l3 o3 => by
    have hQ3 := hQ.le (l1.trans (l2.trans l3))
    unfold aCut at h3
    split at h3
    · cases At.le o1 (l2.trans l3) _ ax with
      | lst r s a =>
        refine .inl ⟨_, _, rfl, SqL.of s, fun p hp => hQ3.new o3 h3 hp ?_⟩
        refine .lst (o3.fresh hp) upd_same ?_
        unfold cutV cutL
        rw [a.length]
        exact take_at _ (drop_at _ (AtAll.le o3 (Wd.le_same (same_upd hp)) _ a))
    · cases At.le o1 (l2.trans l3) _ ax with
      | tup s a =>
        refine .inr (.inl ⟨_, _, rfl, s, by rw [a.length]; exact h3.1, fun p hp => hQ3.new o3 h3.2 hp ?_⟩)
        refine .tup (.inl (.inl upd_same)) ?_
        unfold cutV cutL
        rw [a.length]
        exact take_at _ (drop_at _ (AtAll.le o3 (Wd.le_same (same_upd hp)) _ a))
    · cases ax
      exact .inr (.inr ⟨_, rfl, Nat.le_trans h3.1 lim, hQ3.now o3 h3.2 (.str _)⟩)
    · exact h3.elim) (hE.le o (l1.trans l2)) o2 h2) (hE.le o l1) o1 h1) hE o h⟩
theorem k_sl {X : Cx} (hK : X.K = K) : SlR X (rSlA K) := hK ▸ SlR.or sl_list (SlR.or sl_tup sl_str)
/-! texts and truths -/
def rJoin (K : PySem.W.Frag) : V → List V → Hp → VK → Prop := fun x xs H Q => ∃ a p, ∃ ys : List Str, x = .str a ∧ xs = [.ref p] ∧ (SqL K H p (ys.map V.str) ∨ SqT K H p (ys.map V.str)) ∧ (ys.map (·.length)).sum + ys.length * a.length ≤ 16777216 ∧ Q (.str (Txt.join a ys)) H
def tJoinK (K : PySem.W.Frag) (to te : TE) : TE := tM1 (rJoin K) to te
theorem k_join {X : Cx} {o e : Expr} {to te : TE} {apos pos : Pos} (hK : X.K = K) (ho : PE X o to) (he : PE X e te) (hs : starEach [e] X.env = [(false, eval e X.env)] := by rfl) (hbase : attributeBase o "join" X.env (eval o X.env) = eval o X.env := by rfl) (hline : (apos.endLine == pos.line) = true := by rfl) :
    PE X (.Call (.Attribute o "join" apos) [e] [] pos) (tJoinK K to te) := hK ▸ pe_join ho he hs hbase hline
def aJoin (fa fb : AE) : AE := fun ρ n Q => fa ρ n fun x n1 => match x with
  | .str a => fb ρ n1 fun y n2 => (match y with
    | .lst ds => ∃ ys : List Str, ds = ys.map D.str ∧ (ys.map (·.length)).sum + ys.length * a.length ≤ 16777216 ∧ Q (.str (Txt.join a ys)) n2
    | .tup ds => ∃ ys : List Str, ds = ys.map D.str ∧ (ys.map (·.length)).sum + ys.length * a.length ≤ 16777216 ∧ Q (.str (Txt.join a ys)) n2
    | _ => False)
  | _ => False
theorem strs_at {W : Wd} {H : Hp} : ∀ {ys : List Str} {vs : List V}, AtAll K W H vs (ys.map D.str) → vs = ys.map V.str
  | [], _, h => by cases h; rfl
  | y :: ys, _, h => by
    cases h with
    | cons a r => cases a; rw [List.map_cons, strs_at r]
theorem bls_at {W : Wd} {H : Hp} : ∀ {ys : List Bool} {vs : List V}, AtAll K W H vs (ys.map D.bl) → vs = ys.map V.bl
  | [], _, h => by cases h; rfl
  | y :: ys, _, h => by
    cases h with
    | cons a r => cases a; rw [List.map_cons, bls_at r]
theorem ints_at {W : Wd} {H : Hp} : ∀ {ys : List Int} {vs : List V}, AtAll K W H vs (ys.map D.int) → vs = ys.map V.int
  | [], _, h => by cases h; rfl
  | y :: ys, _, h => by
    cases h with
    | cons a r => cases a; rw [List.map_cons, ints_at r]
theorem at_ints {W : Wd} {H : Hp} : ∀ ys : List Int, AtAll K W H (ys.map V.int) (ys.map D.int)
  | [] => .nil
  | y :: ys => .cons (.int y) (at_ints ys)
theorem at_strs {W : Wd} {H : Hp} : ∀ ys : List Str, AtAll K W H (ys.map V.str) (ys.map D.str)
  | [] => .nil
  | y :: ys => .cons (.str y) (at_strs ys)
instance {to te : TE} {fa fb : AE} [DE K to fa] [DE K te fb] : DE K (tJoinK K to te) (aJoin fa fb) := ⟨fun W σ ρ n H Q Qa hQ hE o h =>
  DE.run (te := to) (f := fa) W σ ρ n H _ _ (fun d n1 h1 H1 x l1 o1 ax => by
    cases ax with
    | str a =>
      refine ⟨⟨_, rfl⟩, DE.run (te := te) (f := fb) W σ ρ n1 H1 _ _ (fun e n2 h2 H2 y l2 o2 ay => ?_) (hE.le o l1) o1 h1⟩
      cases ay with
      | lst r s b =>
        obtain ⟨ys, rfl, hl, q⟩ := h2
        rw [strs_at b] at s
        exact ⟨_, _, ys, rfl, rfl, .inl (SqL.of s), hl, (hQ.le (l1.trans l2)).now o2 q (.str _)⟩
      | tup s b =>
        obtain ⟨ys, rfl, hl, q⟩ := h2
        rw [strs_at b] at s
        exact ⟨_, _, ys, rfl, rfl, .inr s, hl, (hQ.le (l1.trans l2)).now o2 q (.str _)⟩
      | _ => exact h2.elim
    | _ => exact h1.elim) hE o h⟩
/-! int(..), str(..) of a number -/
def rInt : List V → Hp → VK → Prop := fun xs H Q => (∃ i, xs = [.int i] ∧ Q (.int i) H) ∨ ∃ k, xs = [.bl k] ∧ Q (.int (if k then 1 else 0)) H
theorem k_int {X : Cx} : CallR X (.type "int") rInt := call_int1
def aInt : List D → Nat → (D → Nat → Prop) → Prop
  | [.int i], n, Q => Q (.int i) n
  | [.bl b], n, Q => Q (.int (if b then 1 else 0)) n
  | _, _, _ => False
instance : DL K rInt aInt := ⟨fun W n H xs ds Q Qa hQ o a h => by
  unfold aInt at h
  split at h
  · cases a with
    | cons a r =>
      cases r
      cases a
      exact .inl ⟨_, rfl, hQ.now o h (.int _)⟩
  · cases a with
    | cons a r =>
      cases r
      cases a
      exact .inr ⟨_, rfl, hQ.now o h (.int _)⟩
  · exact h.elim⟩
def rStr : List V → Hp → VK → Prop := fun xs H Q => ∃ i, xs = [.int i] ∧ i.natAbs.log2 < 1920 ∧ Q (.str (toString i)) H
theorem k_str {X : Cx} : CallR X (.type "str") rStr := call_str_int
def aStr : List D → Nat → (D → Nat → Prop) → Prop
  | [.int i], n, Q => i.natAbs.log2 < 1920 ∧ Q (.str (toString i)) n
  | _, _, _ => False
instance : DL K rStr aStr := ⟨fun W n H xs ds Q Qa hQ o a h => by
  unfold aStr at h
  split at h
  · cases a with
    | cons a r =>
      cases r
      cases a
      exact ⟨_, rfl, h.1, hQ.now o h.2 (.str _)⟩
  · exact h.elim⟩
/-! all, any, sum, max, min of a list -/
theorem k_all {X : Cx} (hK : X.K = K) (hc : X.calm = true) : CallR X (.builtin "all") (rAll K) := hK ▸ cr_all hc
theorem k_any {X : Cx} (hK : X.K = K) (hc : X.calm = true) : CallR X (.builtin "any") (rAny K) := hK ▸ cr_any hc
theorem k_sum {X : Cx} (hK : X.K = K) (hc : X.calm = true) : CallR X (.builtin "sum") (rSum K) := hK ▸ cr_sum hc
theorem k_max1 {X : Cx} (hK : X.K = K) (hc : X.calm = true) : CallR X (.builtin "max") (rMax K) := hK ▸ cr_max hc
theorem k_min1 {X : Cx} (hK : X.K = K) (hc : X.calm = true) : CallR X (.builtin "min") (rMin K) := hK ▸ cr_min hc
def aBools (g : List Bool → Bool) : List D → Nat → (D → Nat → Prop) → Prop := fun ds n Q => ∃ bs : List Bool, ds = [.lst (bs.map D.bl)] ∧ Q (.bl (g bs)) n
instance : DL K (rAll K) (aBools fun bs => bs.all id) := ⟨fun W n H xs ds Q Qa hQ o a h => by
  obtain ⟨bs, rfl, q⟩ := h
  cases a with
  | cons a r =>
    cases r
    cases a with
    | lst _ s b => rw [bls_at b] at s; exact ⟨_, bs, rfl, SqL.of s, hQ.now o q (.bl _)⟩⟩
instance : DL K (rAny K) (aBools fun bs => bs.any id) := ⟨fun W n H xs ds Q Qa hQ o a h => by
  obtain ⟨bs, rfl, q⟩ := h
  cases a with
  | cons a r =>
    cases r
    cases a with
    | lst _ s b => rw [bls_at b] at s; exact ⟨_, bs, rfl, SqL.of s, hQ.now o q (.bl _)⟩⟩
def aSum : List D → Nat → (D → Nat → Prop) → Prop := fun ds n Q => ∃ ns : List Int, ds = [.lst (ns.map D.int)] ∧ Q (.int ns.sum) n
instance : DL K (rSum K) aSum := ⟨fun W n H xs ds Q Qa hQ o a h => by
  obtain ⟨ns, rfl, q⟩ := h
  cases a with
  | cons a r =>
    cases r
    cases a with
    | lst _ s b => rw [ints_at b] at s; exact ⟨_, ns, rfl, SqL.of s, hQ.now o q (.int _)⟩⟩
def aMax1 : List D → Nat → (D → Nat → Prop) → Prop := fun ds n Q => ∃ ns : List Int, ds = [.lst (ns.map D.int)] ∧ 0 < ns.length ∧ ∀ m, m ∈ ns → (∀ y, y ∈ ns → y ≤ m) → Q (.int m) n
def aMin1 : List D → Nat → (D → Nat → Prop) → Prop := fun ds n Q => ∃ ns : List Int, ds = [.lst (ns.map D.int)] ∧ 0 < ns.length ∧ ∀ m, m ∈ ns → (∀ y, y ∈ ns → m ≤ y) → Q (.int m) n
instance : DL K (rMax K) aMax1 := ⟨fun W n H xs ds Q Qa hQ o a h => by
  obtain ⟨ns, rfl, hl, q⟩ := h
  cases a with
  | cons a r =>
    cases r
    cases a with
    | lst _ s b => rw [ints_at b] at s; exact ⟨_, ns, rfl, SqL.of s, hl, fun m h1 h2 => hQ.now o (q m h1 h2) (.int _)⟩⟩
instance : DL K (rMin K) aMin1 := ⟨fun W n H xs ds Q Qa hQ o a h => by
  obtain ⟨ns, rfl, hl, q⟩ := h
  cases a with
  | cons a r =>
    cases r
    cases a with
    | lst _ s b => rw [ints_at b] at s; exact ⟨_, ns, rfl, SqL.of s, hl, fun m h1 h2 => hQ.now o (q m h1 h2) (.int _)⟩⟩
/-! x in xs -/
def flatD : D → Bool
  | .non => true | .bl _ => true | .int _ => true | .str _ => true
  | _ => false
def eqF : D → D → Bool
  | .non, .non => true | .bl a, .bl b => a == b | .bl a, .int b => (if a then 1 else 0) == b | .int a, .bl b => a == (if b then 1 else 0) | .int a, .int b => a == b | .str a, .str b => a == b
  | _, _ => false
theorem flat_at {W : Wd} {H : Hp} {v : V} {d : D} (a : At K W H v d) (h : flatD d = true) : flatV v = true := by
  cases a <;> first | rfl | cases h
theorem eqF_at {W : Wd} {H : Hp} {v u : V} {d e : D} (a : At K W H v d) (b : At K W H u e) (h : flatD d = true) (g : flatD e = true) : eqV v u = eqF d e := by
  cases a <;> first
    | cases h; done
    | (cases b <;> first | rfl | cases g; done)
theorem flats_at {W : Wd} {H : Hp} : ∀ {ds : List D} {vs : List V}, AtAll K W H vs ds → ds.all flatD = true → vs.all flatV = true
  | [], _, h, _ => by cases h; rfl
  | d :: ds, _, h, g => by
    cases h with
    | cons a r =>
      rw [List.all_cons, Bool.and_eq_true] at g ⊢
      exact ⟨flat_at a g.1, flats_at r g.2⟩
theorem in_at {W : Wd} {H : Hp} {u : V} {e : D} (b : At K W H u e) (g : flatD e = true) : ∀ {ds : List D} {vs : List V}, AtAll K W H vs ds → ds.all flatD = true → inV u vs = ds.any fun d => eqF d e
  | [], _, h, _ => by cases h; rfl
  | d :: ds, _, h, g' => by
    cases h with
    | cons a r =>
      rw [List.all_cons, Bool.and_eq_true] at g'
      have ih := in_at b g r g'.2
      unfold inV at ih ⊢
      rw [List.any_cons, List.any_cons, ih, eqF_at a b g'.1 g]
def rInA (K : PySem.W.Frag) (neg : Bool) : R2 := rIn K neg
theorem k_in {X : Cx} (hK : X.K = K) (_ : X.A.units + 64 < cLine) : OpR X (compareOp .In) (rInA K false) := hK ▸ op_in_seq
theorem k_notin {X : Cx} (hK : X.K = K) (_ : X.A.units + 64 < cLine) : OpR X (compareOp .NotIn) (rInA K true) := hK ▸ op_notIn_seq
def aIn (neg : Bool) : D → D → Nat → (D → Nat → Prop) → Prop
  | d, .lst ds, n, Q => flatD d = true ∧ ds.all flatD = true ∧ Q (.bl (if neg then !(ds.any fun x => eqF x d) else ds.any fun x => eqF x d)) n
  | d, .tup ds, n, Q => flatD d = true ∧ ds.all flatD = true ∧ Q (.bl (if neg then !(ds.any fun x => eqF x d) else ds.any fun x => eqF x d)) n
  | _, _, _, _ => False
instance {neg : Bool} : D2 K (rInA K neg) (aIn neg) := ⟨fun W n H x y d e Q Qa hQ o ax ay h => by
  unfold aIn at h
  split at h
  · obtain ⟨h1, h2, q⟩ := h
    cases ay with
    | lst r s a => exact ⟨_, _, rfl, .inl (SqL.of s), flat_at ax h1, flats_at a h2, by rw [in_at ax h1 a h2]; exact hQ.now o q (.bl _)⟩
  · obtain ⟨h1, h2, q⟩ := h
    cases ay with
    | tup s a => exact ⟨_, _, rfl, .inr s, flat_at ax h1, flats_at a h2, by rw [in_at ax h1 a h2]; exact hQ.now o q (.bl _)⟩
  · exact h.elim⟩
end

/-! ### the mirror, third part: targets, what is walked, statements -/
section
variable {K : PySem.W.Frag}
/-! targets -/
abbrev Upd (K : PySem.W.Frag) (W : Wd) (H : Hp) : List (Nat × V) → List (Nat × D) → Prop := Paired fun z u => z.1 = u.1 ∧ At K W H z.2 u.2
def setAll : L2.St → List (Nat × V) → L2.St
  | σ, [] => σ
  | σ, z :: r => setAll (σ.set z.1 (some z.2)) r
def eSetAll : Env' → List (Nat × D) → Env'
  | ρ, [] => ρ
  | ρ, u :: r => eSetAll (eSet ρ u.1 (some u.2)) r
theorem setAll_append : ∀ (σ : L2.St) (a b : List (Nat × V)), setAll σ (a ++ b) = setAll (setAll σ a) b
  | σ, [], b => rfl
  | σ, z :: r, b => setAll_append (σ.set z.1 (some z.2)) r b
theorem paired_append {α β : Type} {F : α → β → Prop} : ∀ {l l' : List α} {m m' : List β}, Paired F l m → Paired F l' m' → Paired F (l ++ l') (m ++ m')
  | _, _, _, _, .nil, h => h
  | _, _, _, _, .cons a r, h => .cons a (paired_append r h)
class DG (K : PySem.W.Frag) (g : TG) (f : outParam (D → Option (List (Nat × D)))) : Prop where
  run : ∀ (W : Wd) (σ : L2.St) (H : Hp) (v : V) (d : D) (us : List (Nat × D)) (Q : L2.St → Hp → Prop), At K W H v d → f d = some us → (∀ zs, Upd K W H zs us → Q (setAll σ zs) H) → g v σ H Q
class DGs (K : PySem.W.Frag) (g : TGs) (f : outParam (List D → Option (List (Nat × D)))) : Prop where
  run : ∀ (W : Wd) (σ : L2.St) (H : Hp) (vs : List V) (ds : List D) (us : List (Nat × D)) (Q : L2.St → Hp → Prop), AtAll K W H vs ds → f ds = some us → (∀ zs, Upd K W H zs us → Q (setAll σ zs) H) → g vs σ H Q
def aName (i : Nat) : D → Option (List (Nat × D)) := fun d => some [(i, d)]
instance {i : Nat} : DG K (gName i) (aName i) := ⟨fun W σ H v d us Q a e h => by
  cases e
  exact h [(i, v)] (.cons ⟨rfl, a⟩ .nil)⟩
def aGNil : List D → Option (List (Nat × D))
  | [] => some []
  | _ => none
def aGCons (f : D → Option (List (Nat × D))) (g : List D → Option (List (Nat × D))) : List D → Option (List (Nat × D))
  | d :: r => (match f d, g r with
    | some a, some b => some (a ++ b)
    | _, _ => none)
  | [] => none
instance : DGs K gNil aGNil := ⟨fun W σ H vs ds us Q a e h => by
  cases a with
  | nil => cases e; exact ⟨rfl, h [] .nil⟩
  | cons _ _ => cases e⟩
instance {t : TG} {u : TGs} {f : D → Option (List (Nat × D))} {g : List D → Option (List (Nat × D))} [DG K t f] [DGs K u g] : DGs K (gCons t u) (aGCons f g) := ⟨fun W σ H vs ds us Q a e h => by
  cases a with
  | nil => cases e
  | @cons v vs d ds a r =>
    unfold aGCons at e
    cases e1 : f d with
    | none => simp only [e1] at e; cases e
    | some x =>
      cases e2 : g ds with
      | none => simp only [e1, e2] at e; cases e
      | some y =>
        simp only [e1, e2] at e
        cases e
        refine ⟨_, _, rfl, DG.run (g := t) (f := f) W σ H _ _ x _ a e1 fun zs hz => ?_⟩
        refine DGs.run (g := u) (f := g) W (setAll σ zs) H _ _ y _ r e2 fun ws hw => ?_
        rw [← setAll_append]
        exact h _ (paired_append hz hw)⟩
def gTupK (K : PySem.W.Frag) (k : Nat) (t : TGs) : TG := gTup K k t
theorem k_gtup {X : Cx} {es : List Expr} {k : Nat} {t : TGs} {pos : Pos} {m : Nat} (hK : X.K = K) (hc : X.calm = true) (h : PGs X es t)
    (hn : (assignEach es X.env).length = m := by rfl) (hst : (assignEach es X.env).findIdx? (·.1) = none := by rfl) : PG X (.Tuple es k pos) (gTupK K m t) := hK ▸ pg_tup hc h hn hst
def aGTup (k : Nat) (g : List D → Option (List (Nat × D))) : D → Option (List (Nat × D))
  | .tup ds => (match Nat.beq ds.length k with
    | true => g ds
    | false => none)
  | _ => none
instance {k : Nat} {t : TGs} {g : List D → Option (List (Nat × D))} [DGs K t g] : DG K (gTupK K k t) (aGTup k g) := ⟨fun W σ H v d us Q a e h => by
  unfold aGTup at e
  split at e
  · split at e
    · rename_i hb
      cases a with
      | tup s a => exact ⟨_, _, rfl, s, by rw [a.length]; exact Nat.eq_of_beq_eq_true hb, DGs.run (g := t) (f := g) W σ H _ _ us Q a e h⟩
    · cases e
  · cases e⟩
theorem wipe_set {σ : L2.St} {i : Nat} {v : Option V} : ∀ {vs : List Nat}, i ∈ vs → wipe (σ.set i v) vs = wipe σ vs
  | [], h => by cases h
  | w :: vs, h => by
    show (wipe (σ.set i v) vs).set w none = (wipe σ vs).set w none
    by_cases hi : i ∈ vs
    · rw [wipe_set hi]
    · have e : i = w := by
        rcases List.mem_cons.mp h with z | z
        · exact z
        · exact absurd z hi
      subst e
      have : ∀ us : List Nat, i ∉ us → wipe (σ.set i v) us = (wipe σ us).set i v := fun us => by
        induction us with
        | nil => intro _; rfl
        | cons u us ih =>
          intro hn
          show (wipe (σ.set i v) us).set u none = ((wipe σ us).set u none).set i v
          rw [ih (fun z => hn (List.mem_cons_of_mem _ z)), List.set_comm _ _ (fun z => hn (by rw [z]; exact List.mem_cons_self))]
      rw [this vs hi, List.set_set]
theorem wipe_setAll {vs : List Nat} : ∀ {zs : List (Nat × V)} {σ : L2.St}, (∀ z ∈ zs, z.1 ∈ vs) → wipe (setAll σ zs) vs = wipe σ vs
  | [], _, _ => rfl
  | z :: r, σ, h => by
    show wipe (setAll (σ.set z.1 (some z.2)) r) vs = _
    rw [wipe_setAll fun y hy => h y (List.mem_cons_of_mem _ hy), wipe_set (h z List.mem_cons_self)]
theorem upd_slots {W : Wd} {H : Hp} {p : Nat → Prop} : ∀ {zs : List (Nat × V)} {us : List (Nat × D)}, Upd K W H zs us → (∀ u ∈ us, p u.1) → ∀ z ∈ zs, p z.1
  | _, _, .nil, _, z, h => by cases h
  | _, _, .cons ⟨e, _⟩ r, hu, z, h => by
    rcases List.mem_cons.mp h with rfl | h
    · rw [e]
      exact hu _ List.mem_cons_self
    · exact upd_slots r (fun u hu' => hu u (List.mem_cons_of_mem _ hu')) z h
theorem EnvAt.setAll {W : Wd} {H : Hp} : ∀ {zs : List (Nat × V)} {us : List (Nat × D)} {σ : L2.St} {ρ : Env'}, EnvAt K W H σ ρ → Upd K W H zs us → EnvAt K W H (setAll σ zs) (eSetAll ρ us)
  | _, _, _, _, h, .nil => h
  | _, _, _, _, h, .cons (a := (i, v)) (b := (j, d)) ⟨e, a⟩ r => by
    cases (show i = j from e)
    have := EnvAt.setAll (h.set (i := i) a) r
    exact this
/-! what is walked -/
def Walks (K : PySem.W.Frag) (W : Wd) (J : It) (H : Hp) (ds : List D) : Prop := ∀ (W' : Wd), (∀ a, W'.rs a → ¬ W.rs a → H a = none) → W'.dk = W.dk → ∀ (H2 : Hp) (n2 : Nat), W'.le H H2 → W'.ok K n2 H2 → ∀ i : Nat,
  (∀ d, ds[i]? = some d → J.go i H2 ∧ ∀ x H3, J.yld i H2 x H3 → Same H2 H3 ∧ At K W' H3 x d) ∧ (ds.length ≤ i → J.stop i H2)
abbrev AI := Env' → Nat → (List D → Nat → Prop) → Prop
class DI (K : PySem.W.Frag) (wi : TI) (f : outParam AI) : Prop where
  run : ∀ (W : Wd) (σ : L2.St) (ρ : Env') (n : Nat) (H : Hp) (R : It → Hp → Prop) (Qa : List D → Nat → Prop), (∀ ds n', Qa ds n' → ∀ J H', W.le H H' → W.ok K n' H' → Walks K W J H' ds → R J H') → EnvAt K W H σ ρ → W.ok K n H → f ρ n Qa → wi σ H R
theorem Wd.ok.lk' {W W' : Wd} {H : Hp} {n : Nat} (o : W.ok K n H) (hr : ∀ a, W'.rs a → ¬ W.rs a → H a = none) : W'.lk H := fun a r ob e => by
  by_cases hw : W.rs a
  · exact o.lk a hw ob e
  · rw [hr a r hw] at e
    cases e
def iAny (K : PySem.W.Frag) (tl : TE) : TI := fun σ H R => tl σ H fun x H1 => ∃ a, x = .ref a ∧ (((∃ xs, SqL K H1 a xs) ∧ R (Itl K a) H1) ∨ ((∃ xs, SqT K H1 a xs) ∧ R (Itt K a) H1))
theorem k_iter {X : Cx} {tg l : Expr} {tl : TE} (hK : X.K = K) (hl : PE X l tl) : PI X tg l (iAny K tl) := by
  subst hK
  refine ⟨fun pins s σ H R I h => ?_⟩
  refine thn (hl.run pins s σ H _ I h) fun v s1 ⟨x, H1, I1, r1, q1⟩ => ?_
  obtain ⟨a, e, q1⟩ := q1
  subst e
  cases r1
  rcases q1 with ⟨⟨xs, hq⟩, q⟩ | ⟨⟨xs, hq⟩, q⟩
  · obtain ⟨its, rv, p, hz⟩ := I1.list hq
    refine wpAny_pyIter_list p.isList ?_
    refine ⟨s1.heap.objs.size, [s1.heap.objs.size], _, _, H1, rfl, I1.kept (t' := s1.toks) fun b o e => Heap.get?_push_of_some _ e, turn_list a _, ⟨_, Heap.get?_push_size _ rfl, rfl, rfl⟩, fun b hb => ?_, q⟩
    have e : b = s1.heap.objs.size := by simpa using hb
    subst e
    exact I1.fpOk (Nat.le_refl _) (I1.hok.fresh (Nat.le_refl _))
  · obtain ⟨its, rv, p, hz⟩ := I1.tuple hq
    refine wpAny_pyIter_tuple (show s1.heap.IsTuple a its.toArray from p) ?_
    refine ⟨s1.heap.objs.size, [s1.heap.objs.size], _, _, H1, rfl, I1.kept (t' := s1.toks) fun b o e => Heap.get?_push_of_some _ e, turn_tuple a _, ⟨_, Heap.get?_push_size _ rfl, rfl, rfl⟩, fun b hb => ?_, q⟩
    have e : b = s1.heap.objs.size := by simpa using hb
    subst e
    exact I1.fpOk (Nat.le_refl _) (I1.hok.fresh (Nat.le_refl _))
def aIter (f : AE) : AI := fun ρ n Q => f ρ n fun d n1 => match d with
  | .tup ds => Q ds n1
  | .lst ds => Q ds n1
  | _ => False
instance {tl : TE} {f : AE} [DE K tl f] : DI K (iAny K tl) (aIter f) := ⟨fun W σ ρ n H R Qa hQ hE o h =>
  DE.run (te := tl) (f := f) W σ ρ n H _ _ (fun d n1 h1 H1 x l1 o1 ax => by
    split at h1
    · cases ax with
      | tup s a =>
        refine ⟨_, rfl, .inr ⟨⟨_, s⟩, hQ _ _ h1 _ H1 l1 o1 fun W' hr hd H2 n2 l2 o2 i => ?_⟩⟩
        have s2 := sqt_lk (o1.lk' hr) l2 s
        refine ⟨fun d hd' => ?_, fun hi => ⟨_, s2, by rw [a.length]; exact hi⟩⟩
        obtain ⟨v, e1, e2⟩ := a.get hd'
        refine ⟨⟨_, v, s2, e1⟩, fun x H3 ⟨e3, e4⟩ => ?_⟩
        subst e3
        have := e4 _ s2
        rw [e1] at this
        cases this
        exact ⟨Same.refl _, At.lk (o1.lk' hr) l2 _ (At.ext hr hd _ e2)⟩
    · cases ax with
      | lst r s a =>
        refine ⟨_, rfl, .inl ⟨⟨_, SqL.of s⟩, hQ _ _ h1 _ H1 l1 o1 fun W' hr hd H2 n2 l2 o2 i => ?_⟩⟩
        have s2 : SqL K H2 _ _ := SqL.of (l2 _ _ (fun z => by rw [hr _ z r] at s; cases s) s)
        refine ⟨fun d hd' => ?_, fun hi => ⟨_, s2, by rw [a.length]; exact hi⟩⟩
        obtain ⟨v, e1, e2⟩ := a.get hd'
        refine ⟨⟨_, v, s2, e1⟩, fun x H3 ⟨e3, e4⟩ => ?_⟩
        subst e3
        have := e4 _ s2
        rw [e1] at this
        cases this
        exact ⟨Same.refl _, At.lk (o1.lk' hr) l2 _ (At.ext hr hd _ e2)⟩
    · exact h1.elim) hE o h⟩
def rangeD (lo : Int) : Nat → List D
  | 0 => []
  | k + 1 => .int lo :: rangeD (lo + 1) k
theorem rangeD_length (lo : Int) : ∀ k, (rangeD lo k).length = k
  | 0 => rfl
  | k + 1 => by rw [rangeD, List.length_cons, rangeD_length]
theorem rangeD_get : ∀ {lo : Int} {k i : Nat} {d : D}, (rangeD lo k)[i]? = some d → i < k ∧ d = .int (lo + i)
  | lo, 0, i, d, h => by cases h
  | lo, k + 1, 0, d, h => by
    cases h
    exact ⟨Nat.succ_pos _, by rw [Int.natCast_zero, Int.add_zero]⟩
  | lo, k + 1, i + 1, d, h => by
    obtain ⟨h1, h2⟩ := rangeD_get (lo := lo + 1) (k := k) (i := i) h
    refine ⟨Nat.succ_lt_succ h1, ?_⟩
    rw [h2]
    congr 1
    omega
def aRange1 (g : AA) : AI := fun ρ n Q => g ρ n fun ds n1 => match ds with
  | [.int j] => (-(2 ^ 62) ≤ j ∧ j < 2 ^ 62) ∧ Q (rangeD 0 j.toNat) n1
  | _ => False
def aRange2 (g : AA) : AI := fun ρ n Q => g ρ n fun ds n1 => match ds with
  | [.int i, .int j] => (-(2 ^ 62) ≤ i ∧ i < 2 ^ 62 ∧ -(2 ^ 62) ≤ j ∧ j < 2 ^ 62) ∧ Q (rangeD i (j - i).toNat) n1
  | _ => False
theorem range_walks {W : Wd} {lo : Int} {k : Nat} {H : Hp} : Walks K W (Itr lo k) H (rangeD lo k) := fun W' hr hd H2 n2 l2 o2 i => by
  refine ⟨fun d e => ?_, fun hi => by rw [rangeD_length] at hi; exact hi⟩
  obtain ⟨h1, rfl⟩ := rangeD_get e
  refine ⟨h1, fun x H3 ⟨e3, e4⟩ => ?_⟩
  subst e3 e4
  exact ⟨Same.refl _, .int _⟩
instance {ta : TA} {g : AA} [DA K ta g] : DI K (iRng1 ta) (aRange1 g) := ⟨fun W σ ρ n H R Qa hQ hE o h =>
  DA.run (te := ta) (f := g) W σ ρ n H _ _ (fun ds n1 h1 H1 vs l1 o1 ax => by
    split at h1
    · cases ax with
      | cons a r =>
        cases r
        cases a
        exact ⟨_, rfl, h1.1.1, h1.1.2, hQ _ _ h1.2 _ H1 l1 o1 range_walks⟩
    · exact h1.elim) hE o h⟩
instance {ta : TA} {g : AA} [DA K ta g] : DI K (iRng2 ta) (aRange2 g) := ⟨fun W σ ρ n H R Qa hQ hE o h =>
  DA.run (te := ta) (f := g) W σ ρ n H _ _ (fun ds n1 h1 H1 vs l1 o1 ax => by
    split at h1
    · cases ax with
      | cons a r =>
        cases r with
        | cons b r =>
          cases r
          cases a
          cases b
          exact ⟨_, _, rfl, h1.1, hQ _ _ h1.2 _ H1 l1 o1 range_walks⟩
    · exact h1.elim) hE o h⟩
/-! zip, enumerate -/
def zipD : List D → List D → List D
  | a :: as, b :: bs => .tup [a, b] :: zipD as bs
  | _, _ => []
theorem zipD_get : ∀ {as bs : List D} {i : Nat} {d : D}, (zipD as bs)[i]? = some d → ∃ a b, as[i]? = some a ∧ bs[i]? = some b ∧ d = .tup [a, b]
  | [], _, _, _, h => by cases h
  | _ :: _, [], _, _, h => by cases h
  | a :: as, b :: bs, 0, d, h => by cases h; exact ⟨a, b, rfl, rfl, rfl⟩
  | a :: as, b :: bs, i + 1, d, h => zipD_get (as := as) (bs := bs) (i := i) h
theorem zipD_length : ∀ {as bs : List D}, (zipD as bs).length = min as.length bs.length
  | [], bs => by simp [zipD]
  | _ :: _, [] => by simp [zipD]
  | a :: as, b :: bs => by rw [zipD, List.length_cons, List.length_cons, List.length_cons, zipD_length, Nat.succ_min_succ]
def enumD (k : Nat) : List D → List D
  | [] => []
  | a :: as => .tup [.int k, a] :: enumD (k + 1) as
theorem enumD_get : ∀ {as : List D} {k i : Nat} {d : D}, (enumD k as)[i]? = some d → ∃ a, as[i]? = some a ∧ d = .tup [.int ((k + i : Nat) : Int), a]
  | [], _, _, _, h => by cases h
  | a :: as, k, 0, d, h => by cases h; exact ⟨a, rfl, rfl⟩
  | a :: as, k, i + 1, d, h => by
    obtain ⟨b, h1, h2⟩ := enumD_get (as := as) (k := k + 1) (i := i) h
    exact ⟨b, h1, by rw [h2]; congr 3; omega⟩
theorem enumD_length : ∀ {as : List D} {k : Nat}, (enumD k as).length = as.length
  | [], _ => rfl
  | a :: as, k => by rw [enumD, List.length_cons, List.length_cons, enumD_length]
end

/-! ### the mirror, fourth part: zip, enumerate, for, comprehensions, defs -/
section
variable {K : PySem.W.Frag}
theorem sql_lk {W : Wd} {H H' : Hp} {a : Addr} {xs : List V} (l : W.le H H') (r : ¬ W.rs a) (s : H a = some (.lst xs)) : SqL K H' a xs := SqL.of (l _ _ r s)
def iZipK (K : PySem.W.Frag) (ta : TA) : TI := RZ.iZipA K ta
theorem k_zip {X : Cx} {e e2 : Expr} {ta : TA} {p pos tpos : Pos} {elts : List Expr} {kk : Nat} (hK : X.K = K) (hg : Gl X "zip") (hm : X.mg "zip" = none) (ha : PA X [e, e2] ta)
    (hs : starEach [e, e2] X.env = (false, eval e X.env) :: starEach [e2] X.env := by rfl) (hpl : (backTo pos (starEach [e2] X.env)).any (·.1) = false := by rfl) :
    PI X (.Tuple elts kk tpos) (.Call (.Name "zip" p) [e, e2] [] pos) (iZipK K ta) := hK ▸ RZ.pi_zipA hg hm ha hs hpl
def aZip (g : AA) : AI := fun ρ n Q => g ρ n fun ds n1 => match ds with
  | [.lst as, .lst bs] => Q (zipD as bs) n1
  | [.tup as, .tup bs] => Q (zipD as bs) n1
  | _ => False
instance {ta : TA} {g : AA} [DA K ta g] : DI K (iZipK K ta) (aZip g) := ⟨fun W σ ρ n H R Qa hQ hE o h =>
  DA.run (te := ta) (f := g) W σ ρ n H _ _ (fun ds n1 h1 H1 vs l1 o1 ax => by
    split at h1
    · cases ax with
      | cons a r =>
        cases r with
        | cons b r =>
          cases r
          cases a with
          | lst ra sa a =>
            cases b with
            | lst rb sb b =>
              refine ⟨_, _, _, _, rfl, .inl ⟨SqL.of sa, SqL.of sb, hQ _ _ h1 _ H1 l1 o1 fun W' hr hd H2 n2 l2 o2 i => ?_⟩⟩
              have s2 := sql_lk (K := K) l2 (fun z => by rw [hr _ z ra] at sa; cases sa) sa
              have s3 := sql_lk (K := K) l2 (fun z => by rw [hr _ z rb] at sb; cases sb) sb
              refine ⟨fun d e => ?_, fun hi => ⟨_, _, s2, s3, ?_⟩⟩
              · obtain ⟨x, y, e1, e2, rfl⟩ := zipD_get e
                obtain ⟨v, e1', a1⟩ := a.get e1
                obtain ⟨u, e2', a2⟩ := b.get e2
                refine ⟨⟨_, _, v, u, s2, s3, e1', e2'⟩, fun z H3 ⟨T, x', y', ez, hT, eH, e3, e4⟩ => ?_⟩
                have q1 := e3 _ s2
                have q2 := e4 _ s3
                rw [e1'] at q1
                rw [e2'] at q2
                cases q1
                cases q2
                subst ez eH
                have st : Same H2 (upd H2 T (.tup [v, u])) := same_upd hT
                refine ⟨st, .tup (.inl (.inl upd_same)) (.cons ?_ (.cons ?_ .nil))⟩
                · exact At.le o2 (Wd.le_same st) _ (At.lk (o1.lk' hr) l2 _ (At.ext hr hd _ a1))
                · exact At.le o2 (Wd.le_same st) _ (At.lk (o1.lk' hr) l2 _ (At.ext hr hd _ a2))
              · rw [zipD_length] at hi
                rw [a.length, b.length]
                omega
    · cases ax with
      | cons a r =>
        cases r with
        | cons b r =>
          cases r
          cases a with
          | tup sa a =>
            cases b with
            | tup sb b =>
              refine ⟨_, _, _, _, rfl, .inr ⟨sa, sb, hQ _ _ h1 _ H1 l1 o1 fun W' hr hd H2 n2 l2 o2 i => ?_⟩⟩
              have s2 := sqt_lk (o1.lk' hr) l2 sa
              have s3 := sqt_lk (o1.lk' hr) l2 sb
              refine ⟨fun d e => ?_, fun hi => ⟨_, _, s2, s3, ?_⟩⟩
              · obtain ⟨x, y, e1, e2, rfl⟩ := zipD_get e
                obtain ⟨v, e1', a1⟩ := a.get e1
                obtain ⟨u, e2', a2⟩ := b.get e2
                refine ⟨⟨_, _, v, u, s2, s3, e1', e2'⟩, fun z H3 ⟨T, x', y', ez, hT, eH, e3, e4⟩ => ?_⟩
                have q1 := e3 _ s2
                have q2 := e4 _ s3
                rw [e1'] at q1
                rw [e2'] at q2
                cases q1
                cases q2
                subst ez eH
                have st : Same H2 (upd H2 T (.tup [v, u])) := same_upd hT
                refine ⟨st, .tup (.inl (.inl upd_same)) (.cons ?_ (.cons ?_ .nil))⟩
                · exact At.le o2 (Wd.le_same st) _ (At.lk (o1.lk' hr) l2 _ (At.ext hr hd _ a1))
                · exact At.le o2 (Wd.le_same st) _ (At.lk (o1.lk' hr) l2 _ (At.ext hr hd _ a2))
              · rw [zipD_length] at hi
                rw [a.length, b.length]
                omega
    · exact h1.elim) hE o h⟩
def iEnumK (K : PySem.W.Frag) (ta : TA) : TI := iEnum K ta
theorem k_enum {X : Cx} {e : Expr} {ta : TA} {p pos tpos : Pos} {elts : List Expr} {kk : Nat} (hK : X.K = K) (hg : Gl X "enumerate") (hm : X.mg "enumerate" = none) (ha : PA X [e] ta) (hs : starEach [e] X.env = [(false, eval e X.env)] := by rfl) :
    PI X (.Tuple elts kk tpos) (.Call (.Name "enumerate" p) [e] [] pos) (iEnumK K ta) := hK ▸ pi_enum hg hm ha hs
def aEnum (g : AA) : AI := fun ρ n Q => g ρ n fun ds n1 => match ds with
  | [.lst as] => Q (enumD 0 as) n1
  | _ => False
instance {ta : TA} {g : AA} [DA K ta g] : DI K (iEnumK K ta) (aEnum g) := ⟨fun W σ ρ n H R Qa hQ hE o h =>
  DA.run (te := ta) (f := g) W σ ρ n H _ _ (fun ds n1 h1 H1 vs l1 o1 ax => by
    split at h1
    · cases ax with
      | cons a r =>
        cases r
        cases a with
        | lst ra sa a =>
          refine ⟨_, _, rfl, SqL.of sa, hQ _ _ h1 _ H1 l1 o1 fun W' hr hd H2 n2 l2 o2 i => ?_⟩
          have s2 := sql_lk (K := K) l2 (fun z => by rw [hr _ z ra] at sa; cases sa) sa
          refine ⟨fun d e => ?_, fun hi => ⟨_, s2, by rw [a.length]; rw [enumD_length] at hi; exact hi⟩⟩
          obtain ⟨x, e1, rfl⟩ := enumD_get e
          obtain ⟨v, e1', a1⟩ := a.get e1
          refine ⟨⟨_, v, s2, e1'⟩, fun z H3 ⟨T, x', ez, hT, eH, e3⟩ => ?_⟩
          have q1 := e3 _ s2
          rw [e1'] at q1
          cases q1
          subst ez eH
          have st : Same H2 (upd H2 T (.tup [.int i, v])) := same_upd hT
          refine ⟨st, .tup (.inl (.inl upd_same)) (.cons ?_ (.cons ?_ .nil))⟩
          · rw [Nat.zero_add]
            exact .int _
          · exact At.le o2 (Wd.le_same st) _ (At.lk (o1.lk' hr) l2 _ (At.ext hr hd _ a1))
    · exact h1.elim) hE o h⟩
/-! comprehensions -/
def wipeA (ρ : Env') : List Nat → Env'
  | [] => ρ
  | v :: vs => eSet (wipeA ρ vs) v none
theorem EnvAt.wipe {W : Wd} {H : Hp} {σ : L2.St} {ρ : Env'} (h : EnvAt K W H σ ρ) : ∀ vs : List Nat, EnvAt K W H (L2.wipe σ vs) (wipeA ρ vs)
  | [] => h
  | v :: vs => by
    have ih := EnvAt.wipe h vs
    refine ⟨by show ((L2.wipe σ vs).set v none).length = (eSet (wipeA ρ vs) v none).length; rw [List.length_set, eSet_length]; exact ih.1, fun i d e => ?_⟩
    have e' : eGet (eSet (wipeA ρ vs) v none) i = some d := e
    by_cases hv : v = i
    · subst hv
      cases (eGet_set e').2
    · rw [eGet_ne hv] at e'
      obtain ⟨x, h1, h2⟩ := ih.2 i d e'
      exact ⟨x, by show ((L2.wipe σ vs).set v none)[i]? = _; rw [List.getElem?_set_ne hv]; exact h1, h2⟩
theorem wipe_wipe (σ : L2.St) (vs : List Nat) : wipe (wipe σ vs) vs = wipe σ vs := by
  have : ∀ us : List Nat, (∀ i ∈ us, i ∈ vs) → wipe (wipe σ us) vs = wipe σ vs := fun us => by
    induction us with
    | nil => intro _; rfl
    | cons u us ih =>
      intro h
      show wipe ((wipe σ us).set u none) vs = _
      rw [wipe_set (h u List.mem_cons_self), ih fun i hi => h i (List.mem_cons_of_mem _ hi)]
  exact this vs fun i hi => hi
def aPutC (vs : List Nat) (g : D → Option (List (Nat × D))) (d : D) (ρ : Env') (Q : Env' → Prop) : Prop := match g d with
  | some us => (match us.all fun u => vs.contains u.1 with
    | true => Q (eSetAll ρ us)
    | false => False)
  | none => False
def aLcGo (vs : List Nat) (G : D → Option (List (Nat × D))) (c : AT) (e : AE) (ρ : Env') (Q : D → Nat → Prop) : List D → List D → Nat → Prop
  | acc, [], n => Q (.lst acc) n
  | acc, d :: r, n => aPutC vs G d ρ fun ρ1 => c ρ1 n fun b n2 => aIte b (e ρ1 n2 fun y n3 => aLcGo vs G c e ρ Q (acc ++ [y]) r n3) (aLcGo vs G c e ρ Q acc r n2)
def aLc (I : AI) (G : D → Option (List (Nat × D))) (c : AT) (e : AE) (vs : List Nat) : AE := fun ρ n Q => I ρ n fun ds n1 => ds.length ≤ 1000000 ∧ aLcGo vs G c e (wipeA ρ vs) Q [] ds n1
theorem Wd.le_add {W : Wd} {p : Addr} {xs : HO} {H H1 H2 : Hp} (hp : H p = none) (l : W.le H H1) (l2 : (W.add (p, xs)).le H1 H2) : W.le H H2 := fun a o r e => by
  have ne : a ≠ p := ne_of_none e hp
  refine l2 a o ?_ (l a o r e)
  rintro (z | z)
  · exact r (.inl z)
  · rcases List.mem_cons.mp z with z | z
    · exact ne z
    · exact r (.inr z)
theorem Wd.ok_put {W : Wd} {p : Addr} {ys : HO} {n : Nat} {H : Hp} (hm : Mt ys) (hp : ¬ W.rs p) (hl : H p = none ∨ ∃ xs, H p = some (.lst xs)) (o : W.ok K n H) : (W.add (p, ys)).ok K n (upd H p ys) := by
  refine ⟨fun d b e => ?_, fun q hq => ?_, fun d b e q hq => ?_⟩
  · obtain ⟨c, D, l⟩ := o.deck d b e
    have n1 : p ≠ d := fun z => hp (.inl ⟨d, b, e, .inl z⟩)
    have n2 : p ≠ b := fun z => hp (.inl ⟨d, b, e, .inr z⟩)
    refine ⟨c, ?_, l⟩
    obtain ⟨⟨s, ns, cs, i, k, h1, h2, h3, h4⟩, ne⟩ := D
    refine ⟨⟨s, ns, cs, i, k, ?_, ?_, h3.upd hl, h4⟩, ne⟩
    · rw [upd_ne (Ne.symm n1)]; exact h1
    · rw [upd_ne (Ne.symm n2)]; exact h2
  · rcases List.mem_cons.mp hq with rfl | hq
    · exact ⟨upd_same, hm⟩
    · rw [upd_ne fun z => hp (.inr (List.mem_map.mpr ⟨q, hq, z⟩))]
      exact o.owns q hq
  · rcases List.mem_cons.mp hq with rfl | hq
    · exact ⟨fun z => hp (.inl ⟨d, b, e, .inl z⟩), fun z => hp (.inl ⟨d, b, e, .inr z⟩)⟩
    · exact o.dis d b e q hq
theorem Wd.ok.drop {W : Wd} {q : Addr × HO} {n : Nat} {H : Hp} (o : (W.add q).ok K n H) : W.ok K n H := ⟨o.deck, fun p hp => o.owns p (List.mem_cons_of_mem _ hp), fun d b e p hp => o.dis d b e p (List.mem_cons_of_mem _ hp)⟩
theorem Wd.le_more {W : Wd} {q : Addr × HO} {H H' : Hp} (l : W.le H H') : (W.add q).le H H' := fun a o r e => l a o (fun z => r (by
  rcases z with z | z
  · exact .inl z
  · exact .inr (List.mem_cons_of_mem _ z))) e
theorem Wd.le_own {W : Wd} {p : Addr} {xs : HO} {ob : HO} {H : Hp} : (W.add (p, xs)).le H (upd H p ob) := fun a o r e => by
  rw [upd_ne fun z => r (.inr (by rw [z]; exact List.mem_cons_self))]
  exact e
theorem EnvAt.ext {W W' : Wd} {H : Hp} {σ : L2.St} {ρ : Env'} (hr : ∀ a, W'.rs a → ¬ W.rs a → H a = none) (hd : W'.dk = W.dk) (h : EnvAt K W H σ ρ) : EnvAt K W' H σ ρ := ⟨h.1, fun i d e => let ⟨v, e', a⟩ := h.2 i d e; ⟨v, e', At.ext hr hd d a⟩⟩
theorem EnvAt.lk {W : Wd} {H H' : Hp} {σ : L2.St} {ρ : Env'} (h : EnvAt K W H σ ρ) (o : W.lk H) (l : W.le H H') : EnvAt K W H' σ ρ := ⟨h.1, fun i d e => let ⟨v, e', a⟩ := h.2 i d e; ⟨v, e', At.lk o l d a⟩⟩
theorem Wd.rs_new {W : Wd} {p : Addr} {xs : HO} {H : Hp} (hp : H p = none) : ∀ a, (W.add (p, xs)).rs a → ¬ W.rs a → H a = none := fun a z r => by
  rcases z with z | z
  · exact absurd (.inl z) r
  · rcases List.mem_cons.mp z with z | z
    · have z' : a = p := z
      rw [z']
      exact hp
    · exact absurd (.inr z) r
instance {wi : TI} {g : TG} {tt : TT} {te : TE} {vs : List Nat} {I : AI} {G : D → Option (List (Nat × D))} {c : AT} {e : AE} [DI K wi I] [DG K g G] [DT K tt c] [DE K te e] : DE K (tLc wi g tt te vs) (aLc I G c e vs) := ⟨fun W σ ρ n H Q Qa hQ hE o h => by
  refine DI.run (wi := wi) (f := I) W σ ρ n H _ _ (fun ds n1 h1 J H1 l1 o1 hw Dl hDl => ?_) hE o h
  obtain ⟨hlen, h1⟩ := h1
  have nrs : ¬ W.rs Dl := o1.fresh hDl
  refine ⟨fun i m H' => m = ds.length - i ∧ i ≤ ds.length ∧ ∃ n' us acc, aLcGo vs G c e (wipeA ρ vs) Qa acc (ds.drop i) n' ∧ (W.add (Dl, .lst us)).ok K n' H' ∧ AtAll K (W.add (Dl, .lst us)) H' us acc ∧ W.le H1 H' ∧ us.length ≤ i, ⟨_, rfl, Nat.zero_le _, n1, [], [], h1, Wd.ok_put trivial nrs (.inl hDl) o1, .nil, Wd.le_same (same_upd hDl), Nat.le_refl _⟩, ?_⟩
  rintro i m H2 ⟨rfl, hi, n2, us, acc, h2, o2, a2, l2, hul⟩
  have rn := Wd.rs_new (W := W) (xs := .lst us) hDl
  obtain ⟨w1, w2⟩ := hw (W.add (Dl, .lst us)) rn rfl H2 n2 (Wd.le_more l2) o2 i
  by_cases hlt : i < ds.length
  · rw [List.drop_eq_getElem_cons hlt] at h2
    obtain ⟨hgo, hy⟩ := w1 ds[i] (List.getElem?_eq_getElem hlt)
    refine .inr ⟨hgo, fun H' => ∃ m', m' < ds.length - i ∧ m' = ds.length - (i + 1) ∧ i + 1 ≤ ds.length ∧ ∃ n' us acc, aLcGo vs G c e (wipeA ρ vs) Qa acc (ds.drop (i + 1)) n' ∧ (W.add (Dl, .lst us)).ok K n' H' ∧ AtAll K (W.add (Dl, .lst us)) H' us acc ∧ W.le H1 H' ∧ us.length ≤ i + 1, fun H' q => q, fun x H3 hx => ?_⟩
    obtain ⟨s3, a3⟩ := hy x H3 hx
    have l3 : (W.add (Dl, .lst us)).le H2 H3 := Wd.le_same s3
    have o3 := o2.same s3
    have hE3 : EnvAt K (W.add (Dl, .lst us)) H3 (wipe σ vs) (wipeA ρ vs) := (((hE.le o l1).ext rn rfl).lk (o1.lk' rn) ((Wd.le_more l2).trans l3)).wipe vs
    unfold aLcGo aPutC at h2
    split at h2
    · rename_i xs ex
      split at h2
      · rename_i hc
        refine DG.run (g := g) (f := G) _ (wipe σ vs) H3 x _ xs _ a3 ex fun zs hz => ?_
        have hE4 := hE3.setAll hz
        have hv : ∀ z ∈ zs, z.1 ∈ vs := upd_slots hz fun u hu => List.contains_iff_mem.mp (List.all_eq_true.mp hc u hu)
        refine ⟨by rw [wipe_setAll hv, wipe_wipe], DT.run (te := tt) (f := c) _ _ _ n2 H3 _ _ (fun b n5 h5 H5 l5 o5 => ?_) hE4 o3 h2⟩
        have l25 := l3.trans l5
        cases b with
        | true =>
          rw [if_pos rfl]
          refine DE.run (te := te) (f := e) _ _ _ n5 H5 _ _ (fun y n6 h6 H6 v l6 o6 a6 => ?_) (hE4.le o3 l5) o5 (h5.1 rfl)
          have hD6 : H6 Dl = some (.lst us) := (o6.owns (Dl, .lst us) List.mem_cons_self).1
          have l26 := l25.trans l6
          refine ⟨us, hD6, Nat.lt_of_lt_of_le (show us.length < 1000000 by omega) lim, _, by omega, rfl, hlt, n6, us ++ [v], acc ++ [y], h6, Wd.ok_put trivial nrs (.inr ⟨_, hD6⟩) o6.drop, ?_, Wd.le_add hDl l2 (l26.trans (Wd.le_own (ob := .lst (us ++ [v])))), by rw [List.length_append, List.length_singleton]; omega⟩
          have key : AtAll K (W.add (Dl, .lst us)) H6 (us ++ [v]) (acc ++ [y]) := (AtAll.le o2 l26 _ a2).append (.cons a6 .nil)
          exact AtAll.weak (W := W.add (Dl, .lst us)) (W' := W.add (Dl, .lst (us ++ [v]))) (fun a z => z) rfl _ (AtAll.le o6 (Wd.le_own (ob := .lst (us ++ [v]))) _ key)
        | false =>
          rw [if_neg Bool.false_ne_true]
          exact ⟨_, by omega, rfl, hlt, n5, us, acc, h5.2 rfl, o5, AtAll.le o2 l25 _ a2, Wd.le_add hDl l2 l25, by omega⟩
      · exact h2.elim
    · exact h2.elim
  · have ei : i = ds.length := by omega
    subst ei
    rw [List.drop_length] at h2
    have hD2 : H2 Dl = some (.lst us) := (o2.owns (Dl, .lst us) List.mem_cons_self).1
    exact .inl ⟨w2 (Nat.le_refl _), hQ _ _ h2 H2 _ (l1.trans l2) o2.drop (.lst nrs hD2 (AtAll.weak (fun a z => Wd.rs_add z) rfl _ a2))⟩⟩
/-! reversed copies -/
def tRevK (K : PySem.W.Frag) (te : TE) : TE := tRevL K te
theorem k_rev {X : Cx} {e : Expr} {te : TE} {k : Nat} {p1 p2 p3 pos : Pos} (hK : X.K = K) (he : PE X e te) : PE X (.Subscript e (.Slice none none (some (.UnaryOp .USub (.Constant (.int 1) k p1) p2)) p3) pos) (tRevK K te) := hK ▸ pe_revL he
def aRev (f : AE) : AE := fun ρ n Q => f ρ n fun d n1 => match d with
  | .lst ds => Q (.lst ds.reverse) n1
  | _ => False
instance {te : TE} {f : AE} [DE K te f] : DE K (tRevK K te) (aRev f) := ⟨fun W σ ρ n H Q Qa hQ hE o h =>
  DE.run (te := te) (f := f) W σ ρ n H _ _ (fun d n1 h1 H1 x l1 o1 ax => by
    split at h1
    · cases ax with
      | lst r s a => exact ⟨_, _, rfl, SqL.of s, fun p hp => (hQ.le l1).new o1 h1 hp (.lst (o1.fresh hp) upd_same (AtAll.le o1 (Wd.le_same (same_upd hp)) _ (rev_at a)))⟩
    · exact h1.elim) hE o h⟩
end

/-! ### the mirror, fifth part: statements, defs -/
section
variable {K : PySem.W.Frag}
/-! ### statements: lists (and dicts) that a def builds, at the slots ow -/
def Wd.plus (W : Wd) (U : List (Addr × HO)) : Wd := { W with own := U ++ W.own }
inductive OwAt (K : PySem.W.Frag) (W : Wd) (H : Hp) : HO → D → Prop
  | lst {us : List V} {ds : List D} : AtAll K W H us ds → OwAt K W H (.lst us) (.lst ds)
  | dic {ks : List Key} {us : List V} {ds : List D} : ks.length = us.length → AtAll K W H us ds → OwAt K W H (.dK (ks.zip us)) (.dic ks ds)
structure SOk (K : PySem.W.Frag) (W : Wd) (ow : List Nat) (n : Nat) (H : Hp) (σ : L2.St) (ρ : Env') (U : List (Addr × HO)) : Prop where
  nd : (U.map (·.1)).Nodup
  nr : ∀ u ∈ U, ¬ W.rs u.1
  ok : (W.plus U).ok K n H
  len : σ.length = ρ.length
  env : ∀ i d, i ∉ ow → eGet ρ i = some d → ∃ v, σ[i]? = some (some v) ∧ At K (W.plus U) H v d
  own : ∀ i d, i ∈ ow → eGet ρ i = some d → ∃ u ∈ U, σ[i]? = some (some (.ref u.1)) ∧ OwAt K (W.plus U) H u.2 d
  dst : ∀ i j p, i ∈ ow → j ∈ ow → i ≠ j → σ[i]? = some (some (.ref p)) → σ[j]? = some (some (.ref p)) → eGet ρ i = none ∨ eGet ρ j = none
structure Stp (W : Wd) (U : List (Addr × HO)) (H : Hp) (U' : List (Addr × HO)) (H' : Hp) : Prop where
  le : (W.plus U).le H H'
  new : ∀ a, (W.plus U').rs a → ¬ (W.plus U).rs a → H a = none
  old : ∀ a, (W.plus U).rs a → (W.plus U').rs a
theorem Stp.refl {W : Wd} {U : List (Addr × HO)} {H : Hp} : Stp W U H U H := ⟨Wd.le_refl, fun a h g => absurd h g, fun a h => h⟩
theorem Stp.trans {W : Wd} {U U1 U2 : List (Addr × HO)} {H H1 H2 : Hp} (s : Stp W U H U1 H1) (t : Stp W U1 H1 U2 H2) : Stp W U H U2 H2 := by
  have key : ∀ a o, ¬ (W.plus U).rs a → H a = some o → ¬ (W.plus U1).rs a := fun a o r e z => by
    rw [s.new a z r] at e
    cases e
  refine ⟨fun a o r e => t.le a o (key a o r e) (s.le a o r e), fun a z r => ?_, fun a h => t.old a (s.old a h)⟩
  by_cases h1 : (W.plus U1).rs a
  · exact s.new a h1 r
  · have h2 := t.new a z h1
    cases e : H a with
    | none => rfl
    | some o =>
      rw [s.le a o r e] at h2
      cases h2
theorem Wd.rs_plus {W : Wd} {U : List (Addr × HO)} {a : Addr} : (W.plus U).rs a ↔ a ∈ U.map (·.1) ∨ W.rs a := by
  constructor
  · rintro (h | h)
    · exact .inr (.inl h)
    · have h' : a ∈ (U ++ W.own).map (·.1) := h
      rw [List.map_append] at h'
      rcases List.mem_append.mp h' with h | h
      · exact .inl h
      · exact .inr (.inr h)
  · rintro (h | h | h)
    · refine .inr (show a ∈ (U ++ W.own).map (·.1) from ?_)
      rw [List.map_append]
      exact List.mem_append_left _ h
    · exact .inl h
    · refine .inr (show a ∈ (U ++ W.own).map (·.1) from ?_)
      rw [List.map_append]
      exact List.mem_append_right _ h
section
variable {W : Wd} {ow : List Nat} {n : Nat} {H H1 : Hp} {σ : L2.St} {ρ : Env'} {U : List (Addr × HO)}
theorem wipeA_get : ∀ {ow : List Nat} {i : Nat} {d : D}, eGet (wipeA ρ ow) i = some d → i ∉ ow ∧ eGet ρ i = some d
  | [], i, d, h => ⟨fun z => (by cases z), h⟩
  | w :: ow, i, d, h => by
    have h' : eGet (eSet (wipeA ρ ow) w none) i = some d := h
    by_cases e : w = i
    · subst e
      cases (eGet_set h').2
    · rw [eGet_ne e] at h'
      obtain ⟨h1, h2⟩ := wipeA_get h'
      exact ⟨fun z => (List.mem_cons.mp z).elim (fun q => e q.symm) h1, h2⟩
theorem wipeA_length : ∀ ow : List Nat, (wipeA ρ ow).length = ρ.length
  | [] => rfl
  | w :: ow => by
    show (eSet (wipeA ρ ow) w none).length = _
    rw [eSet_length, wipeA_length ow]
/-- the lists that are built hidden -/
theorem SOk.hid (s : SOk K W ow n H σ ρ U) : EnvAt K (W.plus U) H σ (wipeA ρ ow) := ⟨by rw [wipeA_length]; exact s.len, fun i d e => let ⟨h1, h2⟩ := wipeA_get e; s.env i d h1 h2⟩
theorem SOk.base (s : SOk K W ow n H σ ρ U) : W.ok K n H := ⟨s.ok.deck, fun p hp => s.ok.owns p (List.mem_append_right _ hp), fun d b e p hp => s.ok.dis d b e p (List.mem_append_right _ hp)⟩
/-- .. as plain lists -/
theorem SOk.opn (s : SOk K W ow n H σ ρ U) : EnvAt K W H σ ρ := by
  have hw : ∀ a, W.rs a → (W.plus U).rs a := fun a h => Wd.rs_plus.mpr (.inr h)
  refine ⟨s.len, fun i d e => ?_⟩
  by_cases hi : i ∈ ow
  · obtain ⟨⟨q, ob⟩, hu, e1, a⟩ := s.own i d hi e
    refine ⟨_, e1, ?_⟩
    have h1 := (s.ok.owns _ (List.mem_append_left _ hu)).1
    cases a with
    | lst a => exact .lst (s.nr _ hu) h1 (AtAll.weak hw rfl _ a)
    | dic l a => exact .dic (s.nr _ hu) h1 l (AtAll.weak hw rfl _ a)
  · obtain ⟨v, e1, a⟩ := s.env i d hi e
    exact ⟨v, e1, At.weak hw rfl _ a⟩
theorem OwAt.le {ob : HO} {d : D} (o : W.ok K n H) (l : W.le H H1) (h : OwAt K W H ob d) : OwAt K W H1 ob d := by
  cases h with
  | lst a => exact .lst (AtAll.le o l _ a)
  | dic e a => exact .dic e (AtAll.le o l _ a)
/-- behind what was done with the built ones hidden -/
theorem SOk.le {n1 : Nat} (s : SOk K W ow n H σ ρ U) (l : (W.plus U).le H H1) (o : (W.plus U).ok K n1 H1) : SOk K W ow n1 H1 σ ρ U :=
  ⟨s.nd, s.nr, o, s.len, fun i d h e => let ⟨v, e1, a⟩ := s.env i d h e; ⟨v, e1, At.le s.ok l _ a⟩, fun i d h e => let ⟨u, hu, e1, a⟩ := s.own i d h e; ⟨u, hu, e1, a.le s.ok l⟩, s.dst⟩
/-- behind what was done with them as plain lists -/
theorem SOk.lo {n1 : Nat} (s : SOk K W ow n H σ ρ U) (l : W.le H H1) (o : W.ok K n1 H1) : SOk K W ow n1 H1 σ ρ U := by
  have l' : (W.plus U).le H H1 := fun a ob r e => l a ob (fun z => r (Wd.rs_plus.mpr (.inr z))) e
  refine s.le l' ⟨o.deck, fun p hp => ?_, s.ok.dis⟩
  rcases List.mem_append.mp hp with hp' | hp'
  · obtain ⟨h1, h2⟩ := s.ok.owns p hp
    exact ⟨l _ _ (s.nr p hp') h1, h2⟩
  · exact o.owns p hp'
theorem lo_le (l : W.le H H1) : (W.plus U).le H H1 := fun a ob r e => l a ob (fun z => r (Wd.rs_plus.mpr (.inr z))) e
theorem SOk.set {i : Nat} {v : V} {d : D} (s : SOk K W ow n H σ ρ U) (hi : i ∉ ow) (a : At K (W.plus U) H v d) : SOk K W ow n H (σ.set i (some v)) (eSet ρ i (some d)) U := by
  refine ⟨s.nd, s.nr, s.ok, by rw [List.length_set, eSet_length]; exact s.len, fun j e hj he => ?_, fun j e hj he => ?_, fun j k p hj hk ne h1 h2 => ?_⟩
  · by_cases hij : i = j
    · subst hij
      obtain ⟨hl, he⟩ := eGet_set he
      cases he
      exact ⟨v, by rw [List.getElem?_set_self (by rw [s.len]; exact hl)], a⟩
    · rw [eGet_ne hij] at he
      rw [List.getElem?_set_ne hij]
      exact s.env j e hj he
  · have hij : i ≠ j := fun z => hi (z ▸ hj)
    rw [eGet_ne hij] at he
    rw [List.getElem?_set_ne hij]
    exact s.own j e hj he
  · have hij : i ≠ j := fun z => hi (z ▸ hj)
    have hik : i ≠ k := fun z => hi (z ▸ hk)
    rw [List.getElem?_set_ne hij] at h1
    rw [List.getElem?_set_ne hik] at h2
    rw [eGet_ne hij, eGet_ne hik]
    exact s.dst j k p hj hk ne h1 h2
theorem SOk.setAll : ∀ {zs : List (Nat × V)} {us : List (Nat × D)} {σ : L2.St} {ρ : Env'}, SOk K W ow n H σ ρ U → Upd K (W.plus U) H zs us → (∀ u ∈ us, u.1 ∉ ow) → SOk K W ow n H (R.setAll σ zs) (eSetAll ρ us) U
  | _, _, _, _, s, .nil, _ => s
  | _, _, _, _, s, .cons (a := (i, v)) (b := (j, d)) ⟨e, a⟩ r, h => by
    cases (show i = j from e)
    have := SOk.setAll (s.set (h _ List.mem_cons_self) a) r fun u hu => h u (List.mem_cons_of_mem _ hu)
    exact this
end
structure AEn where
  nx : Env' → Nat → Prop
  rt : D → Nat → Prop
  bk : Env' → Nat → Prop := fun _ _ => False
  ct : Env' → Nat → Prop := fun _ _ => False
def WantsE (K : PySem.W.Frag) (W : Wd) (ow : List Nat) (U : List (Addr × HO)) (H : Hp) (Qa : Env' → Nat → Prop) (Q : L2.St → Hp → Prop) : Prop :=
  ∀ ρ' n', Qa ρ' n' → ∀ U' σ' H', Stp W U H U' H' → SOk K W ow n' H' σ' ρ' U' → Q σ' H'
theorem WantsE.le {W : Wd} {ow : List Nat} {U U1 : List (Addr × HO)} {H H1 : Hp} {Qa : Env' → Nat → Prop} {Q : L2.St → Hp → Prop} (h : WantsE K W ow U H Qa Q) (s : Stp W U H U1 H1) : WantsE K W ow U1 H1 Qa Q := fun ρ' n' q U' σ' H' l' a => h ρ' n' q U' σ' H' (s.trans l') a
/-- what is wanted of what is told: the built ones are plain lists then -/
def WantsR (K : PySem.W.Frag) (W : Wd) (U : List (Addr × HO)) (H : Hp) (Qa : D → Nat → Prop) (Q : VK) : Prop := ∀ d n', Qa d n' → ∀ U1 H1 H' v, Stp W U H U1 H1 → W.le H1 H' → W.ok K n' H' → At K W H' v d → Q v H'
theorem WantsR.le {W : Wd} {U U1 : List (Addr × HO)} {H H1 : Hp} {Qa : D → Nat → Prop} {Q : VK} (h : WantsR K W U H Qa Q) (s : Stp W U H U1 H1) : WantsR K W U1 H1 Qa Q := fun d n' q U' H' H2 v l' l2 o a => h d n' q U' H' H2 v (s.trans l') l2 o a
structure EndsOk (K : PySem.W.Frag) (W : Wd) (ow : List Nat) (U : List (Addr × HO)) (H : Hp) (Ea : AEn) (E : Ends) : Prop where
  nx : WantsE K W ow U H Ea.nx E.nx
  rt : WantsR K W U H Ea.rt E.rt
  bk : WantsE K W ow U H Ea.bk E.bk
  ct : WantsE K W ow U H Ea.ct E.ct
theorem EndsOk.le {W : Wd} {ow : List Nat} {U U1 : List (Addr × HO)} {H H1 : Hp} {Ea : AEn} {E : Ends} (h : EndsOk K W ow U H Ea E) (l : Stp W U H U1 H1) : EndsOk K W ow U1 H1 Ea E := ⟨h.nx.le l, h.rt.le l, h.bk.le l, h.ct.le l⟩
abbrev AS := AEn → Env' → Nat → Prop
class DS (K : PySem.W.Frag) (ow : List Nat) (t : TS) (f : outParam AS) : Prop where
  run : ∀ (W : Wd) (U : List (Addr × HO)) (σ : L2.St) (ρ : Env') (n : Nat) (H : Hp) (E : Ends) (Ea : AEn), EndsOk K W ow U H Ea E → SOk K W ow n H σ ρ U → f Ea ρ n → t E σ H
variable {ow : List Nat}
def aNext : AS := fun E ρ n => E.nx ρ n
def aSeq (f g : AS) : AS := fun E ρ n => f { E with nx := fun ρ' n' => g E ρ' n' } ρ n
instance : DS K ow tNext aNext := ⟨fun W U σ ρ n H E Ea hD s h => hD.nx _ _ h U σ H Stp.refl s⟩
instance {t u : TS} {f g : AS} [DS K ow t f] [DS K ow u g] : DS K ow (tSeq t u) (aSeq f g) := ⟨fun W U σ ρ n H E Ea hD s h =>
  DS.run (ow := ow) (t := t) (f := f) W U σ ρ n H _ { Ea with nx := fun ρ' n' => g Ea ρ' n' } ⟨fun ρ1 n1 h1 U1 σ1 H1 l1 s1 => DS.run (ow := ow) (t := u) (f := g) W U1 σ1 ρ1 n1 H1 E Ea (hD.le l1) s1 h1, hD.rt, hD.bk, hD.ct⟩ s h⟩
instance : DS K ow tNever (fun _ _ _ => False) := ⟨fun W U σ ρ n H E Ea hD s h => h⟩
def aBrk : AS := fun E ρ n => E.bk ρ n
def aCnt : AS := fun E ρ n => E.ct ρ n
instance : DS K ow tBreak aBrk := ⟨fun W U σ ρ n H E Ea hD s h => hD.bk _ _ h U σ H Stp.refl s⟩
instance : DS K ow tCont aCnt := ⟨fun W U σ ρ n H E Ea hD s h => hD.ct _ _ h U σ H Stp.refl s⟩
theorem Stp.hid {W : Wd} {U : List (Addr × HO)} {H H1 : Hp} (l : (W.plus U).le H H1) : Stp W U H U H1 := ⟨l, fun a h g => absurd h g, fun a h => h⟩
def aDrop (ow : List Nat) (f : AE) : AS := fun E ρ n => f (wipeA ρ ow) n fun _ n1 => E.nx ρ n1
instance {te : TE} {f : AE} [DE K te f] : DS K ow (tDrop te) (aDrop ow f) := ⟨fun W U σ ρ n H E Ea hD s h =>
  DE.run (te := te) (f := f) (W.plus U) σ _ n H _ _ (fun d n1 h1 H1 x l1 o1 ax => hD.nx _ _ h1 U σ H1 (.hid l1) (s.le l1 o1)) s.hid s.ok h⟩
def aRet (f : AE) : AS := fun E ρ n => f ρ n E.rt
instance {te : TE} {f : AE} [DE K te f] : DS K ow (tRet te) (aRet f) := ⟨fun W U σ ρ n H E Ea hD s h => DE.run (te := te) (f := f) W σ ρ n H _ _ (fun d n1 h1 H1 x l1 o1 ax => hD.rt d n1 h1 U H H1 x Stp.refl l1 o1 ax) s.opn s.base h⟩
def aRetN : AS := fun E _ n => E.rt .non n
instance : DS K ow tRetN aRetN := ⟨fun W U σ ρ n H E Ea hD s h => hD.rt _ _ h U H H _ Stp.refl Wd.le_refl s.base .non⟩
def aIfS (c : AT) (f g : AS) : AS := fun E ρ n => c ρ n fun b n1 => aIte b (f E ρ n1) (g E ρ n1)
instance {tc : TT} {t u : TS} {c : AT} {f g : AS} [DT K tc c] [DS K ow t f] [DS K ow u g] : DS K ow (tIfS tc t u) (aIfS c f g) := ⟨fun W U σ ρ n H E Ea hD s h =>
  DT.run (te := tc) (f := c) W σ ρ n H _ _ (fun b n1 h1 H1 l1 o1 => by
    have st : Stp W U H U H1 := .hid (lo_le l1)
    cases b with
    | true => rw [if_pos rfl]; exact DS.run (ow := ow) (t := t) (f := f) W U σ ρ n1 H1 E Ea (hD.le st) (s.lo l1 o1) (h1.1 rfl)
    | false => rw [if_neg Bool.false_ne_true]; exact DS.run (ow := ow) (t := u) (f := g) W U σ ρ n1 H1 E Ea (hD.le st) (s.lo l1 o1) (h1.2 rfl)) s.opn s.base h⟩
/-- what a target stores -/
def aPut (ow : List Nat) (g : D → Option (List (Nat × D))) (d : D) (ρ : Env') (Q : Env' → Prop) : Prop := match g d with
  | some us => (match us.all fun u => !ow.contains u.1 with
    | true => Q (eSetAll ρ us)
    | false => False)
  | none => False
def aAsg (ow : List Nat) (f : AE) (g : D → Option (List (Nat × D))) : AS := fun E ρ n => f (wipeA ρ ow) n fun d n1 => aPut ow g d ρ fun ρ' => E.nx ρ' n1
theorem put_run {W : Wd} {U : List (Addr × HO)} {g : TG} {a : D → Option (List (Nat × D))} [DG K g a] {σ : L2.St} {ρ : Env'} {n : Nat} {H : Hp} {v : V} {d : D} {Qa : Env' → Prop} {Q : L2.St → Hp → Prop} (s : SOk K W ow n H σ ρ U) (ax : At K (W.plus U) H v d) (h : aPut ow a d ρ Qa)
    (hQ : ∀ ρ' σ', Qa ρ' → SOk K W ow n H σ' ρ' U → Q σ' H) : g v σ H Q := by
  unfold aPut at h
  split at h
  · rename_i us e
    split at h
    · rename_i hc
      refine DG.run (g := g) (f := a) (W.plus U) σ H v d us Q ax e fun zs hz => hQ _ _ h (s.setAll hz fun u hu hin => ?_)
      have := List.all_eq_true.mp hc u hu
      rw [List.contains_iff_mem.mpr hin] at this
      cases this
    · exact h.elim
  · exact h.elim
instance {te : TE} {g : TG} {f : AE} {a : D → Option (List (Nat × D))} [DE K te f] [DG K g a] : DS K ow (tAsg te g) (aAsg ow f a) := ⟨fun W U σ ρ n H E Ea hD s h =>
  DE.run (te := te) (f := f) (W.plus U) σ _ n H _ _ (fun d n1 h1 H1 x l1 o1 ax => put_run (g := g) (a := a) (s.le l1 o1) ax h1 fun ρ' σ' q s' => hD.nx _ _ q U σ' H1 (.hid l1) s') s.hid s.ok h⟩
/-- a scalar that is reckoned of the built lists too -/
def tOpen (te : TE) : TE := te
def D.sc : D → Bool
  | .non => true | .bl _ => true | .int _ => true | .str _ => true
  | _ => false
theorem sc_at {W W' : Wd} {H : Hp} {v : V} {d : D} (h : d.sc = true) (a : At K W H v d) : At K W' H v d := by
  cases a <;> first
    | cases h; done
    | exact .non
    | exact .bl _
    | exact .int _
    | exact .str _
def aAsgO (ow : List Nat) (f : AE) (g : D → Option (List (Nat × D))) : AS := fun E ρ n => f ρ n fun d n1 => match d.sc with
  | true => aPut ow g d ρ fun ρ' => E.nx ρ' n1
  | false => False
instance (priority := 1100) {te : TE} {g : TG} {f : AE} {a : D → Option (List (Nat × D))} [DE K te f] [DG K g a] : DS K ow (tAsg (tOpen te) g) (aAsgO ow f a) := ⟨fun W U σ ρ n H E Ea hD s h =>
  DE.run (te := te) (f := f) W σ ρ n H _ _ (fun d n1 h1 H1 x l1 o1 ax => by
    split at h1
    · rename_i hs
      exact put_run (g := g) (a := a) (s.lo l1 o1) (sc_at hs ax) h1 fun ρ' σ' q s' => hD.nx _ _ q U σ' H1 (.hid (lo_le l1)) s'
    · exact h1.elim) s.opn s.base h⟩
theorem k_open {X : Cx} {e : Expr} {te : TE} (h : PE X e te) : PE X e (tOpen te) := h
def aPar (ow : List Nat) (i j : Nat) (g : AA) : AS := fun E ρ n => g (wipeA ρ ow) n fun ds n1 => match ds, ow.contains i || ow.contains j with
  | [d, e], false => E.nx (eSet (eSet ρ i (some d)) j (some e)) n1
  | _, _ => False
instance {i j : Nat} {ta : TA} {g : AA} [DA K ta g] : DS K ow (tPar i j ta) (aPar ow i j g) := ⟨fun W U σ ρ n H E Ea hD s h =>
  DA.run (te := ta) (f := g) (W.plus U) σ _ n H _ _ (fun ds n1 h1 H1 vs l1 o1 ax => by
    split at h1
    · rename_i hc
      rw [Bool.or_eq_false_iff] at hc
      cases ax with
      | cons a r =>
        cases r with
        | cons b r =>
          cases r
          refine ⟨_, _, rfl, hD.nx _ _ h1 U _ H1 (.hid l1) (((s.le l1 o1).set (fun z => ?_) a).set (fun z => ?_) b)⟩
          · rw [List.contains_iff_mem.mpr z] at hc
            cases hc.1
          · rw [List.contains_iff_mem.mpr z] at hc
            cases hc.2
    · exact h1.elim) s.hid s.ok h⟩
def aAug (ow : List Nat) (i : Nat) (f : AE) (r : D → D → Nat → (D → Nat → Prop) → Prop) : AS := fun E ρ n => match eGet ρ i, ow.contains i with
  | some d, false => f (wipeA ρ ow) n fun e n1 => r d e n1 fun x n2 => E.nx (eSet ρ i (some x)) n2
  | _, _ => False
instance {i : Nat} {te : TE} {ti : TIp} {f : AE} {r : D → D → Nat → (D → Nat → Prop) → Prop} [DE K te f] [D2 K ti r] : DS K ow (tAug i te ti) (aAug ow i f r) := ⟨fun W U σ ρ n H E Ea hD s h => by
  unfold aAug at h
  split at h
  · rename_i d e hc
    have hi : i ∉ ow := fun z => by rw [List.contains_iff_mem.mpr z] at hc; cases hc
    obtain ⟨v, e', a⟩ := s.env i d hi e
    refine ⟨v, e', DE.run (te := te) (f := f) (W.plus U) σ _ n H _ _ (fun d1 n1 h1 H1 x l1 o1 ax => ?_) s.hid s.ok h⟩
    exact D2.run (r := ti) (f := r) (W.plus U) n1 H1 v x d d1 _ _ (fun d2 n2 h2 H2 y l2 o2 ay => hD.nx _ _ h2 U _ H2 (.hid (l1.trans l2)) ((s.le (l1.trans l2) o2).set hi ay)) o1 (At.le s.ok l1 _ a) ax h1
  · exact h.elim⟩
/-! while -/
def aWhile (c : AT) (f : AS) : AS := fun E ρ n => ∃ Wv : Nat → Env' → Nat → Prop, (∃ m, Wv m ρ n) ∧ ∀ m ρ n, Wv m ρ n →
  c ρ n fun b n1 => aIte b (f { E with nx := fun ρ' n' => ∃ m', m' < m ∧ Wv m' ρ' n', ct := fun ρ' n' => ∃ m', m' < m ∧ Wv m' ρ' n', bk := E.nx } ρ n1) (E.nx ρ n1)
instance {tc : TT} {tb : TS} {c : AT} {f : AS} [DT K tc c] [DS K ow tb f] : DS K ow (tWhile tc tb) (aWhile c f) := ⟨fun W U σ ρ n H E Ea hD s h => by
  obtain ⟨Wv, ⟨m, w0⟩, turn⟩ := h
  refine ⟨fun m σ' H' => ∃ ρ' n' U', Wv m ρ' n' ∧ SOk K W ow n' H' σ' ρ' U' ∧ Stp W U H U' H', ⟨m, ρ, n, U, w0, s, Stp.refl⟩, ?_⟩
  rintro m σ1 H1 ⟨ρ1, n1, U1, w1, s1, l1⟩
  refine DT.run (te := tc) (f := c) W σ1 ρ1 n1 H1 _ _ (fun b n2 h2 H2 l2 o2 => ?_) s1.opn s1.base (turn m ρ1 n1 w1)
  have st := l1.trans (.hid (lo_le l2))
  cases b with
  | true =>
    rw [if_pos rfl]
    refine ⟨fun σ' H' => ∃ m', m' < m ∧ ∃ ρ' n' U', Wv m' ρ' n' ∧ SOk K W ow n' H' σ' ρ' U' ∧ Stp W U H U' H', fun σ' H' q => q, ?_⟩
    have again : WantsE K W ow U1 H2 (fun ρ' n' => ∃ m', m' < m ∧ Wv m' ρ' n') fun σ' H' => ∃ m', m' < m ∧ ∃ ρ' n' U', Wv m' ρ' n' ∧ SOk K W ow n' H' σ' ρ' U' ∧ Stp W U H U' H' := fun ρ' n' ⟨m', lt, wv⟩ U' σ' H' l' s' => ⟨m', lt, ρ', n', U', wv, s', st.trans l'⟩
    exact DS.run (ow := ow) (t := tb) (f := f) W U1 σ1 ρ1 n2 H2 _ { Ea with nx := fun ρ' n' => ∃ m', m' < m ∧ Wv m' ρ' n', ct := fun ρ' n' => ∃ m', m' < m ∧ Wv m' ρ' n', bk := Ea.nx } ⟨again, hD.rt.le st, hD.nx.le st, again⟩ (s1.lo l2 o2) (h2.1 rfl)
  | false =>
    rw [if_neg Bool.false_ne_true]
    exact hD.nx _ _ (h2.2 rfl) U1 σ1 H2 st (s1.lo l2 o2)⟩
/-! for -/
def aForGo (ow : List Nat) (G : D → Option (List (Nat × D))) (f : AS) (E : AEn) : List D → Env' → Nat → Prop
  | [], ρ, n => E.nx ρ n
  | d :: r, ρ, n => aPut ow G d ρ fun ρ1 => f { E with nx := aForGo ow G f E r, ct := aForGo ow G f E r, bk := E.nx } ρ1 n
def aFor (ow : List Nat) (I : AI) (G : D → Option (List (Nat × D))) (f : AS) : AS := fun E ρ n => I (wipeA ρ ow) n fun ds n1 => aForGo ow G f E ds ρ n1
instance {wi : TI} {g : TG} {tb : TS} {I : AI} {G : D → Option (List (Nat × D))} {f : AS} [DI K wi I] [DG K g G] [DS K ow tb f] : DS K ow (tFor wi g tb) (aFor ow I G f) := ⟨fun W U σ ρ n H E Ea hD s h =>
  DI.run (wi := wi) (f := I) (W.plus U) σ _ n H _ _ (fun ds n1 h1 J H1 l1 o1 hw => by
    refine ⟨fun i m σ' H' => m = ds.length - i ∧ i ≤ ds.length ∧ ∃ ρ' n' U', aForGo ow G f Ea (ds.drop i) ρ' n' ∧ SOk K W ow n' H' σ' ρ' U' ∧ Stp W U H1 U' H', ⟨_, rfl, Nat.zero_le _, ρ, n1, U, h1, s.le l1 o1, Stp.refl⟩, ?_⟩
    rintro i m σ2 H2 ⟨rfl, hi, ρ2, n2, U2, h2, s2, l2⟩
    obtain ⟨w1, w2⟩ := hw (W.plus U2) l2.new rfl H2 n2 (fun a o r e => l2.le a o (fun z => r (l2.old a z)) e) s2.ok i
    by_cases hlt : i < ds.length
    · rw [List.drop_eq_getElem_cons hlt] at h2
      obtain ⟨hgo, hy⟩ := w1 ds[i] (List.getElem?_eq_getElem hlt)
      refine .inr ⟨hgo, fun σ' H' => ∃ m', m' < ds.length - i ∧ m' = ds.length - (i + 1) ∧ i + 1 ≤ ds.length ∧ ∃ ρ' n' U', aForGo ow G f Ea (ds.drop (i + 1)) ρ' n' ∧ SOk K W ow n' H' σ' ρ' U' ∧ Stp W U H1 U' H', fun σ' H' q => q, fun x H3 hx => ?_⟩
      obtain ⟨s3, a3⟩ := hy x H3 hx
      have l3 : (W.plus U2).le H2 H3 := Wd.le_same s3
      refine put_run (g := g) (a := G) (s2.le l3 (s2.ok.same s3)) a3 h2 fun ρ4 σ4 h4 s4 => ?_
      have l14 := l2.trans (.hid l3)
      have again : WantsE K W ow U2 H3 (aForGo ow G f Ea (ds.drop (i + 1))) fun σ' H' => ∃ m', m' < ds.length - i ∧ m' = ds.length - (i + 1) ∧ i + 1 ≤ ds.length ∧ ∃ ρ' n' U', aForGo ow G f Ea (ds.drop (i + 1)) ρ' n' ∧ SOk K W ow n' H' σ' ρ' U' ∧ Stp W U H1 U' H' :=
        fun ρ' n' q U' σ' H' l' s' => ⟨_, by omega, rfl, hlt, ρ', n', U', q, s', l14.trans l'⟩
      have lt := (Stp.hid l1).trans l14
      exact DS.run (ow := ow) (t := tb) (f := f) W U2 σ4 ρ4 n2 H3 _ { Ea with nx := aForGo ow G f Ea (ds.drop (i + 1)), ct := aForGo ow G f Ea (ds.drop (i + 1)), bk := Ea.nx } ⟨again, hD.rt.le lt, hD.nx.le lt, again⟩ s4 h4
    · have e : i = ds.length := by omega
      subst e
      rw [List.drop_length] at h2
      exact .inl ⟨w2 (Nat.le_refl _), hD.nx _ _ h2 U2 σ2 H2 ((Stp.hid l1).trans l2) s2⟩) s.hid s.ok h⟩
/-! a list is begun, a thing is put at its end -/
def tOwnL (i : Nat) (ta : TA) : TS := tAsg (tLst ta) (gName i)
theorem k_own {X : Cx} {st : Stmt} {i : Nat} {ta : TA} (h : PS X st (tAsg (tLst ta) (gName i))) : PS X st (tOwnL i ta) := h
def aOwnL (ow : List Nat) (i : Nat) (g : AA) : AS := fun E ρ n => g (wipeA ρ ow) n fun ds n1 => match Nat.ble ds.length 1000, ow.contains i with
  | true, true => E.nx (eSet ρ i (some (.lst ds))) n1
  | _, _ => False
theorem SOk.new {W : Wd} {n : Nat} {H : Hp} {σ : L2.St} {ρ : Env'} {U : List (Addr × HO)} {i : Nat} {p : Addr} {us : List V} {ds : List D} (s : SOk K W ow n H σ ρ U) (hi : i ∈ ow) (hp : H p = none) (a : AtAll K (W.plus U) H us ds) :
    Stp W U H ((p, .lst us) :: U) (upd H p (.lst us)) ∧ SOk K W ow n (upd H p (.lst us)) (σ.set i (some (.ref p))) (eSet ρ i (some (.lst ds))) ((p, .lst us) :: U) := by
  have nrs : ¬ (W.plus U).rs p := s.ok.fresh hp
  have rn := Wd.rs_new (W := W.plus U) (xs := .lst us) hp
  have sm : Same H (upd H p (.lst us)) := same_upd hp
  have ho : (W.plus ((p, .lst us) :: U)).ok K n (upd H p (.lst us)) := Wd.ok_put (W := W.plus U) trivial nrs (.inl hp) s.ok
  have lk : (W.plus ((p, .lst us) :: U)).lk H := s.ok.lk' rn
  have le2 : (W.plus ((p, .lst us) :: U)).le H (upd H p (.lst us)) := Wd.le_same sm
  refine ⟨⟨Wd.le_same sm, rn, fun b z => Wd.rs_add z⟩, ⟨?_, ?_, ho, by rw [List.length_set, eSet_length]; exact s.len, ?_, ?_, ?_⟩⟩
  · refine List.nodup_cons.mpr ⟨fun z => nrs (Wd.rs_plus.mpr (.inl z)), s.nd⟩
  · intro u hu
    rcases List.mem_cons.mp hu with rfl | hu
    · exact fun z => nrs (Wd.rs_plus.mpr (.inr z))
    · exact s.nr u hu
  · intro j d hj he
    have hij : i ≠ j := fun z => hj (z ▸ hi)
    rw [eGet_ne hij] at he
    rw [List.getElem?_set_ne hij]
    obtain ⟨v, e1, a1⟩ := s.env j d hj he
    exact ⟨v, e1, At.lk lk le2 _ (At.ext rn rfl _ a1)⟩
  · intro j d hj he
    by_cases hij : i = j
    · subst hij
      obtain ⟨hl, he⟩ := eGet_set he
      cases he
      exact ⟨(p, .lst us), List.mem_cons_self, by rw [List.getElem?_set_self (by rw [s.len]; exact hl)], .lst (AtAll.lk lk le2 _ (AtAll.ext rn rfl _ a))⟩
    · rw [eGet_ne hij] at he
      rw [List.getElem?_set_ne hij]
      obtain ⟨⟨q, ob⟩, hu, e1, a1⟩ := s.own j d hj he
      refine ⟨_, List.mem_cons_of_mem _ hu, e1, ?_⟩
      cases a1 with
      | lst a1 => exact .lst (AtAll.lk lk le2 _ (AtAll.ext rn rfl _ a1))
      | dic l a1 => exact .dic l (AtAll.lk lk le2 _ (AtAll.ext rn rfl _ a1))
  · intro j k q hj hk ne h1 h2
    have fr : ∀ m, m ∈ ow → i ≠ m → σ[m]? = some (some (.ref p)) → eGet ρ m = none := fun m hm _ hσ => by
      cases e : eGet ρ m with
      | none => rfl
      | some d =>
        obtain ⟨u, hu, e1, _⟩ := s.own m d hm e
        rw [hσ] at e1
        have : p = u.1 := V.ref.inj (Option.some.inj (Option.some.inj e1))
        exact absurd (Wd.rs_plus.mpr (.inl (List.mem_map.mpr ⟨u, hu, this.symm⟩))) nrs
    by_cases hij : i = j
    · subst hij
      rw [List.getElem?_set_ne ne] at h2
      by_cases hl : i < σ.length
      · rw [List.getElem?_set_self hl] at h1
        cases h1
        rw [eGet_ne ne]
        exact .inr (fr k hk ne h2)
      · rw [List.getElem?_eq_none (by rw [List.length_set]; omega)] at h1
        cases h1
    · rw [List.getElem?_set_ne hij] at h1
      rw [eGet_ne hij]
      by_cases hik : i = k
      · subst hik
        by_cases hl : i < σ.length
        · rw [List.getElem?_set_self hl] at h2
          cases h2
          exact .inl (fr j hj hij h1)
        · rw [List.getElem?_eq_none (by rw [List.length_set]; omega)] at h2
          cases h2
      · rw [List.getElem?_set_ne hik] at h2
        rw [eGet_ne hik]
        exact s.dst j k q hj hk ne h1 h2
instance {i : Nat} {ta : TA} {g : AA} [DA K ta g] : DS K ow (tOwnL i ta) (aOwnL ow i g) := ⟨fun W U σ ρ n H E Ea hD s h =>
  DA.run (te := ta) (f := g) (W.plus U) σ _ n H _ _ (fun ds n1 h1 H1 vs l1 o1 ax => by
    split at h1
    · rename_i hb hc
      refine ⟨size63 (by rw [ax.length]; exact Nat.le_of_ble_eq_true hb), fun p hp => ?_⟩
      obtain ⟨st, s2⟩ := (s.le l1 o1).new (List.contains_iff_mem.mp hc) hp ax
      exact hD.nx _ _ h1 _ _ _ ((Stp.hid l1).trans st) s2
    · exact h1.elim) s.hid s.ok h⟩
/-- the contents of one built thing change -/
def putO (U : List (Addr × HO)) (p : Addr) (ob : HO) : List (Addr × HO) := U.map fun u => if u.1 = p then (p, ob) else u
theorem putO_fst (U : List (Addr × HO)) (p : Addr) (ob : HO) : (putO U p ob).map (·.1) = U.map (·.1) := by
  unfold putO
  rw [List.map_map]
  refine List.map_congr_left fun u _ => ?_
  show (if u.1 = p then (p, ob) else u).1 = u.1
  split
  · rename_i e; exact e.symm
  · rfl
theorem SOk.put {W : Wd} {n : Nat} {H : Hp} {σ : L2.St} {ρ : Env'} {U : List (Addr × HO)} {i : Nat} {p : Addr} {ob ob' : HO} {d' : D} (s : SOk K W ow n H σ ρ U) (hi : i ∈ ow) (hl : eGet ρ i ≠ none) (hσ : σ[i]? = some (some (.ref p))) (hU : (p, ob) ∈ U) (hob : ∃ xs, ob = .lst xs) (hm : Mt ob') (a : OwAt K (W.plus U) H ob' d') :
    Stp W U H (putO U p ob') (upd H p ob') ∧ SOk K W ow n (upd H p ob') σ (eSet ρ i (some d')) (putO U p ob') := by
  have hfst := putO_fst U p ob'
  have hrs : ∀ b, (W.plus (putO U p ob')).rs b ↔ (W.plus U).rs b := fun b => by rw [Wd.rs_plus, Wd.rs_plus, hfst]
  have hpr : (W.plus U).rs p := Wd.rs_plus.mpr (.inl (List.mem_map.mpr ⟨_, hU, rfl⟩))
  have le1 : (W.plus U).le H (upd H p ob') := fun b o r e => by
    rw [upd_ne fun z => r (by rw [z]; exact hpr)]
    exact e
  obtain ⟨hp1, _⟩ := s.ok.owns (p, ob) (List.mem_append_left _ hU)
  have npw : ¬ W.rs p := s.nr _ hU
  have hdk : ∀ d b, W.dk = some (d, b) → p ≠ d ∧ p ≠ b := fun d b e => s.ok.dis d b e _ (List.mem_append_left _ hU)
  have ok' : (W.plus (putO U p ob')).ok K n (upd H p ob') := by
    refine ⟨fun d b e => ?_, fun q hq => ?_, fun d b e q hq => ?_⟩
    · obtain ⟨c, D, l⟩ := s.ok.deck d b e
      refine ⟨c, ?_, l⟩
      obtain ⟨⟨s', ns, cs, i', k, h1, h2, h3, h4⟩, ne⟩ := D
      obtain ⟨n1, n2⟩ := hdk d b e
      obtain ⟨xs, rfl⟩ := hob
      refine ⟨⟨s', ns, cs, i', k, ?_, ?_, h3.upd (.inr ⟨_, hp1⟩), h4⟩, ne⟩
      · rw [upd_ne (Ne.symm n1)]; exact h1
      · rw [upd_ne (Ne.symm n2)]; exact h2
    · rcases List.mem_append.mp hq with hq | hq
      · obtain ⟨u, hu, e⟩ := List.mem_map.mp hq
        split at e
        · subst e
          exact ⟨upd_same, hm⟩
        · rename_i hne
          subst e
          rw [upd_ne hne]
          exact s.ok.owns u (List.mem_append_left _ hu)
      · have hq1 : q.1 ≠ p := fun z => npw (.inr (List.mem_map.mpr ⟨q, hq, z⟩))
        rw [upd_ne hq1]
        exact s.ok.owns q (List.mem_append_right _ hq)
    · rcases List.mem_append.mp hq with hq | hq
      · have : q.1 ∈ U.map (·.1) := by rw [← hfst]; exact List.mem_map.mpr ⟨q, hq, rfl⟩
        obtain ⟨u, hu, e'⟩ := List.mem_map.mp this
        rw [← e']
        exact s.ok.dis d b e u (List.mem_append_left _ hu)
      · exact s.ok.dis d b e q (List.mem_append_right _ hq)
  have wk : ∀ {v : V} {d : D}, At K (W.plus U) H v d → At K (W.plus (putO U p ob')) (upd H p ob') v d := fun h => At.weak (fun b z => (hrs b).mp z) rfl _ (At.le s.ok le1 _ h)
  have wka : ∀ {vs : List V} {ds : List D}, AtAll K (W.plus U) H vs ds → AtAll K (W.plus (putO U p ob')) (upd H p ob') vs ds := fun h => AtAll.weak (fun b z => (hrs b).mp z) rfl _ (AtAll.le s.ok le1 _ h)
  have wko : ∀ {o : HO} {d : D}, OwAt K (W.plus U) H o d → OwAt K (W.plus (putO U p ob')) (upd H p ob') o d := fun h => by
    cases h with
    | lst h => exact .lst (wka h)
    | dic l h => exact .dic l (wka h)
  refine ⟨⟨le1, fun b z r => absurd ((hrs b).mp z) r, fun b z => (hrs b).mpr z⟩, ⟨by rw [hfst]; exact s.nd, ?_, ok', by rw [eSet_length]; exact s.len, ?_, ?_, ?_⟩⟩
  · intro u hu
    have : u.1 ∈ U.map (·.1) := by rw [← hfst]; exact List.mem_map.mpr ⟨u, hu, rfl⟩
    obtain ⟨w, hw, e⟩ := List.mem_map.mp this
    rw [← e]
    exact s.nr w hw
  · intro j d hj he
    have hij : i ≠ j := fun z => hj (z ▸ hi)
    rw [eGet_ne hij] at he
    obtain ⟨v, e1, a1⟩ := s.env j d hj he
    exact ⟨v, e1, wk a1⟩
  · intro j d hj he
    by_cases hij : i = j
    · subst hij
      cases (eGet_set he).2
      exact ⟨(p, ob'), List.mem_map.mpr ⟨_, hU, by rw [if_pos rfl]⟩, hσ, wko a⟩
    · rw [eGet_ne hij] at he
      obtain ⟨u, hu, e1, a1⟩ := s.own j d hj he
      have hup : u.1 ≠ p := fun z => by
        rw [z] at e1
        rcases s.dst i j p hi hj hij hσ e1 with h | h
        · exact hl h
        · rw [h] at he; cases he
      exact ⟨u, List.mem_map.mpr ⟨u, hu, by rw [if_neg hup]⟩, e1, wko a1⟩
  · intro j k q hj hk ne h1 h2
    rcases s.dst j k q hj hk ne h1 h2 with h | h
    · by_cases hij : i = j
      · subst hij
        exact absurd h hl
      · exact .inl (by rw [eGet_ne hij]; exact h)
    · by_cases hik : i = k
      · subst hik
        exact absurd h hl
      · exact .inr (by rw [eGet_ne hik]; exact h)
def tApp (K : PySem.W.Frag) (i : Nat) (te : TE) : TS := tDrop (tBM K "list" rAppend (tVar i) (tCons te tNil))
theorem k_app {X : Cx} {st : Stmt} {i : Nat} {te : TE} (hK : X.K = K) (h : PS X st (tDrop (tBM X.K "list" rAppend (tVar i) (tCons te tNil)))) : PS X st (tApp K i te) := hK ▸ h
def aApp (ow : List Nat) (i : Nat) (f : AE) : AS := fun E ρ n => match eGet ρ i, ow.contains i with
  | some (.lst ds), true => f (wipeA ρ ow) n fun d n1 => ds.length < 1000000 ∧ E.nx (eSet ρ i (some (.lst (ds ++ [d])))) n1
  | _, _ => False
theorem app_run {W : Wd} {U : List (Addr × HO)} {σ : L2.St} {ρ : Env'} {n : Nat} {H : Hp} {i : Nat} {p : Addr} {v : V} {ds : List D} {d : D} {Q : Hp → Prop} (s : SOk K W ow n H σ ρ U) (hi : i ∈ ow) (he : eGet ρ i = some (.lst ds)) (hl : ds.length < 1000000) (hσ : σ[i]? = some (some (.ref p))) (ax : At K (W.plus U) H v d)
    (hQ : ∀ U' H', Stp W U H U' H' → SOk K W ow n H' σ (eSet ρ i (some (.lst (ds ++ [d])))) U' → Q H') : ∃ l xs y, V.ref p = .ref l ∧ [v] = [y] ∧ H l = some (.lst xs) ∧ xs.length < sizeLine ∧ Q (upd H l (.lst (xs ++ [y]))) := by
  obtain ⟨u, hu, e1, a⟩ := s.own i _ hi he
  rw [hσ] at e1
  have ep : p = u.1 := V.ref.inj (Option.some.inj (Option.some.inj e1))
  subst ep
  obtain ⟨p, ob⟩ := u
  cases a with
  | lst a =>
    rename_i us
    have hp1 := (s.ok.owns _ (List.mem_append_left _ hu)).1
    obtain ⟨st, s2⟩ := s.put hi (by rw [he]; exact fun z => nomatch z) hσ hu ⟨_, rfl⟩ (ob' := .lst (us ++ [v])) trivial (.lst (a.append (.cons ax .nil)))
    exact ⟨_, us, v, rfl, rfl, hp1, Nat.lt_of_lt_of_le (by rw [a.length]; exact hl) lim, hQ _ _ st s2⟩
instance {i : Nat} {te : TE} {f : AE} [DE K te f] : DS K ow (tApp K i te) (aApp ow i f) := ⟨fun W U σ ρ n H E Ea hD s h => by
  unfold aApp at h
  split at h
  · rename_i ds he hc
    have hi := List.contains_iff_mem.mp hc
    obtain ⟨u, hu, e1, a⟩ := s.own i _ hi he
    have hp1 := (s.ok.owns _ (List.mem_append_left _ hu)).1
    refine ⟨_, e1, ?_, DE.run (te := te) (f := f) (W.plus U) σ _ n H _ _ (fun d n1 h1 H1 x l1 o1 ax => ?_) s.hid s.ok h⟩
    · obtain ⟨p, ob⟩ := u
      cases a with
      | lst a => exact .inl ⟨rfl, _, SqL.of hp1⟩
    · exact app_run (s.le l1 o1) hi he h1.1 e1 ax fun U' H' st s' => hD.nx _ _ h1.2 U' σ H' ((Stp.hid l1).trans st) s'
  · exact h.elim⟩
/-! a def -/
def startA : Nat → List D → Env'
  | 0, _ => []
  | k + 1, [] => none :: startA k []
  | k + 1, d :: ds => some d :: startA k ds
theorem startA_none : ∀ {k i : Nat} {d : D}, eGet (startA k []) i = some d → False
  | 0, _, _, h => by cases h
  | k + 1, 0, _, h => by cases h
  | k + 1, i + 1, _, h => startA_none (k := k) (i := i) h
theorem startA_at {W : Wd} {H : Hp} : ∀ {k : Nat} {vs : List V} {ds : List D}, AtAll K W H vs ds → ∀ (i : Nat) (d : D), eGet (startA k ds) i = some d → ∃ v, vs[i]? = some v ∧ At K W H v d
  | 0, _, _, _, _, _, e => by cases e
  | k + 1, _, [], h, i, d, e => (startA_none e).elim
  | k + 1, _, _ :: _, h, 0, d, e => by
    cases h with
    | cons a r => cases e; exact ⟨_, rfl, a⟩
  | k + 1, _, _ :: ds, h, i + 1, d, e => by
    cases h with
    | cons a r => exact startA_at (k := k) r i d e
theorem startA_length : ∀ (k : Nat) (ds : List D), (startA k ds).length = k
  | 0, _ => rfl
  | k + 1, [] => by rw [startA, List.length_cons, startA_length]
  | k + 1, _ :: ds => by rw [startA, List.length_cons, startA_length]
theorem start_at {W : Wd} {H : Hp} {N : List Str} {k : Nat} {vs : List V} {ds : List D} (hk : N.length = k) (hl : ds.length ≤ k) (h : AtAll K W H vs ds) : EnvAt K W H (L2.start N vs) (startA k ds) := by
  unfold L2.start
  have hv := h.length
  refine ⟨by rw [startA_length]; simp; omega, fun i d e => ?_⟩
  obtain ⟨v, e1, a⟩ := startA_at h i d e
  refine ⟨v, ?_, a⟩
  have hi : i < vs.length := (List.getElem?_eq_some_iff.mp e1).1
  rw [List.getElem?_append_left (by rw [List.length_map]; exact hi), List.getElem?_map, e1]
  rfl
def aTop (Q : D → Nat → Prop) : AEn := { nx := fun _ n => Q .non n, rt := Q }
theorem le_start {W : Wd} {U : List (Addr × HO)} {H H' : Hp} (s : Stp W [] H U H') : W.le H H' := s.le
theorem startA_big : ∀ {k i : Nat} {ds : List D}, ds.length ≤ i → eGet (startA k ds) i = none
  | 0, _, _, _ => rfl
  | k + 1, 0, [], _ => rfl
  | k + 1, i + 1, [], h => startA_big (k := k) (i := i) (ds := []) (Nat.zero_le _)
  | k + 1, 0, _ :: _, h => absurd h (Nat.not_succ_le_zero _)
  | k + 1, i + 1, _ :: ds, h => startA_big (k := k) (i := i) (ds := ds) (Nat.le_of_succ_le_succ h)
theorem start_ok {W : Wd} {n : Nat} {H : Hp} {N : List Str} {k : Nat} {vs : List V} {ds : List D} (hk : N.length = k) (hl : ds.length ≤ k) (ho : ∀ i ∈ ow, ds.length ≤ i) (h : AtAll K W H vs ds) (o : W.ok K n H) : SOk K W ow n H (L2.start N vs) (startA k ds) [] := by
  have e := start_at hk hl h
  refine ⟨List.nodup_nil, fun u hu => (by cases hu), o, e.1, fun i d _ he => e.2 i d he, fun i d hi he => ?_, fun i j p hi _ _ _ _ => .inl (startA_big (ho i hi))⟩
  rw [startA_big (ho i hi)] at he
  cases he
theorem fn_mir {P : Program} {w : World} {mg : Str → Option Value} {base : Heap} {x qual : Str} {st : Stmt} {f : Addr} {fd : FuncData} {N ps : List Str} {k : Nat} {A : ASp} (ow : List Nat) (kk : Nat) (hk : N.length = kk) (hp : ps.length ≤ kk) (ho : ∀ i ∈ ow, ps.length ≤ i) (F : Fun K x qual st f fd) (S : FnScope N ps (defScope st))
    (hbody : ∀ (cdv : Value) (Ar : Around) (outer : List Env) (s : Shared) (H : Hp) (E : XK), Room k (Ar.deeper (envOfC qual (defScope st) s.heap.objs.size f cdv)) →
      ∃ (t : TS) (fa : AS), PSs (cxOf CX0 P w K mg base N qual (defScope st) f cdv Ar outer s H E).nox (defBody st) t ∧ DS K ow t fa ∧ ∀ ds n Q, ds.length = ps.length → A ds n Q → fa (aTop Q) (startA kk ds) n) : FnOk P w K mg base CX0 (k + 1) f fd ps (spOf K ps.length A) := by
  refine F.ok S (fun vs H Q E h => ?_) (fun cdv Ar outer s H vs Q E hr h => ?_)
  · obtain ⟨W, n, ds, Qa, a, hl, _⟩ := h
    rw [a.length, hl]
  · obtain ⟨W, n, ds, Qa, a, hl, o, hQ, hA⟩ := h
    obtain ⟨t, fa, h1, h2, h3⟩ := hbody cdv Ar outer s H E hr
    refine ⟨t, h1, DS.run (ow := ow) (t := t) (f := fa) W [] (L2.start N vs) (startA kk ds) n H _ (aTop Qa) ⟨fun ρ' n' q U' σ' H' l' s' => hQ _ _ q H' _ (le_start l') s'.base .non, fun d n' q U1 H1 H' v l' l2 o' a' => hQ _ _ q H' v ((le_start l').trans l2) o' a', fun _ _ q => q.elim, fun _ _ q => q.elim⟩ (start_ok hk (by omega) (fun i hi => by rw [hl]; exact ho i hi) a o) (h3 ds n Qa hl hA)⟩
end

/-! ### sorted -/
abbrev Pt := Int × Int
def lexLe (p q : Pt) : Prop := p.1 < q.1 ∨ (p.1 = q.1 ∧ p.2 ≤ q.2)
def pt (p : Pt) : D := .tup [.int p.1, .int p.2]
section
variable {K : PySem.W.Frag}
open Classical in
noncomputable def kz (zs : List (V × Pt)) (x : V) : Pt := if h : ∃ p, (x, p) ∈ zs then Classical.choose h else (0, 0)
theorem kz_is {zs : List (V × Pt)} {x : V} {p : Pt} (hu : ∀ q, (x, q) ∈ zs → q = p) (hm : (x, p) ∈ zs) : kz zs x = p := by
  unfold kz
  have h : ∃ p, (x, p) ∈ zs := ⟨p, hm⟩
  rw [dif_pos h]
  exact hu _ (Classical.choose_spec h)
def rSrtP (K : PySem.W.Frag) : List V → Hp → VK → Prop := fun vs H Q => ∃ (a : Addr) (zs : List (V × Pt)), vs = [V.ref a] ∧ SqL K H a (zs.map Prod.fst) ∧ (∀ z ∈ zs, ∃ t, z.1 = V.ref t ∧ SqT K H t [.int z.2.1, .int z.2.2]) ∧
  ∀ (ws : List (V × Pt)) (p : Addr), ws.Perm zs → (ws.map Prod.snd).Pairwise lexLe → H p = none → Q (.ref p) (upd H p (.lst (ws.map Prod.fst)))
theorem k_sortP {X : Cx} (hK : X.K = K) : CallR X (.builtin "sorted") (rSrtP K) := by
  subst hK
  intro pins s σ H vs us Q I r h
  obtain ⟨a, zs, rfl, hs, hx, q⟩ := h
  obtain ⟨its, rv, hl, hz⟩ := I.list hs
  obtain ⟨u, rfl, ru⟩ := vals1 r
  obtain rfl : u = Value.ref a := ru
  have hk : ∀ z ∈ zs, kz zs z.1 = z.2 := fun z hm => kz_is (fun p' hq => by
    obtain ⟨t, e, ht⟩ := hx z hm
    obtain ⟨t', e', ht'⟩ := hx _ hq
    rw [e] at e'
    cases e'
    have := I.tuple_inj ht ht'
    simp only [List.cons.injEq, V.int.injEq, and_true] at this
    exact Prod.ext this.1.symm this.2.symm) hm
  have hxs : ∀ x ∈ zs.map Prod.fst, ∃ t, x = V.ref t ∧ SqT X.K H t [.int (kz zs x).1, .int (kz zs x).2] := fun x hm => by
    obtain ⟨z, hz', rfl⟩ := List.mem_map.mp hm
    obtain ⟨t, e, ht⟩ := hx z hz'
    exact ⟨t, e, by rw [hk z hz']; exact ht⟩
  obtain ⟨e1, e2⟩ := refs_back rv fun x m => by
    obtain ⟨t, e, _⟩ := hxs x m
    exact ⟨t, e⟩
  refine SrtO.sorted_pairsO (k := fun u => kz zs (backV u)) hl.isList (by rw [← rv.length]; exact hz) (fun v hv => ?_) fun h' d out h1 h2 kp hd hn => ?_
  · obtain ⟨t, rfl⟩ := e2 v hv
    have hm : V.ref t ∈ zs.map Prod.fst := by rw [e1]; exact List.mem_map.mpr ⟨_, hv, rfl⟩
    obtain ⟨t', e, ht⟩ := hxs _ hm
    cases e
    obtain ⟨its2, r2, ⟨o, ho, hc, n, hd⟩, _⟩ := I.tuple ht
    obtain ⟨u1, u2, rfl, ri, rj⟩ := vals2 r2
    obtain ⟨t1, rfl⟩ := ri
    obtain ⟨t2, rfl⟩ := rj
    exact ⟨t, o, t1, t2, n, rfl, ho, hc, hd⟩
  · have h3 : ∀ u ∈ out, ∃ a, u = Value.ref a := fun u hu => e2 u (h2.perm.mem_iff.mp hu)
    obtain ⟨n, hn⟩ := hn
    have hb : SrtO.Stb (ltP (kz zs)) (out.map backV) (zs.map Prod.fst) := by
      rw [e1]
      exact SrtO.Stb.map (ltP_swo (kz zs)) backV h2
    have hw : ((out.map backV).map fun y => (y, kz zs y)).Perm zs := by
      have e3 : (zs.map Prod.fst).map (fun y => (y, kz zs y)) = zs := by
        rw [List.map_map]
        conv => rhs; rw [← List.map_id zs]
        exact List.map_congr_left fun z hz' => by
          show (z.1, kz zs z.1) = z
          rw [hk z hz']
      have := hb.perm.map fun y => (y, kz zs y)
      rw [e3] at this
      exact this
    have hf : ((out.map backV).map fun y => (y, kz zs y)).map Prod.fst = out.map backV := by
      rw [List.map_map]
      exact List.map_id _
    refine ⟨.ref d, upd H d (.lst (out.map backV)), I.laid (t' := s.toks) kp hd ⟨?_, out, n, vals_back h3, hn⟩, rfl, ?_⟩
    · rw [hb.len]
      exact hz
    · have := q _ d hw ?_ (I.hok.fresh hd)
      · rw [hf] at this
        exact this
      · have hs2 := SrtO.srtd_map (lt := ltP (kz zs)) (f := backV) h1
        rw [List.map_map, List.pairwise_map]
        refine List.Pairwise.imp (fun {a b} h => ?_) hs2
        have := SrtO.lexB_no.mp h
        show lexLe (kz zs a) (kz zs b)
        unfold lexLe
        omega
def aSrtP : List D → Nat → (D → Nat → Prop) → Prop := fun ds n Q => ∃ ps : List Pt, ds = [.lst (ps.map pt)] ∧ ∀ rs : List Pt, rs.Perm ps → rs.Pairwise lexLe → Q (.lst (rs.map pt)) n
theorem pts_zip {W : Wd} {H : Hp} : ∀ {ps : List Pt} {us : List V}, AtAll K W H us (ps.map pt) → ∃ zs : List (V × Pt), zs.map Prod.fst = us ∧ zs.map Prod.snd = ps ∧ ∀ z ∈ zs, (∃ t, z.1 = V.ref t ∧ SqT K H t [.int z.2.1, .int z.2.2]) ∧ At K W H z.1 (pt z.2)
  | [], _, h => by cases h; exact ⟨[], rfl, rfl, fun z hz => by cases hz⟩
  | p :: ps, _, h => by
    cases h with
    | @cons v vs _ _ a r =>
      obtain ⟨zs, h1, h2, h3⟩ := pts_zip r
      refine ⟨(v, p) :: zs, by rw [List.map_cons, h1], by rw [List.map_cons, h2], fun z hz => ?_⟩
      rcases List.mem_cons.mp hz with rfl | hz
      · refine ⟨?_, a⟩
        cases a with
        | tup s a =>
          cases a with
          | cons a b =>
            cases b with
            | cons b c =>
              cases a
              cases b
              cases c
              exact ⟨_, rfl, s⟩
      · exact h3 z hz
theorem zip_at {W : Wd} {H : Hp} : ∀ {ws : List (V × Pt)}, (∀ z ∈ ws, At K W H z.1 (pt z.2)) → AtAll K W H (ws.map Prod.fst) ((ws.map Prod.snd).map pt)
  | [], _ => .nil
  | w :: ws, h => .cons (h w List.mem_cons_self) (zip_at fun z hz => h z (List.mem_cons_of_mem _ hz))
instance : DL K (rSrtP K) aSrtP := ⟨fun W n H xs ds Q Qa hQ o a h => by
  obtain ⟨ps, rfl, h⟩ := h
  cases a with
  | cons a r =>
    cases r
    cases a with
    | @lst l us _ nr s a =>
      obtain ⟨zs, h1, h2, h3⟩ := pts_zip a
      subst h1 h2
      refine ⟨l, zs, rfl, SqL.of s, fun z hz => (h3 z hz).1, fun ws p hp hpw hn => hQ.new o (h (ws.map Prod.snd) (hp.map _) hpw) hn ?_⟩
      exact .lst (o.fresh hn) upd_same (AtAll.le o (Wd.le_same (same_upd hn)) _ (zip_at fun z hz => (h3 z (hp.mem_iff.mp hz)).2))⟩
/-! texts -/
def rSrtS (K : PySem.W.Frag) : List V → Hp → VK → Prop := rSortedS K
theorem k_sortS {X : Cx} (hK : X.K = K) : CallR X (.builtin "sorted") (rSrtS K) := hK ▸ cr_sortedS
end

/-! ### objects in the mirror -/
section
variable {K : PySem.W.Frag}
def aMeth (C : Addr) (m : Str) (k : Nat) (A : ASp) (fa : AE) (g : AA) : AE := fun ρ n Q => fa ρ n fun x n1 => match x with
  | .ins C' ns ds => (C' = C ∧ m ∉ ns) ∧ g ρ n1 fun args n2 => (match Nat.beq (args.length + 1) k with
    | true => A (.ins C' ns ds :: args) n2 Q
    | false => False)
  | _ => False
theorem zip_no {m : Str} : ∀ {ns : List Str} {xs : List V}, m ∉ ns → (ns.zip xs).lookup m = none
  | [], _, _ => rfl
  | _ :: _, [], _ => rfl
  | n :: ns, x :: xs, h => by
    rw [List.zip_cons_cons, List.lookup_cons]
    have : (m == n) = false := beq_eq_false_iff_ne.mpr fun z => h (by rw [z]; exact List.mem_cons_self)
    rw [this]
    exact zip_no fun z => h (List.mem_cons_of_mem _ z)
instance {C : Addr} {m : Str} {k : Nat} {A : ASp} {ta : TE} {t : TA} {fa : AE} {g : AA} [DE K ta fa] [DA K t g] : DE K (tMeth C m (spOf K k A) [] E0 ta t) (aMeth C m k A fa g) := ⟨fun W σ ρ n H Q Qa hQ hE o h =>
  DE.run (te := ta) (f := fa) W σ ρ n H _ _ (fun d n1 h1 H1 x l1 o1 ax => by
    split at h1
    · obtain ⟨⟨rfl, hm⟩, h1⟩ := h1
      cases ax with
      | @ins a _ dx ns xs ds s e b =>
        refine ⟨_, _, _, rfl, s, zip_no hm, DA.run (te := t) (f := g) W σ ρ n1 H1 _ _ (fun args n2 h2 H2 vs l2 o2 av => ?_) (hE.le o l1) o1 h1⟩
        rw [List.append_nil]
        split at h2
        · rename_i hb
          exact ⟨W, n2, _, Qa, .cons (At.le o1 l2 _ (.ins s e b)) av, Nat.eq_of_beq_eq_true hb, o2, hQ.le (l1.trans l2), h2⟩
        · exact h2.elim
    · exact h1.elim) hE o h⟩
/-- a method of an object whose class is one of several -/
inductive Kd where
  | w | f | r
def tDyn (K : PySem.W.Frag) (cls : Kd → Addr) (m : Str) (k : Nat) (A : Kd → ASp) (ta : TE) (t : TA) : TE := fun σ H Q => ∃ kd, tMeth (cls kd) m (spOf K k (A kd)) [] E0 ta t σ H Q
theorem k_dyn {X : Cx} {e : Expr} {cls : Kd → Addr} {m : Str} {k : Nat} {A : Kd → ASp} {ta : TE} {t : TA} (hw : PE X e (tMeth (cls .w) m (spOf K k (A .w)) [] E0 ta t)) (hf : PE X e (tMeth (cls .f) m (spOf K k (A .f)) [] E0 ta t)) (hr : PE X e (tMeth (cls .r) m (spOf K k (A .r)) [] E0 ta t)) : PE X e (tDyn K cls m k A ta t) :=
  ⟨fun pins s σ H Q I ⟨kd, h⟩ => match kd, h with
    | .w, h => hw.run pins s σ H Q I h
    | .f, h => hf.run pins s σ H Q I h
    | .r, h => hr.run pins s σ H Q I h⟩
def aDyn (cls : Kd → Addr) (m : Str) (k : Nat) (A : Kd → ASp) (fa : AE) (g : AA) : AE := fun ρ n Q => ∃ kd, aMeth (cls kd) m k (A kd) fa g ρ n Q
instance {cls : Kd → Addr} {m : Str} {k : Nat} {A : Kd → ASp} {ta : TE} {t : TA} {fa : AE} {g : AA} [DE K ta fa] [DA K t g] : DE K (tDyn K cls m k A ta t) (aDyn cls m k A fa g) := ⟨fun W σ ρ n H Q Qa hQ hE o h => by
  obtain ⟨kd, h⟩ := h
  exact ⟨kd, DE.run (K := K) (te := tMeth (cls kd) m (spOf K k (A kd)) [] E0 ta t) (f := aMeth (cls kd) m k (A kd) fa g) W σ ρ n H Q Qa hQ hE o h⟩⟩
end

/-! ### loops in the mirror -/
section
theorem aFor_ind {ow : List Nat} {G : D → Option (List (Nat × D))} {f : AS} {E : AEn} (I : List D → Env' → Nat → Prop)
    (hs : ∀ d r ρ n, I (d :: r) ρ n → (∀ ρ' n', I r ρ' n' → aForGo ow G f E r ρ' n') → aPut ow G d ρ fun ρ1 => f { E with nx := aForGo ow G f E r, ct := aForGo ow G f E r, bk := E.nx } ρ1 n)
    (hd : ∀ ρ n, I [] ρ n → E.nx ρ n) : ∀ {ds : List D} {ρ : Env'} {n : Nat}, I ds ρ n → aForGo ow G f E ds ρ n
  | [], ρ, n, h => hd ρ n h
  | d :: r, ρ, n, h => hs d r ρ n h fun ρ' n' h' => aFor_ind I hs hd h'
theorem aLc_ind {vs : List Nat} {G : D → Option (List (Nat × D))} {c : AT} {e : AE} {ρ : Env'} {Q : D → Nat → Prop} (I : List D → List D → Nat → Prop)
    (hs : ∀ acc d r n, I acc (d :: r) n → (∀ acc' n', I acc' r n' → aLcGo vs G c e ρ Q acc' r n') → aPutC vs G d ρ fun ρ1 => c ρ1 n fun b n2 => aIte b (e ρ1 n2 fun y n3 => aLcGo vs G c e ρ Q (acc ++ [y]) r n3) (aLcGo vs G c e ρ Q acc r n2))
    (hd : ∀ acc n, I acc [] n → Q (.lst acc) n) : ∀ {acc ds : List D} {n : Nat}, I acc ds n → aLcGo vs G c e ρ Q acc ds n
  | acc, [], n, h => hd acc n h
  | acc, d :: r, n, h => hs acc d r n h fun acc' n' h' => aLc_ind I hs hd h'
theorem rangeD_map (lo : Int) : ∀ k, rangeD lo k = (List.range' 0 k).map fun i => D.int (lo + (i : Nat)) := by
  have : ∀ k s, rangeD (lo + (s : Nat)) k = (List.range' s k).map fun i => D.int (lo + (i : Nat)) := fun k => by
    induction k with
    | zero => intro s; rfl
    | succ k ih =>
      intro s
      rw [List.range'_succ, List.map_cons, rangeD, ← ih (s + 1)]
      congr 2
      omega
  intro k
  have := this k 0
  rw [Int.natCast_zero, Int.add_zero] at this
  exact this
theorem pick_at {α : Type} {xs : List α} {r : Int} (h0 : 0 ≤ r) (h1 : r < xs.length) : ∃ x, x ∈ xs ∧ atI xs r = some x := by
  obtain ⟨k, rfl⟩ := Int.eq_ofNat_of_zero_le h0
  have hk : k < xs.length := by omega
  exact ⟨xs[k], List.getElem_mem hk, atI_nat (List.getElem?_eq_getElem hk)⟩
end

/-! ### an except suite whose error is of a known class -/
def tOwn (D : Addr) (cls : Value) (d : Option Addr) (t : TS) : TS := fun e σ H => cls = .ref D ∧ d = none ∧ t e σ H
theorem suite_own {X : Cx} {ss : List Stmt} {t : TS} {D : Addr} {oe : Obj} {cls : Value} {d : Option Addr} (hz : Zc cls d oe) (h : Zc (.ref D) none oe → PSs X ss t) : PSs X ss (tOwn D cls d t) := ⟨fun pins s σ H E I q => by
  obtain ⟨rfl, rfl, q⟩ := q
  exact (h hz).run pins s σ H E I q⟩
theorem kit_ref {K : PySem.W.Frag} {D C : Addr} {b : Bool} (hc : PySem.W.isClsIn K C = true) (ht : PySem.W.typeIn K (.ref C) = some (.type "type")) (hs : PySem.W.subIn K (.ref D) (.ref C) = some b) (hd : PySem.W.subIn K (.ref D) (.ref D) = some true) : PySem.W.kitOne K (.ref D) (.ref C) = some b := by
  unfold PySem.W.kitOne
  by_cases e : D = C
  · subst e
    rw [hd] at hs
    cases hs
    rw [if_pos (beq_self_eq_true _)]
  · have hne : ¬ ((Value.ref D == Value.ref C) = true) := fun z => e (Value.ref.inj (beq_iff_eq.mp z))
    rw [if_neg hne]
    have h2 : ((PySem.W.clsIn K C).isSome && PySem.W.typeIn K (.ref C) == some (.type "type")) = true := by
      have h2' : (PySem.W.clsIn K C).isSome = true := hc
      rw [h2', ht] <;> rfl
    show (if ((PySem.W.clsIn K C).isSome && PySem.W.typeIn K (.ref C) == some (.type "type")) = true then PySem.W.subIn K (.ref D) (.ref C) else none) = some b
    rw [if_pos h2]
    exact hs
theorem kit_type {K : PySem.W.Frag} {D : Addr} {n : String} {b : Bool} (hm : PySem.W.kitMeta n = true) (hs : PySem.W.subIn K (.ref D) (.type n) = some b) : PySem.W.kitOne K (.ref D) (.type n) = some b := by
  unfold PySem.W.kitOne
  have hne : ¬ ((Value.ref D == Value.type n) = true) := fun z => nomatch (beq_iff_eq.mp z)
  rw [if_neg hne]
  show (if PySem.W.kitMeta n = true then PySem.W.subIn K (.ref D) (.type n) else none) = some b
  rw [if_pos hm]
  exact hs

section
variable {P : Program} {w : World} {K : PySem.W.Frag} {mg : Str → Option Value} {base : Heap} {A : Ad}
/-! ### the deck in the mirror -/
def a_l_take : ASp := fun ds n Q => ∃ m : Int, ds = [.deck, .int m] ∧ 0 < m ∧ m.natAbs.log2 < 9000 ∧ 1 ≤ n ∧ ∀ r, 0 ≤ r → r < m → Q (.int r) (n - 1)
theorem ok_l_take (T : Tx K mg A) : FnOk P w K mg base CX0 3 A.f_l_take A.fd_l_take ["_law_deck_here", "_law_many"] (spOf K 2 a_l_take) := (ok0_l_take T).imp fun vs H Q E h => by
  obtain ⟨W, n, ds, Qa, a, hl, o, hQ, m, rfl, hm, hlog, hn, q⟩ := h
  cases a with
  | cons a r =>
    cases r with
    | cons b r =>
      cases r
      cases b
      cases a with
      | @deck d b e =>
        obtain ⟨c, D, lc⟩ := o.deck d b e
        refine ⟨d, b, c, m, rfl, D, by omega, hm, hlog, fun H' r D' kp h0 h1 => hQ _ _ (q r h0 h1) H' _ (fun x ob nr hx => kp x ob (fun z => nr (.inl ⟨d, b, e, .inl z⟩)) (fun z => nr (.inl ⟨d, b, e, .inr z⟩)) hx) ⟨fun d' b' e' => ?_, fun p hp => ?_, o.dis⟩ (.int r)⟩
        · rw [e] at e'
          cases e'
          exact ⟨c + 1, D', by omega⟩
        · obtain ⟨h1, h2⟩ := o.owns p hp
          obtain ⟨n1, n2⟩ := o.dis d b e p hp
          exact ⟨kp _ _ n1 n2 h1, h2⟩
/-! ### the law's own def -/
def sp_law (K : PySem.W.Frag) : Sp := fun vs H Q _ => ∃ (a : Addr) (ns : List Int), vs = [.ref a] ∧ Only H ∧ SqL K H a (ns.map V.int) ∧ ns.length ≤ 63 ∧ ∀ H', Q (.bl true) H'
theorem law_start {W : Wd} {ow : List Nat} {n : Nat} {H : Hp} {N : List Str} {k i : Nat} {a d b : Addr} (hk : N.length = k) (h0 : 0 < k) (hi : i ∉ ow) (hd : W.dk = some (d, b)) (o : W.ok K n H) : SOk K W ow n H ((L2.start N [.ref a]).set i (some (.ref d))) (eSet (startA k []) i (some .deck)) [] := by
  have hg : ∀ j e, eGet (eSet (startA k []) i (some .deck)) j = some e → i = j ∧ e = .deck ∧ i < k := fun j e he => by
    by_cases hij : i = j
    · subst hij
      obtain ⟨h1, h2⟩ := eGet_set he
      rw [startA_length] at h1
      exact ⟨rfl, (Option.some.inj h2).symm, h1⟩
    · rw [eGet_ne hij] at he
      exact (startA_none he).elim
  have hlen : (L2.start N [V.ref a]).length = k := by
    unfold L2.start
    rw [List.length_append, List.length_map, List.length_replicate]
    show 1 + (N.length - 1) = k
    omega
  refine ⟨List.nodup_nil, fun u hu => (by cases hu), o, by rw [List.length_set, eSet_length, startA_length, hlen], fun j e _ he => ?_, fun j e hj he => ?_, fun j m p hj hm _ _ _ => .inl ?_⟩
  · obtain ⟨rfl, rfl, hlt⟩ := hg j e he
    exact ⟨_, List.getElem?_set_self (by rw [hlen]; exact hlt), .deck hd⟩
  · obtain ⟨rfl, _⟩ := hg j e he
    exact absurd hj hi
  · cases e : eGet (eSet (startA k []) i (some .deck)) j with
    | none => rfl
    | some e' =>
      obtain ⟨rfl, _⟩ := hg j e' e
      exact absurd hj hi
theorem law_mir {P : Program} {w : World} {mg : Str → Option Value} {base : Heap} {x qual : Str} {st : Stmt} {f : Addr} {fd : FuncData} {N : List Str} {k : Nat} (ow : List Nat) (kk i : Nat) (hk : N.length = kk) (h0 : 0 < kk) (hi : i ∉ ow) (F : Fun K x qual st f fd) (S : FnScope N ["_law_script"] (defScope st))
    (hbody : ∀ (cdv : Value) (Ar : Around) (outer : List Env) (s : Shared) (H : Hp) (E : XK), Room k (Ar.deeper (envOfC qual (defScope st) s.heap.objs.size f cdv)) →
      ∃ (t : TS) (fa : AS), PSs (cxOf CX0 P w K mg base N qual (defScope st) f cdv Ar outer s H E).nox (defBody st) (tSeq (tAsg (tCall (sp_l_deck K) [] E0 (tCons (tVar 0) tNil)) (gName i)) t) ∧ DS K ow t fa ∧ fa (aTop fun d _ => d = .bl true) (eSet (startA kk []) i (some .deck)) 900000) : FnOk P w K mg base CX0 (k + 1) f fd ["_law_script"] (sp_law K) := by
  refine F.ok S (fun vs H Q E h => ?_) (fun cdv Ar outer s H vs Q E hr h => ?_)
  · obtain ⟨a, ns, rfl, _⟩ := h
    rfl
  · obtain ⟨a, ns, rfl, hO, hS, hn, q⟩ := h
    obtain ⟨t, fa, h1, h2, h3⟩ := hbody cdv Ar outer s H E hr
    refine ⟨_, h1, ?_⟩
    refine ⟨.ref a, rfl, a, ns, rfl, Sc.mk hO hS, hn, fun H' d b hd hb D sm => ?_⟩
    refine DS.run (K := K) (ow := ow) (t := t) (f := fa) ⟨some (d, b), []⟩ [] _ _ 900000 H' _ (aTop fun d _ => d = .bl true) ⟨fun ρ' n' z => (by cases z), fun d' n' z U1 H1 H2 v _ _ _ a' => ?_, fun _ _ q => q.elim, fun _ _ q => q.elim⟩ (law_start hk h0 hi rfl ⟨fun d' b' e' => ?_, fun p hp => (by cases hp), fun _ _ _ p hp => (by cases hp)⟩) h3
    · subst z
      cases a'
      exact q _
    · cases e'
      exact ⟨0, D, by omega⟩

/-! ### shares in the mirror -/
def sh (q : Rat) : D := .tup [.int q.num, .int (q.den : Int)]
theorem sh_of {t u a b : Int} (h : IsSh t u) (hb : b ≠ 0) (c : t * b = u * a) : D.tup [.int t, .int u] = sh (Rat.divInt a b) := by
  obtain ⟨h1, h2⟩ := rep_divInt h hb c
  rw [h1, h2]
  rfl
theorem mulA {n m : Nat} {x y : Int} (h : Bd n x) (g : Bd m y) (hn : n ≤ 400000) (hm : m ≤ 400000) : CMulA x y := .inr (h.mulW g hn hm)
theorem divA {n : Nat} {x y : Int} (h : Bd n y) (h0 : 0 < y) (hn : n < 9000) : CDivA x y := .inr (h.divW h0 hn)
theorem dIte {p : Prop} [Decidable p] {a b : Prop} (h : p → a) (g : ¬ p → b) : aIte (decide p) a b := ⟨fun e => h (of_decide_eq_true e), fun e => g (of_decide_eq_false e)⟩
def a_gcd : ASp := fun ds n Q => ∃ a b : Int, ds = [.int a, .int b] ∧ Q (.int (gcdI a b)) n
theorem bits_le {b : Int} (h : Bd 4000 b) : ¬ (((Builtin.Int.intBits (if b < 0 then -b else b) : Nat) : Int) > 4000) := by
  have := PyProof.Rows.intBits_le (a := (if b < 0 then -b else b)) (k := 4000) (by rw [abs_nat]; exact h)
  omega
def a_p_common_divisor : ASp := fun ds n Q => ∃ a b : Int, ds = [.int a, .int b] ∧ Bd 4000 b ∧ Q (.int (gcdI a b)) n
theorem ok_p_common_divisor (T : Tx K mg A) : FnOk P w K mg base CX0 1 A.f_p_common_divisor A.fd_p_common_divisor ["one", "other"] (spOf K 2 a_p_common_divisor) := by
  refine fn_mir [] 2 rfl (by decide) (by decide) T.F_p_common_divisor sc_p_common_divisor fun cdv Ar outer s H E hr => ?_
  refine ⟨_, _, (pss_cons (ps_set (i := 0) sc_p_common_divisor.nd rfl (.inl rfl) (pe_callB k_abs (by rfl) T.m_abs (by decide +kernel) (pa_cons (pv 0) pa_nil)))
    (pss_cons (ps_set (i := 1) sc_p_common_divisor.nd rfl (.inl rfl) (pe_callB k_abs (by rfl) T.m_abs (by decide +kernel) (pa_cons (pv 1) pa_nil)))
    (pss_cons (ps_if (PW.pt (pw_and (pt_cmpR op_gt (pe_bits (pv 0)) (pe_glob (v := .int 4000) (by rfl) T.g_LENGTHY ⟨_, rfl⟩) (nomark _)) (pw_and1 (pt_cmpR op_gt (pe_bits (pv 1)) (pe_glob (v := .int 4000) (by rfl) T.g_LENGTHY ⟨_, rfl⟩) (nomark _)))))
      (pss_one ps_never)
      pss_nil)
    (pss_cons (ps_while PassesOwn.never (pt_cmpR (k_ne (K := K) rfl hr.units) (pv 1) pe_int (nomark _))
      (pss_one (ps_par (i := 0) (j := 1) (by rfl) sc_p_common_divisor.nd rfl rfl (by decide) rfl rfl (pa_cons (pv 1) (pa_cons (pe_op op_mod (pv 0) (pv 1)) pa_nil)) (by rfl))))
    (pss_one (ps_ret (pv 0))))))), by infer_instance, fun ds n Q hl hA => ?_⟩
  obtain ⟨a, b, rfl, hb, q⟩ := hA
  refine dIte (fun _ => dIte (fun e => absurd e (bits_le hb)) (fun _ => ?_)) (fun _ => aF ?_)
  all_goals
    refine ⟨fun m ρ n' => ∃ x y : Nat, ρ = [some (.int (x : Int)), some (.int (y : Int))] ∧ m = y ∧ n' = n ∧ Nat.gcd x y = Nat.gcd a.natAbs b.natAbs, ⟨_, a.natAbs, b.natAbs, by rw [← abs_nat, ← abs_nat]; rfl, rfl, rfl, rfl⟩, ?_⟩
    rintro m _ _ ⟨x, y, rfl, rfl, rfl, g⟩
    refine ⟨fun h => ?_, fun h => ?_⟩
    · have hm : m ≠ 0 := fun z => by subst z; cases h
      refine ⟨(show (0 : Int) < m by omega), x % m, Nat.mod_lt _ (by omega), m, x % m, rfl, rfl, rfl, ?_⟩
      rw [← g, Nat.gcd_comm x m, Nat.gcd_rec m x, Nat.gcd_comm]
    · have hm : m = 0 := by
        have h2 : decide ((m : Int) = 0) = true := by
          have : (!decide ((m : Int) = 0)) = false := h
          simpa using this
        have := of_decide_eq_true h2
        omega
      subst hm
      have e : (x : Int) = gcdI a b := by
        unfold gcdI
        rw [← g, Nat.gcd_zero_right]
      show Q (.int (x : Int)) _
      rw [e]
      exact q
def a_p_plus : ASp := fun ds n Q => ∃ (x y : Rat) (k m : Nat), ds = [sh x, sh y] ∧ BdQ k x ∧ BdQ m y ∧ k ≤ 4000 ∧ m ≤ 4000 ∧ Q (sh (x + y)) n
theorem ok_p_plus (T : Tx K mg A) : FnOk P w K mg base CX0 2 A.f_p_plus A.fd_p_plus ["one", "other"] (spOf K 2 a_p_plus) := by
  refine fn_mir [] 9 rfl (by decide) (by decide) T.F_p_plus sc_p_plus fun cdv Ar outer s H E hr => ?_
  refine ⟨_, _, (pss_cons (ps_asg (pv 0) (k_gtup (K := K) (m := 2) rfl rfl (pgs_cons (pg_name (i := 2) sc_p_plus.nd rfl (.inl rfl)) (pgs_cons (pg_name (i := 3) sc_p_plus.nd rfl (.inl rfl)) pgs_nil))))
    (pss_cons (ps_asg (pv 1) (k_gtup (K := K) (m := 2) rfl rfl (pgs_cons (pg_name (i := 4) sc_p_plus.nd rfl (.inl rfl)) (pgs_cons (pg_name (i := 5) sc_p_plus.nd rfl (.inl rfl)) pgs_nil))))
    (pss_cons (ps_set (i := 6) sc_p_plus.nd rfl (.inl rfl) (pe_call (ok_p_common_divisor (K := K) T) (hr.mono (by decide)) (by rfl) T.g_p_common_divisor T.F_p_common_divisor.kp T.b_p_common_divisor .nil pass0 (pa_cons (pv 3) (pa_cons (pv 5) pa_nil))))
    (pss_cons (ps_if (pt_cmpR (k_eq (K := K) rfl hr.units) (pv 6) pe_int (nomark _))
      (pss_one (ps_ret (pe_tup (pa_cons (pe_op (k_add (K := K) rfl) (pe_op k_mul (pv 2) (pv 5)) (pe_op k_mul (pv 4) (pv 3))) (pa_cons (pe_op k_mul (pv 3) (pv 5)) pa_nil)))))
      pss_nil)
    (pss_cons (ps_set (i := 7) sc_p_plus.nd rfl (.inl rfl) (pe_op (k_add (K := K) rfl) (pe_op k_mul (pv 2) (pe_op k_fdiv (pv 5) (pv 6))) (pe_op k_mul (pv 4) (pe_op k_fdiv (pv 3) (pv 6)))))
    (pss_cons (ps_set (i := 8) sc_p_plus.nd rfl (.inl rfl) (pe_call (ok_p_common_divisor (K := K) T) (hr.mono (by decide)) (by rfl) T.g_p_common_divisor T.F_p_common_divisor.kp T.b_p_common_divisor .nil pass0 (pa_cons (pv 7) (pa_cons (pv 6) pa_nil))))
    (pss_one (ps_ret (pe_tup (pa_cons (pe_op k_fdiv (pv 7) (pv 8)) (pa_cons (pe_op k_mul (pe_op k_fdiv (pv 3) (pv 6)) (pe_op k_fdiv (pv 5) (pv 8))) pa_nil))))))))))), by infer_instance, fun ds n Q hl hA => ?_⟩
  obtain ⟨x, y, k, m, rfl, bx, bY, hk, hm, q⟩ := hA
  have hx := isSh_q x
  have hy := isSh_q y
  have dx := den_pos x
  have dy := den_pos y
  refine ⟨(x.den : Int), (y.den : Int), rfl, bY.2.le hm, ?_⟩
  refine dIte (fun e => ?_) (fun e => ?_)
  · refine ⟨mulA bx.1 bY.2 (by omega) (by omega), mulA bY.1 bx.2 (by omega) (by omega), mulA bx.2 bY.2 (by omega) (by omega), ?_⟩
    show Q (.tup [.int (x.num * y.den + y.num * x.den), .int ((x.den : Int) * y.den)]) n
    rw [sh_of (plus_one hx hy e) (by have := Int.mul_pos dx dy; omega) (Int.mul_comm _ _), ← add_divInt]
    exact q
  · obtain ⟨d, hd⟩ : ∃ d, gcdI x.den y.den = d := ⟨_, rfl⟩
    rw [hd]
    have hdb : Bd m d := hd ▸ gcdI_bd bY.2 (by omega)
    have hd0 : 0 < d := hd ▸ gcdI_pos (by omega)
    have db1 : Bd m (y.den / d) := bY.2.of_le (div_natAbs_le hd0 (hd ▸ gcdI_dvd_r _ _))
    have db2 : Bd k (x.den / d) := bx.2.of_le (div_natAbs_le hd0 (hd ▸ gcdI_dvd_l _ _))
    refine ⟨divA hdb hd0 (by omega), mulA bx.1 db1 (by omega) (by omega), divA hdb hd0 (by omega), mulA bY.1 db2 (by omega) (by omega), _, d, rfl, hdb.le hm, ?_⟩
    obtain ⟨g, hg⟩ : ∃ g, gcdI (x.num * (y.den / d) + y.num * (x.den / d)) d = g := ⟨_, rfl⟩
    rw [hg]
    have hg0 : 0 < g := hg ▸ gcdI_pos (by omega)
    have hgb : Bd m g := hg ▸ gcdI_bd hdb (by omega)
    have db3 : Bd m (y.den / g) := bY.2.of_le (div_natAbs_le hg0 (Int.dvd_trans (hg ▸ gcdI_dvd_r _ _) (hd ▸ gcdI_dvd_r _ _)))
    refine ⟨divA hgb hg0 (by omega), divA hdb hd0 (by omega), divA hgb hg0 (by omega), mulA db2 db3 (by omega) (by omega), ?_⟩
    obtain ⟨h1, h2⟩ := plus_two hx hy hd rfl hg
    show Q (.tup [.int _, .int _]) n
    rw [sh_of h1 (by have := Int.mul_pos dx dy; omega) h2, ← add_divInt]
    exact q
def a_p_times : ASp := fun ds n Q => ∃ (x y : Rat) (k m : Nat), ds = [sh x, sh y] ∧ BdQ k x ∧ BdQ m y ∧ k ≤ 4000 ∧ m ≤ 4000 ∧ Q (sh (x * y)) n
theorem ok_p_times (T : Tx K mg A) : FnOk P w K mg base CX0 2 A.f_p_times A.fd_p_times ["one", "other"] (spOf K 2 a_p_times) := by
  refine fn_mir [] 8 rfl (by decide) (by decide) T.F_p_times sc_p_times fun cdv Ar outer s H E hr => ?_
  refine ⟨_, _, (pss_cons (ps_asg (pv 0) (k_gtup (K := K) (m := 2) rfl rfl (pgs_cons (pg_name (i := 2) sc_p_times.nd rfl (.inl rfl)) (pgs_cons (pg_name (i := 3) sc_p_times.nd rfl (.inl rfl)) pgs_nil))))
    (pss_cons (ps_asg (pv 1) (k_gtup (K := K) (m := 2) rfl rfl (pgs_cons (pg_name (i := 4) sc_p_times.nd rfl (.inl rfl)) (pgs_cons (pg_name (i := 5) sc_p_times.nd rfl (.inl rfl)) pgs_nil))))
    (pss_cons (ps_set (i := 6) sc_p_times.nd rfl (.inl rfl) (pe_call (ok_p_common_divisor (K := K) T) (hr.mono (by decide)) (by rfl) T.g_p_common_divisor T.F_p_common_divisor.kp T.b_p_common_divisor .nil pass0 (pa_cons (pv 2) (pa_cons (pv 5) pa_nil))))
    (pss_cons (ps_set (i := 7) sc_p_times.nd rfl (.inl rfl) (pe_call (ok_p_common_divisor (K := K) T) (hr.mono (by decide)) (by rfl) T.g_p_common_divisor T.F_p_common_divisor.kp T.b_p_common_divisor .nil pass0 (pa_cons (pv 4) (pa_cons (pv 3) pa_nil))))
    (pss_one (ps_ret (pe_tup (pa_cons (pe_op k_mul (pe_op k_fdiv (pv 2) (pv 6)) (pe_op k_fdiv (pv 4) (pv 7))) (pa_cons (pe_op k_mul (pe_op k_fdiv (pv 3) (pv 7)) (pe_op k_fdiv (pv 5) (pv 6))) pa_nil))))))))), by infer_instance, fun ds n Q hl hA => ?_⟩
  obtain ⟨x, y, k, m, rfl, bx, bY, hk, hm, q⟩ := hA
  have hx := isSh_q x
  have hy := isSh_q y
  have dx := den_pos x
  have dy := den_pos y
  obtain ⟨d, hd⟩ : ∃ d, gcdI x.num y.den = d := ⟨_, rfl⟩
  obtain ⟨e, he⟩ : ∃ e, gcdI y.num x.den = e := ⟨_, rfl⟩
  refine ⟨x.num, (y.den : Int), rfl, bY.2.le hm, ?_⟩
  rw [hd]
  refine ⟨y.num, (x.den : Int), rfl, bx.2.le hk, ?_⟩
  rw [he]
  have hd0 : 0 < d := hd ▸ gcdI_pos (by omega)
  have he0 : 0 < e := he ▸ gcdI_pos (by omega)
  have hdb : Bd m d := hd ▸ gcdI_bd bY.2 (by omega)
  have heb : Bd k e := he ▸ gcdI_bd bx.2 (by omega)
  have b1 : Bd k (x.num / d) := bx.1.of_le (div_natAbs_le hd0 (hd ▸ gcdI_dvd_l _ _))
  have b2 : Bd m (y.num / e) := bY.1.of_le (div_natAbs_le he0 (he ▸ gcdI_dvd_l _ _))
  have b3 : Bd k (x.den / e) := bx.2.of_le (div_natAbs_le he0 (he ▸ gcdI_dvd_r _ _))
  have b4 : Bd m (y.den / d) := bY.2.of_le (div_natAbs_le hd0 (hd ▸ gcdI_dvd_r _ _))
  refine ⟨divA hdb hd0 (by omega), divA heb he0 (by omega), mulA b1 b2 (by omega) (by omega), divA heb he0 (by omega), divA hdb hd0 (by omega), mulA b3 b4 (by omega) (by omega), ?_⟩
  obtain ⟨h1, h2⟩ := times_one hx hy hd he
  show Q (.tup [.int _, .int _]) n
  rw [sh_of h1 (by have := Int.mul_pos dx dy; omega) h2, ← mul_divInt]
  exact q
def a_p_minus : ASp := fun ds n Q => ∃ (x y : Rat) (k m : Nat), ds = [sh x, sh y] ∧ BdQ k x ∧ BdQ m y ∧ k ≤ 4000 ∧ m ≤ 4000 ∧ Q (sh (x - y)) n
theorem ok_p_minus (T : Tx K mg A) : FnOk P w K mg base CX0 3 A.f_p_minus A.fd_p_minus ["one", "other"] (spOf K 2 a_p_minus) := by
  refine fn_mir [] 4 rfl (by decide) (by decide) T.F_p_minus sc_p_minus fun cdv Ar outer s H E hr => ?_
  refine ⟨_, _, (pss_cons (ps_asg (pv 1) (k_gtup (K := K) (m := 2) rfl rfl (pgs_cons (pg_name (i := 2) sc_p_minus.nd rfl (.inl rfl)) (pgs_cons (pg_name (i := 3) sc_p_minus.nd rfl (.inl rfl)) pgs_nil))))
    (pss_one (ps_ret (pe_call (ok_p_plus (K := K) T) (hr.mono (by decide)) (by rfl) T.g_p_plus T.F_p_plus.kp T.b_p_plus .nil pass0 (pa_cons (pv 0) (pa_cons (pe_tup (pa_cons (pe_un un_neg (pv 2)) (pa_cons (pv 3) pa_nil))) pa_nil)))))), by infer_instance, fun ds n Q hl hA => ?_⟩
  obtain ⟨x, y, k, m, rfl, bx, bY, hk, hm, q⟩ := hA
  refine ⟨x, -y, k, m, rfl, bx, bY.neg, hk, hm, ?_⟩
  rw [← Rat.sub_eq_add_neg]
  exact q
def a_p_over : ASp := fun ds n Q => ∃ (x y : Rat) (k m : Nat), ds = [sh x, sh y] ∧ BdQ k x ∧ BdQ m y ∧ k ≤ 4000 ∧ m ≤ 4000 ∧ y ≠ 0 ∧ Q (sh (x / y)) n
theorem ok_p_over (T : Tx K mg A) : FnOk P w K mg base CX0 3 A.f_p_over A.fd_p_over ["one", "other"] (spOf K 2 a_p_over) := by
  refine fn_mir [] 4 rfl (by decide) (by decide) T.F_p_over sc_p_over fun cdv Ar outer s H E hr => ?_
  refine ⟨_, _, (pss_cons (ps_asg (pv 1) (k_gtup (K := K) (m := 2) rfl rfl (pgs_cons (pg_name (i := 2) sc_p_over.nd rfl (.inl rfl)) (pgs_cons (pg_name (i := 3) sc_p_over.nd rfl (.inl rfl)) pgs_nil))))
    (pss_cons (ps_if (pt_cmpR (k_eq (K := K) rfl hr.units) (pv 2) pe_int (nomark _))
      (pss_one ps_never)
      pss_nil)
    (pss_cons (ps_if (pt_cmpR op_lt (pv 2) pe_int (nomark _))
      (pss_one (ps_ret (pe_call (ok_p_times (K := K) T) (hr.mono (by decide)) (by rfl) T.g_p_times T.F_p_times.kp T.b_p_times .nil pass0 (pa_cons (pv 0) (pa_cons (pe_tup (pa_cons (pe_un un_neg (pv 3)) (pa_cons (pe_un un_neg (pv 2)) pa_nil))) pa_nil)))))
      pss_nil)
    (pss_one (ps_ret (pe_call (ok_p_times (K := K) T) (hr.mono (by decide)) (by rfl) T.g_p_times T.F_p_times.kp T.b_p_times .nil pass0 (pa_cons (pv 0) (pa_cons (pe_tup (pa_cons (pv 3) (pa_cons (pv 2) pa_nil))) pa_nil)))))))), by infer_instance, fun ds n Q hl hA => ?_⟩
  obtain ⟨x, y, k, m, rfl, bx, bY, hk, hm, h0, q⟩ := hA
  have hn : y.num ≠ 0 := fun z => h0 (Rat.num_eq_zero.mp z)
  refine dIte (fun e => absurd e hn) (fun _ => ?_)
  refine dIte (fun e => ?_) (fun e => ?_)
  · obtain ⟨i1, i2⟩ := inv_rep_neg e
    refine ⟨x, y⁻¹, k, m, ?_, bx, ⟨by rw [i1]; exact bY.2.neg, by rw [i2]; exact bY.1.neg⟩, hk, hm, ?_⟩
    · show [sh x, D.tup [.int (-(y.den : Int)), .int (-y.num)]] = [sh x, D.tup [.int (y⁻¹).num, .int ((y⁻¹).den : Int)]]
      rw [i1, i2]
    · rw [← Rat.div_def]
      exact q
  · obtain ⟨i1, i2⟩ := inv_rep (q := y) (by omega)
    refine ⟨x, y⁻¹, k, m, ?_, bx, ⟨by rw [i1]; exact bY.2, by rw [i2]; exact bY.1⟩, hk, hm, ?_⟩
    · show [sh x, D.tup [.int (y.den : Int), .int y.num]] = [sh x, D.tup [.int (y⁻¹).num, .int ((y⁻¹).den : Int)]]
      rw [i1, i2]
    · rw [← Rat.div_def]
      exact q
theorem kon_NOUGHT' {K : PySem.W.Frag} {a : Addr} (h : ∀ H, SqT K H a [.int 0, .int 1]) : Kon K a (sh 0) := ⟨fun W H => .tup (h H) (.cons (.int _) (.cons (.int _) .nil))⟩

/-! ### spots in the mirror -/
def spt (x y : Rat) : D := .tup [sh x, sh y]
theorem bdq_int {n : Nat} {p : Int} (h : Bd n p) (hn : 0 < n) : BdQ n (p : Rat) := ⟨h, Nat.one_lt_two_pow (by omega)⟩
def a_along (f : Int → Int → Rat → Rat → Rat) : ASp := fun ds n Q => ∃ (p q : Int) (x y : Rat) (k m : Nat), ds = [.tup [.int p, .int q], spt x y] ∧ Bd m p ∧ Bd m q ∧ BdQ k x ∧ BdQ k y ∧ 0 < m ∧ k ≤ 1500 ∧ m ≤ 1500 ∧ Q (sh (f p q x y)) n
def a_p_along : ASp := a_along fun p q x y => p * x + q * y
theorem ok_p_along (T : Tx K mg A) : FnOk P w K mg base CX0 3 A.f_p_along A.fd_p_along ["way", "spot"] (spOf K 2 a_p_along) := by
  refine fn_mir [] 6 rfl (by decide) (by decide) T.F_p_along sc_p_along fun cdv Ar outer s H E hr => ?_
  refine ⟨_, _, (pss_cons (ps_asg (pv 0) (k_gtup (K := K) (m := 2) rfl rfl (pgs_cons (pg_name (i := 2) sc_p_along.nd rfl (.inl rfl)) (pgs_cons (pg_name (i := 3) sc_p_along.nd rfl (.inl rfl)) pgs_nil))))
    (pss_cons (ps_asg (pv 1) (k_gtup (K := K) (m := 2) rfl rfl (pgs_cons (pg_name (i := 4) sc_p_along.nd rfl (.inl rfl)) (pgs_cons (pg_name (i := 5) sc_p_along.nd rfl (.inl rfl)) pgs_nil))))
    (pss_one (ps_ret (pe_call (ok_p_plus (K := K) T) (hr.mono (by decide)) (by rfl) T.g_p_plus T.F_p_plus.kp T.b_p_plus .nil pass0 (pa_cons (pe_call (ok_p_times (K := K) T) (hr.mono (by decide)) (by rfl) T.g_p_times T.F_p_times.kp T.b_p_times .nil pass0 (pa_cons (pe_tup (pa_cons (pv 2) (pa_cons pe_int pa_nil))) (pa_cons (pv 4) pa_nil))) (pa_cons (pe_call (ok_p_times (K := K) T) (hr.mono (by decide)) (by rfl) T.g_p_times T.F_p_times.kp T.b_p_times .nil pass0 (pa_cons (pe_tup (pa_cons (pv 3) (pa_cons pe_int pa_nil))) (pa_cons (pv 5) pa_nil))) pa_nil))))))), by infer_instance, fun ds n Q hl hA => ?_⟩
  obtain ⟨p, q, x, y, k, m, rfl, bp, bq, bx, bY, hm0, hk, hm, Qk⟩ := hA
  refine ⟨(p : Rat), x, m, k, rfl, bdq_int bp hm0, bx, by omega, by omega, ?_⟩
  refine ⟨(q : Rat), y, m, k, rfl, bdq_int bq hm0, bY, by omega, by omega, ?_⟩
  exact ⟨_, _, m + k, m + k, rfl, (bdq_int bp hm0).mul bx, (bdq_int bq hm0).mul bY, by omega, by omega, Qk⟩
def a_p_across : ASp := a_along fun p q x y => p * y - q * x
theorem ok_p_across (T : Tx K mg A) : FnOk P w K mg base CX0 4 A.f_p_across A.fd_p_across ["way", "spot"] (spOf K 2 a_p_across) := by
  refine fn_mir [] 6 rfl (by decide) (by decide) T.F_p_across sc_p_across fun cdv Ar outer s H E hr => ?_
  refine ⟨_, _, (pss_cons (ps_asg (pv 0) (k_gtup (K := K) (m := 2) rfl rfl (pgs_cons (pg_name (i := 2) sc_p_across.nd rfl (.inl rfl)) (pgs_cons (pg_name (i := 3) sc_p_across.nd rfl (.inl rfl)) pgs_nil))))
    (pss_cons (ps_asg (pv 1) (k_gtup (K := K) (m := 2) rfl rfl (pgs_cons (pg_name (i := 4) sc_p_across.nd rfl (.inl rfl)) (pgs_cons (pg_name (i := 5) sc_p_across.nd rfl (.inl rfl)) pgs_nil))))
    (pss_one (ps_ret (pe_call (ok_p_minus (K := K) T) (hr.mono (by decide)) (by rfl) T.g_p_minus T.F_p_minus.kp T.b_p_minus .nil pass0 (pa_cons (pe_call (ok_p_times (K := K) T) (hr.mono (by decide)) (by rfl) T.g_p_times T.F_p_times.kp T.b_p_times .nil pass0 (pa_cons (pe_tup (pa_cons (pv 2) (pa_cons pe_int pa_nil))) (pa_cons (pv 5) pa_nil))) (pa_cons (pe_call (ok_p_times (K := K) T) (hr.mono (by decide)) (by rfl) T.g_p_times T.F_p_times.kp T.b_p_times .nil pass0 (pa_cons (pe_tup (pa_cons (pv 3) (pa_cons pe_int pa_nil))) (pa_cons (pv 4) pa_nil))) pa_nil))))))), by infer_instance, fun ds n Q hl hA => ?_⟩
  obtain ⟨p, q, x, y, k, m, rfl, bp, bq, bx, bY, hm0, hk, hm, Qk⟩ := hA
  refine ⟨(p : Rat), y, m, k, rfl, bdq_int bp hm0, bY, by omega, by omega, ?_⟩
  refine ⟨(q : Rat), x, m, k, rfl, bdq_int bq hm0, bx, by omega, by omega, ?_⟩
  exact ⟨_, _, m + k, m + k, rfl, (bdq_int bp hm0).mul bY, (bdq_int bq hm0).mul bx, by omega, by omega, Qk⟩
def a_spot2 (f : Rat → Rat → Rat) : ASp := fun ds n Q => ∃ (x y x' y' : Rat) (k m : Nat), ds = [spt x y, spt x' y'] ∧ BdQ k x ∧ BdQ k y ∧ BdQ m x' ∧ BdQ m y' ∧ k ≤ 4000 ∧ m ≤ 4000 ∧ Q (spt (f x x') (f y y')) n
def a_p_spot_times : ASp := fun ds n Q => ∃ (x y z : Rat) (k m : Nat), ds = [spt x y, sh z] ∧ BdQ k x ∧ BdQ k y ∧ BdQ m z ∧ k ≤ 4000 ∧ m ≤ 4000 ∧ Q (spt (x * z) (y * z)) n
theorem ok_p_spot_times (T : Tx K mg A) : FnOk P w K mg base CX0 3 A.f_p_spot_times A.fd_p_spot_times ["spot", "share"] (spOf K 2 a_p_spot_times) := by
  refine fn_mir [] 2 rfl (by decide) (by decide) T.F_p_spot_times sc_p_spot_times fun cdv Ar outer s H E hr => ?_
  refine ⟨_, _, (pss_one (ps_ret (pe_tup (pa_cons (pe_call (ok_p_times (K := K) T) (hr.mono (by decide)) (by rfl) T.g_p_times T.F_p_times.kp T.b_p_times .nil pass0 (pa_cons (pe_ix (k_ix (K := K) rfl) (pv 0) pe_int (fun _ _ => rfl)) (pa_cons (pv 1) pa_nil))) (pa_cons (pe_call (ok_p_times (K := K) T) (hr.mono (by decide)) (by rfl) T.g_p_times T.F_p_times.kp T.b_p_times .nil pass0 (pa_cons (pe_ix (k_ix (K := K) rfl) (pv 0) pe_int (fun _ _ => rfl)) (pa_cons (pv 1) pa_nil))) pa_nil))))), by infer_instance, fun ds n Q hl hA => ?_⟩
  obtain ⟨x, y, z, k, m, rfl, b1, b2, b3, hk, hm, q⟩ := hA
  exact ⟨x, z, k, m, rfl, b1, b3, hk, hm, y, z, k, m, rfl, b2, b3, hk, hm, q⟩

theorem kon_NOUGHT (T : Tx K mg A) : Kon K A.n_NOUGHT (sh 0) := kon_NOUGHT' T.t_NOUGHT
/-! ### a body's object is made -/
def flds (ar : Addr) (nm : V) (m : Int) : List (Str × V) := putF "mass" (.int m) (putF "name" nm (putF "row" (.ref ar) []))
theorem n1 : ¬ (("row" : Str) = "mass") := by decide +kernel
theorem n2 : ¬ (("row" : Str) = "name") := by decide +kernel
theorem n3 : ¬ (("name" : Str) = "mass") := by decide +kernel
abbrev bNs : List Str := ["row", "name", "mass"]
theorem flds_eq (ar : Addr) (nm : V) (m : Int) : flds ar nm m = bNs.zip [.ref ar, nm, .int m] := by
  have e1 : putF "row" (V.ref ar) [] = [(("row" : Str), V.ref ar)] := rfl
  have e2 : putF "name" nm [(("row" : Str), V.ref ar)] = (("row" : Str), V.ref ar) :: [(("name" : Str), nm)] := by
    show (if ("row" : Str) = "name" then [(("name" : Str), nm)] else (("row" : Str), V.ref ar) :: putF "name" nm []) = _
    rw [if_neg n2]
    rfl
  have e3 : putF "mass" (V.int m) ((("row" : Str), V.ref ar) :: [(("name" : Str), nm)]) = (("row" : Str), V.ref ar) :: (("name" : Str), nm) :: [(("mass" : Str), V.int m)] := by
    show (if ("row" : Str) = "mass" then (("mass" : Str), V.int m) :: [(("name" : Str), nm)] else (("row" : Str), V.ref ar) :: (if ("name" : Str) = "mass" then [(("mass" : Str), V.int m)] else (("name" : Str), nm) :: putF "mass" (V.int m) [])) = _
    rw [if_neg n1, if_neg n3]
    rfl
  unfold flds
  rw [e1, e2, e3]
  rfl
theorem look_row {a b c : D} : (bNs.zip [a, b, c]).lookup ("row" : Str) = some a := by
  show List.lookup ("row" : Str) [(("row" : Str), a), (("name" : Str), b), (("mass" : Str), c)] = some a
  rw [List.lookup_cons, beq_self_eq_true]
theorem look_name {a b c : D} : (bNs.zip [a, b, c]).lookup ("name" : Str) = some b := by
  show List.lookup ("name" : Str) [(("row" : Str), a), (("name" : Str), b), (("mass" : Str), c)] = some b
  rw [List.lookup_cons, beq_eq_false_iff_ne.mpr (Ne.symm n2), List.lookup_cons, beq_self_eq_true]
theorem look_mass {a b c : D} : (bNs.zip [a, b, c]).lookup ("mass" : Str) = some c := by
  show List.lookup ("mass" : Str) [(("row" : Str), a), (("name" : Str), b), (("mass" : Str), c)] = some c
  rw [List.lookup_cons, beq_eq_false_iff_ne.mpr (Ne.symm n1), List.lookup_cons, beq_eq_false_iff_ne.mpr (Ne.symm n3), List.lookup_cons, beq_self_eq_true]
theorem SqT.ins {K : PySem.W.Frag} {H : Hp} {a x C dx : Addr} {xs : List V} {fs : List (Str × V)} {o : HO} (h : SqT K H a xs) (hx : H x = some (.ins C dx fs)) : SqT K (upd H x o) a xs := by
  rcases h with (h | ⟨o', h⟩) | h
  · exact .inl (.inl (by rw [upd_ne (fun e => by rw [e, hx] at h; cases h)]; exact h))
  · exact .inl (.inr ⟨o', by rw [upd_ne (fun e => by rw [e, hx] at h; cases h)]; exact h⟩)
  · exact .inr h
def sp_init (K : PySem.W.Frag) : Sp := fun vs H Q _ => ∃ (x dx ar C : Addr) (nm sh rl pl st : V) (m : Int), vs = [.ref x, .ref ar] ∧ H x = some (.ins C dx []) ∧ SqT K H ar [nm, sh, .int m, rl, pl, st] ∧ Cls K C ∧ NoAttr K C "row" ∧ NoAttr K C "name" ∧ NoAttr K C "mass" ∧ ∀ H', (∀ b o, b ≠ x → H b = some o → H' b = some o) → H' x = some (.ins C dx (flds ar nm m)) → Q .non H'
theorem ok_m_Body___init__ (T : Tx K mg A) : FnOk P w K mg base CX0 1 A.f_m_Body___init__ A.fd_m_Body___init__ ["self", "row"] (sp_init K) := by
  refine T.F_m_Body___init__.ok sc_m_Body___init__ (fun vs H Q E h => ?_) (fun cdv Ar outer s H vs Q E hr h => ?_)
  · obtain ⟨x, dx, ar, C, nm, sh, rl, pl, st, m, rfl, _⟩ := h
    rfl
  · obtain ⟨x, dx, ar, C, nm, sh, rl, pl, st, m, rfl, hx, hA, cl, n1, n2, n3, q⟩ := h
    refine ⟨_, (pss_cons (ps_fld (pv 0) (pv 1) rfl)
    (pss_cons (ps_fld (pv 0) (pe_ix ix_tup (pv 1) pe_int (fun _ _ => rfl)) rfl)
    (pss_one (ps_fld (pv 0) (pe_ix ix_tup (pv 1) pe_int (fun _ _ => rfl)) rfl)))), ?_⟩
    refine ⟨_, rfl, _, rfl, x, C, dx, [], rfl, hx, cl, n1, (by show 0 < 1000; decide), ?_⟩
    have hA1 := SqT.ins (o := .ins C dx (putF "row" (.ref ar) [])) hA hx
    refine ⟨_, rfl, ar, _, 0, _, rfl, rfl, hA1, rfl, _, rfl, x, C, dx, _, rfl, upd_same, cl, n2, (by show 1 < 1000; decide), ?_⟩
    have hA2 := SqT.ins (o := .ins C dx (putF "name" nm (putF "row" (.ref ar) []))) hA1 upd_same
    refine ⟨_, rfl, ar, _, 2, _, rfl, rfl, hA2, rfl, _, rfl, x, C, dx, _, rfl, upd_same, cl, n3, ?_, ?_⟩
    · have e : (putF "name" nm (putF "row" (V.ref ar) [])).length ≤ 2 := by
        show (if ("row" : Str) = "name" then [(("name" : Str), nm)] else (("row" : Str), V.ref ar) :: putF "name" nm []).length ≤ 2
        rw [if_neg R.n2]
        exact Nat.le_refl 2
      omega
    · refine q _ (fun b o hb e => ?_) upd_same
      rw [upd_ne hb, upd_ne hb, upd_ne hb]
      exact e
structure InitC (K : PySem.W.Frag) (C : Addr) : Prop where
  cl : Cls K C
  r : NoAttr K C "row"
  n : NoAttr K C "name"
  m : NoAttr K C "mass"
def aMk (K : PySem.W.Frag) (C : Addr) (fa : AE) : AE := fun ρ n Q => fa ρ n fun d n1 => match d with
  | .tup [nm, sh, .int m, rl, pl, st] => InitC K C ∧ Q (.ins C bNs [.tup [nm, sh, .int m, rl, pl, st], nm, .int m]) n1
  | _ => False
instance {C : Addr} {te : TE} {fa : AE} [DE K te fa] : DE K (tMake C (sp_init K) [] E0 (tCons te tNil)) (aMk K C fa) := ⟨fun W σ ρ n H Q Qa hQ hE o h =>
  DE.run (te := te) (f := fa) W σ ρ n H _ _ (fun d n1 h1 H1 x l1 o1 ax => by
    split at h1
    · obtain ⟨ic, h1⟩ := h1
      intro z dx hz hdx hne
      cases ax with
      | @tup a xs _ s b =>
        cases b with
        | cons b1 b =>
          cases b with
          | cons b2 b =>
            cases b with
            | cons b3 b =>
              cases b with
              | cons b4 b =>
                cases b with
                | cons b5 b =>
                  cases b with
                  | cons b6 b =>
                    cases b
                    cases b3
                    have two : Same H1 (upd (upd H1 dx (.own z)) z (.ins C dx [])) := fun b' o' h' => by
                      rw [upd_ne (ne_of_none h' hz), upd_ne (ne_of_none h' hdx)]
                      exact h'
                    refine ⟨z, dx, a, C, _, _, _, _, _, _, rfl, upd_same, Same.seqT two s, ic.cl, ic.r, ic.n, ic.m, fun H' hk he => ⟨rfl, ?_⟩⟩
                    have sm : Same H1 H' := fun b' o' h' => hk b' o' (ne_of_none h' hz) (two b' o' h')
                    rw [flds_eq] at he
                    have lw : W.le H1 H' := Wd.le_same sm
                    exact (hQ.le l1) _ _ h1 H' _ lw (o1.same sm) (.ins he rfl (.cons (At.le o1 lw _ (.tup s (.cons b1 (.cons b2 (.cons (.int _) (.cons b4 (.cons b5 (.cons b6 .nil)))))))) (.cons (At.le o1 lw _ b1) (.cons (.int _) .nil))))
    · exact h1.elim) hE o h⟩
/-! ### onto a rail -/
def railC (p q m : Int) (x y : Rat) : Rat := ((p : Rat) * x + (q : Rat) * y) / ((m * (p * p + q * q) : Int) : Rat)
theorem sq_pos {p q : Int} (h : ¬ (p = 0 ∧ q = 0)) : 0 < p * p + q * q := by
  have h1 : 0 ≤ p * p := by rw [← Int.natAbs_mul_self]; exact Int.natCast_nonneg _
  have h2 : 0 ≤ q * q := by rw [← Int.natAbs_mul_self]; exact Int.natCast_nonneg _
  rcases Int.lt_or_eq_of_le (Int.add_nonneg h1 h2) with z | z
  · exact z
  · refine absurd ⟨?_, ?_⟩ h
    · rcases Int.mul_eq_zero.mp (show p * p = 0 by omega) with e | e <;> exact e
    · rcases Int.mul_eq_zero.mp (show q * q = 0 by omega) with e | e <;> exact e
theorem BdQ.div {n m : Nat} {x : Rat} {k : Int} (h : BdQ n x) (hk : 0 < k) (bk : Bd m k) (hm : 0 < m) : BdQ (n + m) (x / (k : Rat)) := by
  rw [Rat.div_def]
  refine h.mul ?_
  obtain ⟨i1, i2⟩ := inv_rep (q := (k : Rat)) hk
  exact ⟨by rw [i1]; exact Nat.one_lt_two_pow (by omega), by rw [i2]; exact bk⟩
theorem int_ne0 {k : Int} (h : 0 < k) : (k : Rat) ≠ 0 := fun z => by
  have : k = 0 := by exact_mod_cast z
  omega
def a_p_onto_rail : ASp := fun ds n Q => ∃ (p q m : Int) (x y : Rat) (k : Nat), ds = [.tup [.int p, .int q], spt x y, .int m] ∧ Bd 21 p ∧ Bd 21 q ∧ ¬ (p = 0 ∧ q = 0) ∧ 0 < m ∧ Bd 21 m ∧ BdQ k x ∧ BdQ k y ∧ k ≤ 500 ∧ Q (spt ((p : Rat) * railC p q m x y) ((q : Rat) * railC p q m x y)) n
theorem ok_p_onto_rail (T : Tx K mg A) : FnOk P w K mg base CX0 4 A.f_p_onto_rail A.fd_p_onto_rail ["rail", "spot", "mass"] (spOf K 3 a_p_onto_rail) := by
  refine fn_mir [] 6 rfl (by decide) (by decide) T.F_p_onto_rail sc_p_onto_rail fun cdv Ar outer s H E hr => ?_
  refine ⟨_, _, (pss_cons (ps_asg (pv 0) (k_gtup (K := K) (m := 2) rfl rfl (pgs_cons (pg_name (i := 3) sc_p_onto_rail.nd rfl (.inl rfl)) (pgs_cons (pg_name (i := 4) sc_p_onto_rail.nd rfl (.inl rfl)) pgs_nil))))
    (pss_cons (ps_set (i := 5) sc_p_onto_rail.nd rfl (.inl rfl) (pe_call (ok_p_over (K := K) T) (hr.mono (by decide)) (by rfl) T.g_p_over T.F_p_over.kp T.b_p_over .nil pass0 (pa_cons (pe_call (ok_p_along (K := K) T) (hr.mono (by decide)) (by rfl) T.g_p_along T.F_p_along.kp T.b_p_along .nil pass0 (pa_cons (pv 0) (pa_cons (pv 1) pa_nil))) (pa_cons (pe_tup (pa_cons (pe_op k_mul (pv 2) (pe_op (k_add (K := K) rfl) (pe_op k_mul (pv 3) (pv 3)) (pe_op k_mul (pv 4) (pv 4)))) (pa_cons pe_int pa_nil))) pa_nil))))
    (pss_one (ps_ret (pe_tup (pa_cons (pe_call (ok_p_times (K := K) T) (hr.mono (by decide)) (by rfl) T.g_p_times T.F_p_times.kp T.b_p_times .nil pass0 (pa_cons (pe_tup (pa_cons (pv 3) (pa_cons pe_int pa_nil))) (pa_cons (pv 5) pa_nil))) (pa_cons (pe_call (ok_p_times (K := K) T) (hr.mono (by decide)) (by rfl) T.g_p_times T.F_p_times.kp T.b_p_times .nil pass0 (pa_cons (pe_tup (pa_cons (pv 4) (pa_cons pe_int pa_nil))) (pa_cons (pv 5) pa_nil))) pa_nil))))))), by infer_instance, fun ds n Q hl hA => ?_⟩
  obtain ⟨p, q, m, x, y, k, rfl, bp, bq, h0, hm, bm, bx, bY, hk, Qk⟩ := hA
  have hsq := sq_pos h0
  have hN : 0 < m * (p * p + q * q) := Int.mul_pos hm hsq
  have bN : Bd 64 (m * (p * p + q * q)) := bm.mul ((bp.mul bp).add (bq.mul bq))
  have bal : BdQ (21 + k + (21 + k) + 1) ((p : Rat) * x + (q : Rat) * y) := ((bdq_int bp (by decide)).mul bx).add ((bdq_int bq (by decide)).mul bY)
  have bc : BdQ (21 + k + (21 + k) + 1 + 64) (railC p q m x y) := bal.div hN bN (by decide)
  refine ⟨p, q, x, y, k, 21, rfl, bp, bq, bx, bY, by decide, by omega, by decide, ?_⟩
  refine ⟨mulA bp bp (by decide) (by decide), mulA bq bq (by decide) (by decide), mulA bm ((bp.mul bp).add (bq.mul bq)) (by decide) (by decide), ?_⟩
  refine ⟨_, ((m * (p * p + q * q) : Int) : Rat), _, 64, rfl, bal, bdq_int bN (by decide), by omega, by decide, int_ne0 hN, ?_⟩
  refine ⟨(p : Rat), railC p q m x y, 21, _, rfl, bdq_int bp (by decide), bc, by decide, by omega, ?_⟩
  exact ⟨(q : Rat), railC p q m x y, 21, _, rfl, bdq_int bq (by decide), bc, by decide, by omega, Qk⟩
/-! ### the kinds of bodies -/
inductive Kn where
  | wall
  | free (m : Int)
  | rail (m p q : Int)
def Kn.mass : Kn → Int
  | .wall => 0
  | .free m => m
  | .rail m _ _ => m
def Kn.rl : Kn → D
  | .wall => .non
  | .free _ => .non
  | .rail _ p q => .tup [.int p, .int q]
def Kn.kd : Kn → Kd
  | .wall => .w
  | .free _ => .f
  | .rail _ _ _ => .r
def Kd.cls (A : Ad) : Kd → Addr
  | .w => A.c_Wall
  | .f => A.c_Free
  | .r => A.c_Railed
def Kn.ans : Kn → Rat → Rat → Rat × Rat
  | .wall, _, _ => (0, 0)
  | .free m, x, y => (x * (m : Rat)⁻¹, y * (m : Rat)⁻¹)
  | .rail m p q, x, y => ((p : Rat) * railC p q m x y, (q : Rat) * railC p q m x y)
def Kn.kick : Kn → Rat → Rat → Rat × Rat
  | .wall, _, _ => (0, 0)
  | .free _, x, y => (x, y)
  | .rail _ p q, x, y => ((p : Rat) * railC p q 1 x y, (q : Rat) * railC p q 1 x y)
def Kn.may : Kn → Rat → Rat → Bool
  | .wall, x, y => decide (x = 0 ∧ y = 0)
  | .free _, _, _ => true
  | .rail _ p q, x, y => decide ((p : Rat) * y - (q : Rat) * x = 0)
def Kn.Ok : Kn → Prop
  | .wall => True
  | .free m => 0 < m ∧ Bd 21 m
  | .rail m p q => 0 < m ∧ Bd 21 m ∧ Bd 21 p ∧ Bd 21 q ∧ ¬ (p = 0 ∧ q = 0)
def rowD (kn : Kn) (nm sh pl st : D) : D := .tup [nm, sh, .int kn.mass, kn.rl, pl, st]
def bodyD (A : Ad) (kn : Kn) (nm sh pl st : D) : D := .ins (kn.kd.cls A) bNs [rowD kn nm sh pl st, nm, .int kn.mass]
def a_ans (A : Ad) (f : Kn → Rat → Rat → Rat × Rat) (kd : Kd) : ASp := fun ds n Q => ∃ (kn : Kn) (nm sh pl st : D) (x y : Rat) (k : Nat), ds = [bodyD A kn nm sh pl st, spt x y] ∧ kn.kd = kd ∧ kn.Ok ∧ BdQ k x ∧ BdQ k y ∧ k ≤ 500 ∧ Q (spt (f kn x y).1 (f kn x y).2) n
def a_may (A : Ad) (kd : Kd) : ASp := fun ds n Q => ∃ (kn : Kn) (nm sh pl st : D) (x y : Rat) (k : Nat), ds = [bodyD A kn nm sh pl st, spt x y] ∧ kn.kd = kd ∧ kn.Ok ∧ BdQ k x ∧ BdQ k y ∧ k ≤ 1400 ∧ Q (.bl (kn.may x y)) n
theorem init_Wall (T : Tx K mg A) : InitC K A.c_Wall := ⟨T.cl_Wall, T.na_Wall_row, T.na_Wall_name, T.na_Wall_mass⟩
theorem init_Free (T : Tx K mg A) : InitC K A.c_Free := ⟨T.cl_Free, T.na_Free_row, T.na_Free_name, T.na_Free_mass⟩
theorem init_Railed (T : Tx K mg A) : InitC K A.c_Railed := ⟨T.cl_Railed, T.na_Railed_row, T.na_Railed_name, T.na_Railed_mass⟩
theorem still_eq : D.tup [.tup [.int 0, .int 1], .tup [.int 0, .int 1]] = spt 0 0 := rfl
theorem kon_STILL (T : Tx K mg A) : Kon K A.n_STILL (spt 0 0) := ⟨fun W H => by
  obtain ⟨b1, b2, t0, t1, t2⟩ := T.t_STILL
  exact .tup (t0 H) (.cons (.tup (t1 H) (.cons (.int _) (.cons (.int _) .nil))) (.cons (.tup (t2 H) (.cons (.int _) (.cons (.int _) .nil))) .nil))⟩
theorem ok_m_Wall_answer (T : Tx K mg A) : FnOk P w K mg base CX0 8 A.f_m_Wall_answer A.fd_m_Wall_answer ["self", "push"] (spOf K 2 (a_ans A Kn.ans .w)) := by
  refine fn_mir [] 2 rfl (by decide) (by decide) T.F_m_Wall_answer sc_m_Wall_answer fun cdv Ar outer s H E hr => ?_
  haveI := kon_STILL (K := K) T
  refine ⟨_, _, (pss_one (ps_ret (k_kon (by rfl) T.g_STILL))), by infer_instance, fun ds n Q hl hA => ?_⟩
  obtain ⟨kn, nm, shp, pl, st, x, y, k, rfl, hk, ok, bx, bY, hb, q⟩ := hA
  cases kn <;> cases hk
  exact q
theorem ok_m_Wall_kick (T : Tx K mg A) : FnOk P w K mg base CX0 8 A.f_m_Wall_kick A.fd_m_Wall_kick ["self", "pull"] (spOf K 2 (a_ans A Kn.kick .w)) := by
  refine fn_mir [] 2 rfl (by decide) (by decide) T.F_m_Wall_kick sc_m_Wall_kick fun cdv Ar outer s H E hr => ?_
  haveI := kon_STILL (K := K) T
  refine ⟨_, _, (pss_one (ps_ret (k_kon (by rfl) T.g_STILL))), by infer_instance, fun ds n Q hl hA => ?_⟩
  obtain ⟨kn, nm, shp, pl, st, x, y, k, rfl, hk, ok, bx, bY, hb, q⟩ := hA
  cases kn <;> cases hk
  exact q
theorem eqv_sp0 (x y : Rat) : PyData.eqv (spt x y).pd (spt 0 0).pd = decide (x = 0 ∧ y = 0) := by
  have e1 : PyData.eqv (spt x y).pd (spt 0 0).pd = (((x.num == 0) && (((x.den : Int) == 1) && true)) && ((((y.num == 0) && (((y.den : Int) == 1) && true))) && true)) := rfl
  rw [e1]
  by_cases h : x = 0 ∧ y = 0
  · rw [h.1, h.2]
    rfl
  · rw [decide_eq_false h]
    cases e : (((x.num == 0) && (((x.den : Int) == 1) && true)) && ((((y.num == 0) && (((y.den : Int) == 1) && true))) && true)) with
    | false => rfl
    | true =>
      refine absurd ?_ h
      simp only [Bool.and_eq_true, beq_iff_eq, Bool.and_true] at e
      exact ⟨Rat.num_eq_zero.mp e.1.1, Rat.num_eq_zero.mp e.2.1⟩
theorem eqv_sh0 (x : Rat) : PyData.eqv (sh x).pd (sh 0).pd = decide (x = 0) := by
  have e1 : PyData.eqv (sh x).pd (sh 0).pd = ((x.num == 0) && (((x.den : Int) == 1) && true)) := rfl
  rw [e1]
  by_cases h : x = 0
  · rw [h]
    rfl
  · rw [decide_eq_false h]
    cases e : ((x.num == 0) && (((x.den : Int) == 1) && true)) with
    | false => rfl
    | true =>
      refine absurd ?_ h
      simp only [Bool.and_eq_true, beq_iff_eq, Bool.and_true] at e
      exact Rat.num_eq_zero.mp e.1
theorem ok_m_Wall_may (T : Tx K mg A) : FnOk P w K mg base CX0 8 A.f_m_Wall_may A.fd_m_Wall_may ["self", "speed"] (spOf K 2 (a_may A .w)) := by
  refine fn_mir [] 2 rfl (by decide) (by decide) T.F_m_Wall_may sc_m_Wall_may fun cdv Ar outer s H E hr => ?_
  haveI := kon_STILL (K := K) T
  refine ⟨_, _, (pss_one (ps_ret (pe_cmpR (k_eq (K := K) rfl hr.units) (pv 1) (k_kon (by rfl) T.g_STILL) (nomark _)))), by infer_instance, fun ds n Q hl hA => ?_⟩
  obtain ⟨kn, nm, shp, pl, st, x, y, k, rfl, hk, ok, bx, bY, hb, q⟩ := hA
  cases kn <;> cases hk
  refine ⟨⟨rfl, rfl, rfl, rfl⟩, ?_⟩
  show Q (.bl (PyData.eqv (spt x y).pd (spt 0 0).pd)) n
  rw [eqv_sp0]
  exact q
theorem ok_m_Free_answer (T : Tx K mg A) : FnOk P w K mg base CX0 8 A.f_m_Free_answer A.fd_m_Free_answer ["self", "push"] (spOf K 2 (a_ans A Kn.ans .f)) := by
  refine fn_mir [] 2 rfl (by decide) (by decide) T.F_m_Free_answer sc_m_Free_answer fun cdv Ar outer s H E hr => ?_
  refine ⟨_, _, (pss_one (ps_ret (pe_call (ok_p_spot_times (K := K) T) (hr.mono (by decide)) (by rfl) T.g_p_spot_times T.F_p_spot_times.kp T.b_p_spot_times .nil pass0 (pa_cons (pv 1) (pa_cons (pe_tup (pa_cons pe_int (pa_cons (k_fld (K := K) rfl (pv 0) rfl) pa_nil))) pa_nil))))), by infer_instance, fun ds n Q hl hA => ?_⟩
  obtain ⟨kn, nm, shp, pl, st, x, y, k, rfl, hk, ok, bx, bY, hb, q⟩ := hA
  cases kn <;> cases hk
  rename_i m
  obtain ⟨i1, i2⟩ := inv_rep (q := (m : Rat)) ok.1
  refine ⟨⟨T.cl_Free, T.na_Free_mass⟩, _, look_mass, ?_⟩
  refine ⟨x, y, (m : Rat)⁻¹, k, 21, ?_, bx, bY, ⟨by rw [i1]; exact (by unfold Bd; decide : Bd 21 ((1 : Nat) : Int)), by rw [i2]; exact ok.2⟩, by omega, by decide, q⟩
  show [spt x y, D.tup [.int 1, .int m]] = [spt x y, D.tup [.int ((m : Rat)⁻¹).num, .int (((m : Rat)⁻¹).den : Int)]]
  rw [i1, i2]
  rfl
theorem ok_m_Free_kick (T : Tx K mg A) : FnOk P w K mg base CX0 8 A.f_m_Free_kick A.fd_m_Free_kick ["self", "pull"] (spOf K 2 (a_ans A Kn.kick .f)) := by
  refine fn_mir [] 2 rfl (by decide) (by decide) T.F_m_Free_kick sc_m_Free_kick fun cdv Ar outer s H E hr => ?_
  refine ⟨_, _, (pss_one (ps_ret (pv 1))), by infer_instance, fun ds n Q hl hA => ?_⟩
  obtain ⟨kn, nm, shp, pl, st, x, y, k, rfl, hk, ok, bx, bY, hb, q⟩ := hA
  cases kn <;> cases hk
  exact q
theorem ok_m_Free_may (T : Tx K mg A) : FnOk P w K mg base CX0 8 A.f_m_Free_may A.fd_m_Free_may ["self", "speed"] (spOf K 2 (a_may A .f)) := by
  refine fn_mir [] 2 rfl (by decide) (by decide) T.F_m_Free_may sc_m_Free_may fun cdv Ar outer s H E hr => ?_
  refine ⟨_, _, (pss_one (ps_ret pe_bl)), by infer_instance, fun ds n Q hl hA => ?_⟩
  obtain ⟨kn, nm, shp, pl, st, x, y, k, rfl, hk, ok, bx, bY, hb, q⟩ := hA
  cases kn <;> cases hk
  exact q
theorem ok_m_Railed_answer (T : Tx K mg A) : FnOk P w K mg base CX0 8 A.f_m_Railed_answer A.fd_m_Railed_answer ["self", "push"] (spOf K 2 (a_ans A Kn.ans .r)) := by
  refine fn_mir [] 2 rfl (by decide) (by decide) T.F_m_Railed_answer sc_m_Railed_answer fun cdv Ar outer s H E hr => ?_
  refine ⟨_, _, (pss_one (ps_ret (pe_call (ok_p_onto_rail (K := K) T) (hr.mono (by decide)) (by rfl) T.g_p_onto_rail T.F_p_onto_rail.kp T.b_p_onto_rail .nil pass0 (pa_cons (pe_ix (k_ix (K := K) rfl) (k_fld (K := K) rfl (pv 0) rfl) pe_int (fun _ _ => rfl)) (pa_cons (pv 1) (pa_cons (k_fld (K := K) rfl (pv 0) rfl) pa_nil)))))), by infer_instance, fun ds n Q hl hA => ?_⟩
  obtain ⟨kn, nm, shp, pl, st, x, y, k, rfl, hk, ok, bx, bY, hb, qq⟩ := hA
  cases kn <;> cases hk
  rename_i m p q
  obtain ⟨h1, h2, h3, h4, h5⟩ := ok
  refine ⟨⟨T.cl_Railed, T.na_Railed_row⟩, _, look_row, ?_⟩
  refine ⟨⟨T.cl_Railed, T.na_Railed_mass⟩, _, look_mass, ?_⟩
  exact ⟨p, q, m, x, y, k, rfl, h3, h4, h5, h1, h2, bx, bY, hb, qq⟩
theorem ok_m_Railed_kick (T : Tx K mg A) : FnOk P w K mg base CX0 8 A.f_m_Railed_kick A.fd_m_Railed_kick ["self", "pull"] (spOf K 2 (a_ans A Kn.kick .r)) := by
  refine fn_mir [] 2 rfl (by decide) (by decide) T.F_m_Railed_kick sc_m_Railed_kick fun cdv Ar outer s H E hr => ?_
  refine ⟨_, _, (pss_one (ps_ret (pe_call (ok_p_onto_rail (K := K) T) (hr.mono (by decide)) (by rfl) T.g_p_onto_rail T.F_p_onto_rail.kp T.b_p_onto_rail .nil pass0 (pa_cons (pe_ix (k_ix (K := K) rfl) (k_fld (K := K) rfl (pv 0) rfl) pe_int (fun _ _ => rfl)) (pa_cons (pv 1) (pa_cons pe_int pa_nil)))))), by infer_instance, fun ds n Q hl hA => ?_⟩
  obtain ⟨kn, nm, shp, pl, st, x, y, k, rfl, hk, ok, bx, bY, hb, qq⟩ := hA
  cases kn <;> cases hk
  rename_i m p q
  obtain ⟨h1, h2, h3, h4, h5⟩ := ok
  refine ⟨⟨T.cl_Railed, T.na_Railed_row⟩, _, look_row, ?_⟩
  exact ⟨p, q, 1, x, y, k, rfl, h3, h4, h5, by decide, (by unfold Bd; decide), bx, bY, hb, qq⟩
theorem ok_m_Railed_may (T : Tx K mg A) : FnOk P w K mg base CX0 8 A.f_m_Railed_may A.fd_m_Railed_may ["self", "speed"] (spOf K 2 (a_may A .r)) := by
  refine fn_mir [] 2 rfl (by decide) (by decide) T.F_m_Railed_may sc_m_Railed_may fun cdv Ar outer s H E hr => ?_
  haveI := kon_NOUGHT (K := K) T
  refine ⟨_, _, (pss_one (ps_ret (pe_cmpR (k_eq (K := K) rfl hr.units) (pe_call (ok_p_across (K := K) T) (hr.mono (by decide)) (by rfl) T.g_p_across T.F_p_across.kp T.b_p_across .nil pass0 (pa_cons (pe_ix (k_ix (K := K) rfl) (k_fld (K := K) rfl (pv 0) rfl) pe_int (fun _ _ => rfl)) (pa_cons (pv 1) pa_nil))) (k_kon (by rfl) T.g_NOUGHT) (nomark _)))), by infer_instance, fun ds n Q hl hA => ?_⟩
  obtain ⟨kn, nm, shp, pl, st, x, y, k, rfl, hk, ok, bx, bY, hb, qq⟩ := hA
  cases kn <;> cases hk
  rename_i m p q
  obtain ⟨h1, h2, h3, h4, h5⟩ := ok
  refine ⟨⟨T.cl_Railed, T.na_Railed_row⟩, _, look_row, ?_⟩
  refine ⟨p, q, x, y, k, 21, rfl, h3, h4, bx, bY, by decide, by omega, by decide, ?_⟩
  refine ⟨⟨rfl, rfl, rfl, rfl⟩, ?_⟩
  show Q (.bl (PyData.eqv (sh ((p : Rat) * y - (q : Rat) * x)).pd (sh 0).pd)) n
  rw [eqv_sh0]
  exact qq
def a_p_body_of (A : Ad) : ASp := fun ds n Q => ∃ (kn : Kn) (nm shp pl st : D), ds = [rowD kn nm shp pl st] ∧ kn.Ok ∧ Q (bodyD A kn nm shp pl st) n
theorem ok_p_body_of (T : Tx K mg A) : FnOk P w K mg base CX0 3 A.f_p_body_of A.fd_p_body_of ["row"] (spOf K 1 (a_p_body_of A)) := by
  refine fn_mir [] 7 rfl (by decide) (by decide) T.F_p_body_of sc_p_body_of fun cdv Ar outer s H E hr => ?_
  refine ⟨_, _, (pss_cons (ps_asg (pv 0) (k_gtup (K := K) (m := 6) rfl rfl (pgs_cons (pg_name (i := 1) sc_p_body_of.nd rfl (.inl rfl)) (pgs_cons (pg_name (i := 2) sc_p_body_of.nd rfl (.inl rfl)) (pgs_cons (pg_name (i := 3) sc_p_body_of.nd rfl (.inl rfl)) (pgs_cons (pg_name (i := 4) sc_p_body_of.nd rfl (.inl rfl)) (pgs_cons (pg_name (i := 5) sc_p_body_of.nd rfl (.inl rfl)) (pgs_cons (pg_name (i := 6) sc_p_body_of.nd rfl (.inl rfl)) pgs_nil))))))))
    (pss_cons (ps_if (pt_cmpR (k_eq (K := K) rfl hr.units) (pv 3) pe_int (nomark _))
      (pss_one (ps_ret (pe_make T.mk_Wall (ok_m_Body___init__ (K := K) T) (hr.mono (by decide)) (by rfl) T.g_Wall T.b_m_Body___init__ .nil pass0 (pa_cons (pv 0) pa_nil))))
      pss_nil)
    (pss_cons (ps_if (pt_cmpR k_isN (pv 4) pe_non (nomark _))
      (pss_one (ps_ret (pe_make T.mk_Free (ok_m_Body___init__ (K := K) T) (hr.mono (by decide)) (by rfl) T.g_Free T.b_m_Body___init__ .nil pass0 (pa_cons (pv 0) pa_nil))))
      pss_nil)
    (pss_one (ps_ret (pe_make T.mk_Railed (ok_m_Body___init__ (K := K) T) (hr.mono (by decide)) (by rfl) T.g_Railed T.b_m_Body___init__ .nil pass0 (pa_cons (pv 0) pa_nil))))))), by infer_instance, fun ds n Q hl hA => ?_⟩
  obtain ⟨kn, nm, shp, pl, st, rfl, ok, q⟩ := hA
  cases kn with
  | wall => exact ⟨fun _ => ⟨init_Wall T, q⟩, fun e => Bool.noConfusion e⟩
  | free m =>
    have hm : m ≠ 0 := fun z => by have := ok.1; omega
    refine dIte (fun e => absurd e hm) (fun _ => ?_)
    exact ⟨fun _ => ⟨init_Free T, q⟩, fun e => Bool.noConfusion e⟩
  | rail m p' q' =>
    have hm : m ≠ 0 := fun z => by have := ok.1; omega
    refine dIte (fun e => absurd e hm) (fun _ => ?_)
    exact ⟨fun e => Bool.noConfusion e, fun _ => ⟨init_Railed T, q⟩⟩

/-! ### the law's own helpers -/
def partD (a b : Int) : D := .tup [.int (a / gcdI a b), .int (b / gcdI a b)]
theorem part_sh {a b : Int} (hb : 0 < b) : partD a b = sh (Rat.divInt a b) := by
  obtain ⟨h1, h2, _, _⟩ := low_is (a := a) (b := b) hb
  exact sh_of h1 (by omega) h2
abbrev a_l_gcd : ASp := a_gcd
theorem ok_l_gcd (T : Tx K mg A) : FnOk P w K mg base CX0 1 A.f_l_gcd A.fd_l_gcd ["_law_one", "_law_other"] (spOf K 2 a_l_gcd) := by
  refine fn_mir [] 3 rfl (by decide) (by decide) T.F_l_gcd sc_l_gcd fun cdv Ar outer s H E hr => ?_
  refine ⟨_, _, (pss_cons (ps_set (i := 0) sc_l_gcd.nd rfl (.inl rfl) (pe_callB k_abs (by rfl) T.m_abs (by decide +kernel) (pa_cons (pv 0) pa_nil)))
    (pss_cons (ps_set (i := 1) sc_l_gcd.nd rfl (.inl rfl) (pe_callB k_abs (by rfl) T.m_abs (by decide +kernel) (pa_cons (pv 1) pa_nil)))
    (pss_cons (ps_while PassesOwn.never (pt_cmpR op_gt (pv 1) pe_int (nomark _))
      (pss_cons (ps_set (i := 2) sc_l_gcd.nd rfl (.inl rfl) (pe_op op_mod (pv 0) (pv 1)))
    (pss_cons (ps_set (i := 0) sc_l_gcd.nd rfl (.inl rfl) (pv 1))
    (pss_one (ps_set (i := 1) sc_l_gcd.nd rfl (.inl rfl) (pv 2))))))
    (pss_one (ps_ret (pv 0)))))), by infer_instance, fun ds n Q hl hA => ?_⟩
  obtain ⟨a, b, rfl, q⟩ := hA
  refine ⟨fun m ρ n' => ∃ (x y : Nat) (z : Option D), ρ = [some (.int (x : Int)), some (.int (y : Int)), z] ∧ m = y ∧ n' = n ∧ Nat.gcd x y = Nat.gcd a.natAbs b.natAbs, ⟨_, a.natAbs, b.natAbs, none, by rw [← abs_nat, ← abs_nat]; rfl, rfl, rfl, rfl⟩, ?_⟩
  rintro m _ _ ⟨x, y, z, rfl, rfl, rfl, g⟩
  refine dIte (fun h => ?_) (fun h => ?_)
  · refine ⟨(show (0 : Int) < m by omega), x % m, Nat.mod_lt _ (by omega), m, x % m, _, rfl, rfl, rfl, ?_⟩
    rw [← g, Nat.gcd_comm x m, Nat.gcd_rec m x, Nat.gcd_comm]
  · have hm : m = 0 := by omega
    subst hm
    have e : (x : Int) = gcdI a b := by
      unfold gcdI
      rw [← g, Nat.gcd_zero_right]
    show Q (.int (x : Int)) _
    rw [e]
    exact q
@[irreducible] def a_l_part : ASp := fun ds n Q => ∃ (a b : Int) (k : Nat), ds = [.int a, .int b] ∧ 0 < gcdI a b ∧ Bd k (gcdI a b) ∧ k < 9000 ∧ Q (partD a b) n
theorem ok_l_part (T : Tx K mg A) : FnOk P w K mg base CX0 2 A.f_l_part A.fd_l_part ["_law_top", "_law_bottom"] (spOf K 2 a_l_part) := by
  refine fn_mir [] 3 rfl (by decide) (by decide) T.F_l_part sc_l_part fun cdv Ar outer s H E hr => ?_
  refine ⟨_, _, (pss_cons (ps_set (i := 2) sc_l_part.nd rfl (.inl rfl) (pe_call (ok_l_gcd (K := K) T) (hr.mono (by decide)) (by rfl) T.g_l_gcd T.F_l_gcd.kp T.b_l_gcd .nil pass0 (pa_cons (pv 0) (pa_cons (pv 1) pa_nil))))
    (pss_one (ps_ret (pe_tup (pa_cons (pe_op k_fdiv (pv 0) (pv 2)) (pa_cons (pe_op k_fdiv (pv 1) (pv 2)) pa_nil)))))), by infer_instance, fun ds n Q hl hA => ?_⟩
  unfold a_l_part at hA
  obtain ⟨a, b, k, rfl, g0, gb, hk, q⟩ := hA
  exact ⟨a, b, rfl, divA gb g0 hk, divA gb g0 hk, q⟩
theorem part_ok {a b : Int} {k n : Nat} {Q : D → Nat → Prop} (hb : 0 < b) (bb : Bd k b) (hk : k < 9000) (q : Q (sh (Rat.divInt a b)) n) : a_l_part [.int a, .int b] n Q := by
  unfold a_l_part
  exact ⟨a, b, k, rfl, gcdI_pos (by omega), gcdI_bd bb (by omega), hk, by rw [part_sh hb]; exact q⟩
theorem small_log {m : Int} (h0 : 0 < m) (h1 : m ≤ 4000000) : m.natAbs.log2 < 9000 := by
  have e : (2 : Nat) ^ 22 = 4194304 := by decide
  exact Nat.lt_of_lt_of_le (log2_lt (k := 22) (by omega) (by decide)) (by decide)
def a_l_whole : ASp := fun ds n Q => ∃ i : Int, ds = [.int i] ∧ Q (.bl true) n
theorem ok_l_whole (T : Tx K mg A) : FnOk P w K mg base CX0 1 A.f_l_whole A.fd_l_whole ["_law_thing"] (spOf K 1 a_l_whole) := by
  refine fn_mir [] 1 rfl (by decide) (by decide) T.F_l_whole sc_l_whole fun cdv Ar outer s H E hr => ?_
  refine ⟨_, _, (pss_one (ps_ret (pe_and (pe_callB (k_isi (K := K) rfl) (by rfl) T.m_isinstance (by decide +kernel) (pa_cons (pv 0) (pa_cons (k_ty (t := .int) (by rfl) T.m_int (by decide +kernel)) pa_nil))) (pe_one (pe_not (pe_callB (k_isi (K := K) rfl) (by rfl) T.m_isinstance (by decide +kernel) (pa_cons (pv 0) (pa_cons (k_ty (t := .bl) (by rfl) T.m_bool (by decide +kernel)) pa_nil)))))))), by infer_instance, fun ds n Q hl hA => ?_⟩
  obtain ⟨i, rfl, q⟩ := hA
  exact aT q
def a_l_number : ASp := fun ds n Q => ∃ s : Int, ds = [.deck, .int s] ∧ 0 ≤ s ∧ s ≤ 1000000 ∧ 2 ≤ n ∧ ∀ r, -s ≤ r → r ≤ s → Q (.int r) (n - 2)
theorem ok_l_number (T : Tx K mg A) : FnOk P w K mg base CX0 4 A.f_l_number A.fd_l_number ["_law_deck_here", "_law_span"] (spOf K 2 a_l_number) := by
  refine fn_mir [] 2 rfl (by decide) (by decide) T.F_l_number sc_l_number fun cdv Ar outer s H E hr => ?_
  refine ⟨_, _, (pss_one (ps_ret (pe_op op_sub (pe_op op_mod (pe_op (k_add (K := K) rfl) (pe_op k_mul pe_int (pe_call (ok_l_take (K := K) T) (hr.mono (by decide)) (by rfl) T.g_l_take T.F_l_take.kp T.b_l_take .nil pass0 (pa_cons (pv 0) (pa_cons (pe_op (k_add (K := K) rfl) (pe_op k_mul pe_int (pv 1)) pe_int) pa_nil)))) (pe_call (ok_l_take (K := K) T) (hr.mono (by decide)) (by rfl) T.g_l_take T.F_l_take.kp T.b_l_take .nil pass0 (pa_cons (pv 0) (pa_cons pe_int pa_nil)))) (pe_op (k_add (K := K) rfl) (pe_op k_mul pe_int (pv 1)) pe_int)) (pv 1)))), by infer_instance, fun ds n Q hl hA => ?_⟩
  obtain ⟨s, rfl, h0, h1, hn, q⟩ := hA
  refine ⟨.inl (.inl (by decide)), 2 * s + 1, rfl, by omega, small_log (by omega) (by omega), by omega, fun r l u => ?_⟩
  refine ⟨.inl (.inl (by decide)), 10007, rfl, by decide, by decide, by omega, fun r' l' u' => ?_⟩
  refine ⟨.inl (.inl (by decide)), (show (0 : Int) < 2 * s + 1 by omega), ?_⟩
  have m0 := Int.emod_nonneg (10007 * r + r') (show 2 * s + 1 ≠ 0 by omega)
  have m1 := Int.emod_lt_of_pos (10007 * r + r') (show 0 < 2 * s + 1 by omega)
  exact q _ (by omega) (by omega)
def a_l_drawn : ASp := fun ds n Q => ds = [.deck] ∧ 10 ≤ n ∧ ∀ (q : Rat) (n' : Nat), BdQ 201 q → n ≤ n' + 7 → Q (sh q) n'
theorem ok_l_drawn (T : Tx K mg A) : FnOk P w K mg base CX0 5 A.f_l_drawn A.fd_l_drawn ["_law_deck_here"] (spOf K 1 a_l_drawn) := by
  refine fn_mir [] 4 rfl (by decide) (by decide) T.F_l_drawn sc_l_drawn fun cdv Ar outer s H E hr => ?_
  refine ⟨_, _, (pss_cons (ps_set (i := 1) sc_l_drawn.nd rfl (.inl rfl) (pe_ix (k_ixS (K := K) rfl) (pe_lst (pa_cons pe_int (pa_cons pe_int (pa_cons (pe_op op_pow pe_int pe_int) (pa_cons (pe_op op_pow pe_int pe_int) pa_nil))))) (pe_call (ok_l_take (K := K) T) (hr.mono (by decide)) (by rfl) T.g_l_take T.F_l_take.kp T.b_l_take .nil pass0 (pa_cons (pv 0) (pa_cons pe_int pa_nil))) (fun _ _ => rfl)))
    (pss_cons (ps_set (i := 2) sc_l_drawn.nd rfl (.inl rfl) (pe_ix (k_ixS (K := K) rfl) (pe_lst (pa_cons pe_int (pa_cons pe_int (pa_cons pe_int (pa_cons (pe_op op_pow pe_int pe_int) pa_nil))))) (pe_call (ok_l_take (K := K) T) (hr.mono (by decide)) (by rfl) T.g_l_take T.F_l_take.kp T.b_l_take .nil pass0 (pa_cons (pv 0) (pa_cons pe_int pa_nil))) (fun _ _ => rfl)))
    (pss_cons (ps_set (i := 3) sc_l_drawn.nd rfl (.inl rfl) (pe_op op_sub (pe_op op_mod (pe_op k_mul (pe_call (ok_l_number (K := K) T) (hr.mono (by decide)) (by rfl) T.g_l_number T.F_l_number.kp T.b_l_number .nil pass0 (pa_cons (pv 0) (pa_cons (pe_op op_pow pe_int pe_int) pa_nil))) (pe_op op_pow (pe_op (k_add (K := K) rfl) pe_int (pe_call (ok_l_take (K := K) T) (hr.mono (by decide)) (by rfl) T.g_l_take T.F_l_take.kp T.b_l_take .nil pass0 (pa_cons (pv 0) (pa_cons (pe_op op_pow pe_int pe_int) pa_nil)))) pe_int)) (pe_op (k_add (K := K) rfl) (pe_op k_mul pe_int (pv 1)) pe_int)) (pv 1)))
    (pss_one (ps_ret (pe_call (ok_l_part (K := K) T) (hr.mono (by decide)) (by rfl) T.g_l_part T.F_l_part.kp T.b_l_part .nil pass0 (pa_cons (pv 3) (pa_cons (pe_op (k_add (K := K) rfl) pe_int (pe_call (ok_l_take (K := K) T) (hr.mono (by decide)) (by rfl) T.g_l_take T.F_l_take.kp T.b_l_take .nil pass0 (pa_cons (pv 0) (pa_cons (pv 2) pa_nil)))) pa_nil)))))))), by infer_instance, fun ds n Q hl hA => ?_⟩
  obtain ⟨rfl, hn, q⟩ := hA
  refine ⟨⟨by decide, by decide, by decide⟩, ⟨by decide, by decide, by decide⟩, 4, rfl, by decide, by decide, by omega, fun r l u => ?_⟩
  obtain ⟨far, hf0, hf1, hat⟩ : ∃ far : Int, 1 ≤ far ∧ far ≤ 1000000000000000000000000000000000000000000000000000000000000 ∧ atI [D.int 1, D.int 9, D.int (10 ^ Int.toNat 6), D.int (10 ^ Int.toNat 60)] r = some (D.int far) := by
    obtain rfl | rfl | rfl | rfl : r = 0 ∨ r = 1 ∨ r = 2 ∨ r = 3 := by omega
    · exact ⟨1, by decide, by decide, rfl⟩
    · exact ⟨9, by decide, by decide, rfl⟩
    · exact ⟨10 ^ Int.toNat 6, by decide, by decide, rfl⟩
    · exact ⟨10 ^ Int.toNat 60, by decide, by decide, rfl⟩
  refine aIx_lst hat ?_
  refine ⟨⟨by decide, by decide, by decide⟩, 4, rfl, by decide, by decide, by omega, fun r6 l6 u6 => ?_⟩
  obtain ⟨lo, hl0, hl1, hat6⟩ : ∃ lo : Int, 1 ≤ lo ∧ lo ≤ 1000000 ∧ atI [D.int 1, D.int 2, D.int 60, D.int (10 ^ Int.toNat 6)] r6 = some (D.int lo) := by
    obtain rfl | rfl | rfl | rfl : r6 = 0 ∨ r6 = 1 ∨ r6 = 2 ∨ r6 = 3 := by omega
    · exact ⟨1, by decide, by decide, rfl⟩
    · exact ⟨2, by decide, by decide, rfl⟩
    · exact ⟨60, by decide, by decide, rfl⟩
    · exact ⟨10 ^ Int.toNat 6, by decide, by decide, rfl⟩
  refine aIx_lst hat6 ?_
  refine ⟨⟨by decide, by decide, by decide⟩, 1000000, rfl, by decide, by decide, by omega, fun r3 l3 u3 => ?_⟩
  refine ⟨⟨by decide, by decide, by decide⟩, 1000000, rfl, by decide, by decide, by omega, fun r4 l4 u4 => ?_⟩
  refine ⟨⟨by decide, by decide, by omega⟩, .inl (.inl ⟨by omega, by omega⟩), .inl (.inl (by decide)), (show (0 : Int) < 2 * far + 1 by omega), ?_⟩
  have m0 := Int.emod_nonneg (r3 * (1 + r4) ^ Int.toNat 12) (show 2 * far + 1 ≠ 0 by omega)
  have m1 := Int.emod_lt_of_pos (r3 * (1 + r4) ^ Int.toNat 12) (show 0 < 2 * far + 1 by omega)
  have bnum : Bd 201 (r3 * (1 + r4) ^ Int.toNat 12 % (2 * far + 1) - far) := by
    unfold Bd
    have e201 : (2 : Nat) ^ 201 = 3213876088517980551083924184682325205044405987565585670602752 := by decide
    omega
  refine ⟨lo, rfl, by omega, small_log (by omega) (by omega), by omega, fun r7 l7 u7 => ?_⟩
  have bd7 : Bd 201 (1 + r7) := by
    unfold Bd
    have e201 : (2 : Nat) ^ 201 = 3213876088517980551083924184682325205044405987565585670602752 := by decide
    omega
  refine part_ok (by omega) bd7 (by decide) ?_
  exact q _ _ (divInt_bd (show (0 : Int) < 1 + r7 by omega) bnum bd7) (by omega)
def a_l_spot : ASp := fun ds n Q => ds = [.deck] ∧ 30 ≤ n ∧ ∀ (x y : Rat) (n' : Nat), BdQ 201 x → BdQ 201 y → n ≤ n' + 14 → Q (spt x y) n'
theorem ok_l_spot (T : Tx K mg A) : FnOk P w K mg base CX0 6 A.f_l_spot A.fd_l_spot ["_law_deck_here"] (spOf K 1 a_l_spot) := by
  refine fn_mir [] 1 rfl (by decide) (by decide) T.F_l_spot sc_l_spot fun cdv Ar outer s H E hr => ?_
  refine ⟨_, _, (pss_one (ps_ret (pe_tup (pa_cons (pe_call (ok_l_drawn (K := K) T) (hr.mono (by decide)) (by rfl) T.g_l_drawn T.F_l_drawn.kp T.b_l_drawn .nil pass0 (pa_cons (pv 0) pa_nil)) (pa_cons (pe_call (ok_l_drawn (K := K) T) (hr.mono (by decide)) (by rfl) T.g_l_drawn T.F_l_drawn.kp T.b_l_drawn .nil pass0 (pa_cons (pv 0) pa_nil)) pa_nil))))), by infer_instance, fun ds n Q hl hA => ?_⟩
  obtain ⟨rfl, hn, q⟩ := hA
  exact ⟨rfl, by omega, fun x n1 bx h1 => ⟨rfl, by omega, fun y n2 bY h2 => q x y n2 bx bY (by omega)⟩⟩
theorem bd21 {r n : Int} (h1 : n ≤ 1000000) (h2 : -n ≤ r) (h3 : r ≤ n) : Bd 21 r := by
  unfold Bd
  have : (2 : Nat) ^ 21 = 2097152 := by decide
  omega
theorem part_way {p q : Int} {n : Nat} {Q : D → Nat → Prop} (bp : Bd 21 p) (bq : Bd 21 q) (h0 : ¬ (p = 0 ∧ q = 0)) (k : ∀ p' q', Bd 21 p' → Bd 21 q' → ¬ (p' = 0 ∧ q' = 0) → Q (.tup [.int p', .int q']) n) : a_l_part [.int p, .int q] n Q := by
  unfold a_l_part
  have g0 := gcdI_pos2 h0
  refine ⟨p, q, 21, rfl, g0, gcdI_bd2 bp bq h0, by decide, k _ _ (bp.of_le (div_natAbs_le g0 (gcdI_dvd_l _ _))) (bq.of_le (div_natAbs_le g0 (gcdI_dvd_r _ _))) fun z => ?_⟩
  have hc := cop_div2 h0
  rw [z.1, z.2] at hc
  exact absurd hc (by decide)
def a_l_line : ASp := fun ds n Q => ds = [.deck] ∧ 10 ≤ n ∧ ∀ (p q : Int) (n' : Nat), Bd 21 p → Bd 21 q → ¬ (p = 0 ∧ q = 0) → n ≤ n' + 6 → Q (.tup [.int p, .int q]) n'
theorem ok_l_line (T : Tx K mg A) : FnOk P w K mg base CX0 5 A.f_l_line A.fd_l_line ["_law_deck_here"] (spOf K 1 a_l_line) := by
  refine fn_mir [] 4 rfl (by decide) (by decide) T.F_l_line sc_l_line fun cdv Ar outer s H E hr => ?_
  refine ⟨_, _, (pss_cons (ps_set (i := 1) sc_l_line.nd rfl (.inl rfl) (pe_ix (k_ixS (K := K) rfl) (pe_lst (pa_cons pe_int (pa_cons pe_int (pa_cons pe_int pa_nil)))) (pe_call (ok_l_take (K := K) T) (hr.mono (by decide)) (by rfl) T.g_l_take T.F_l_take.kp T.b_l_take .nil pass0 (pa_cons (pv 0) (pa_cons pe_int pa_nil))) (fun _ _ => rfl)))
    (pss_cons (ps_set (i := 2) sc_l_line.nd rfl (.inl rfl) (pe_call (ok_l_number (K := K) T) (hr.mono (by decide)) (by rfl) T.g_l_number T.F_l_number.kp T.b_l_number .nil pass0 (pa_cons (pv 0) (pa_cons (pv 1) pa_nil))))
    (pss_cons (ps_set (i := 3) sc_l_line.nd rfl (.inl rfl) (pe_call (ok_l_number (K := K) T) (hr.mono (by decide)) (by rfl) T.g_l_number T.F_l_number.kp T.b_l_number .nil pass0 (pa_cons (pv 0) (pa_cons (pv 1) pa_nil))))
    (pss_cons (ps_if (PW.pt (pw_and (pt_cmpR (k_eq (K := K) rfl hr.units) (pv 2) pe_int (nomark _)) (pw_and1 (pt_cmpR (k_eq (K := K) rfl hr.units) (pv 3) pe_int (nomark _)))))
      (pss_one (ps_ret (pe_tup (pa_cons pe_int (pa_cons (pe_un un_neg pe_int) pa_nil)))))
      pss_nil)
    (pss_one (ps_ret (pe_call (ok_l_part (K := K) T) (hr.mono (by decide)) (by rfl) T.g_l_part T.F_l_part.kp T.b_l_part .nil pass0 (pa_cons (pv 2) (pa_cons (pv 3) pa_nil))))))))), by infer_instance, fun ds n Q hl hA => ?_⟩
  obtain ⟨rfl, hn, k⟩ := hA
  refine ⟨3, rfl, by decide, by decide, by omega, fun r l u => ?_⟩
  obtain ⟨far, hf0, hf1, hat⟩ : ∃ far : Int, 0 ≤ far ∧ far ≤ 1000000 ∧ atI [D.int 1, D.int 5, D.int 1000000] r = some (D.int far) := by
    obtain rfl | rfl | rfl : r = 0 ∨ r = 1 ∨ r = 2 := by omega
    · exact ⟨1, by decide, by decide, rfl⟩
    · exact ⟨5, by decide, by decide, rfl⟩
    · exact ⟨1000000, by decide, by decide, rfl⟩
  refine aIx_lst hat ?_
  refine ⟨far, rfl, hf0, hf1, by omega, fun p lp up => ⟨far, rfl, hf0, hf1, by omega, fun q lq uq => ?_⟩⟩
  have bp := bd21 hf1 lp up
  have bq := bd21 hf1 lq uq
  refine dIte (fun e1 => dIte (fun e2 => ?_) (fun e2 => ?_)) (fun e1 => aF ?_)
  · exact k 0 (-1) _ (by unfold Bd; decide) (by unfold Bd; decide) (fun z => by have := z.2; omega) (by omega)
  · exact part_way bp bq (fun z => e2 z.2) fun p' q' h1 h2 h3 => k p' q' _ h1 h2 h3 (by omega)
  · exact part_way bp bq (fun z => e1 z.1) fun p' q' h1 h2 h3 => k p' q' _ h1 h2 h3 (by omega)
def a_l_way : ASp := fun ds n Q => ∃ p q : Int, ds = [.tup [.int p, .int q]] ∧ Bd 21 p ∧ Bd 21 q ∧ ¬ (p = 0 ∧ q = 0) ∧ ∀ p' q', Bd 21 p' → Bd 21 q' → ¬ (p' = 0 ∧ q' = 0) → Q (.tup [.int p', .int q']) n
theorem ok_l_way (T : Tx K mg A) : FnOk P w K mg base CX0 2 A.f_l_way A.fd_l_way ["_law_line_here"] (spOf K 1 a_l_way) := by
  refine fn_mir [] 2 rfl (by decide) (by decide) T.F_l_way sc_l_way fun cdv Ar outer s H E hr => ?_
  refine ⟨_, _, (pss_cons (ps_set (i := 1) sc_l_way.nd rfl (.inl rfl) (pe_call (ok_l_gcd (K := K) T) (hr.mono (by decide)) (by rfl) T.g_l_gcd T.F_l_gcd.kp T.b_l_gcd .nil pass0 (pa_cons (pe_ix (k_ix (K := K) rfl) (pv 0) pe_int (fun _ _ => rfl)) (pa_cons (pe_ix (k_ix (K := K) rfl) (pv 0) pe_int (fun _ _ => rfl)) pa_nil))))
    (pss_one (ps_ret (pe_tup (pa_cons (pe_op k_fdiv (pe_ix (k_ix (K := K) rfl) (pv 0) pe_int (fun _ _ => rfl)) (pv 1)) (pa_cons (pe_op k_fdiv (pe_ix (k_ix (K := K) rfl) (pv 0) pe_int (fun _ _ => rfl)) (pv 1)) pa_nil)))))), by infer_instance, fun ds n Q hl hA => ?_⟩
  obtain ⟨p, q, rfl, bp, bq, h0, k⟩ := hA
  have g0 := gcdI_pos2 h0
  have gb := gcdI_bd2 bp bq h0
  refine ⟨p, q, rfl, divA gb g0 (by decide), divA gb g0 (by decide), k _ _ (bp.of_le (div_natAbs_le g0 (gcdI_dvd_l _ _))) (bq.of_le (div_natAbs_le g0 (gcdI_dvd_r _ _))) fun z => ?_⟩
  have hc := cop_div2 h0
  rw [z.1, z.2] at hc
  exact absurd hc (by decide)
/-! ### the hull -/
def leftI (a b c : Pt) : Int := (b.1 - a.1) * (c.2 - a.2) - (b.2 - a.2) * (c.1 - a.1)
def PtB (p : Pt) : Prop := -10000000 ≤ p.1 ∧ p.1 ≤ 10000000 ∧ -10000000 ≤ p.2 ∧ p.2 ≤ 10000000
def a_l_left : ASp := fun ds n Q => ∃ a b c : Pt, ds = [pt a, pt b, pt c] ∧ PtB a ∧ PtB b ∧ PtB c ∧ Q (.int (leftI a b c)) n
theorem ok_l_left (T : Tx K mg A) : FnOk P w K mg base CX0 1 A.f_l_left A.fd_l_left ["_law_a", "_law_b", "_law_c"] (spOf K 3 a_l_left) := by
  refine fn_mir [] 3 rfl (by decide) (by decide) T.F_l_left sc_l_left fun cdv Ar outer s H E hr => ?_
  refine ⟨_, _, (pss_one (ps_ret (pe_op op_sub (pe_op k_mul (pe_op op_sub (pe_ix (k_ix (K := K) rfl) (pv 1) pe_int (fun _ _ => rfl)) (pe_ix (k_ix (K := K) rfl) (pv 0) pe_int (fun _ _ => rfl))) (pe_op op_sub (pe_ix (k_ix (K := K) rfl) (pv 2) pe_int (fun _ _ => rfl)) (pe_ix (k_ix (K := K) rfl) (pv 0) pe_int (fun _ _ => rfl)))) (pe_op k_mul (pe_op op_sub (pe_ix (k_ix (K := K) rfl) (pv 1) pe_int (fun _ _ => rfl)) (pe_ix (k_ix (K := K) rfl) (pv 0) pe_int (fun _ _ => rfl))) (pe_op op_sub (pe_ix (k_ix (K := K) rfl) (pv 2) pe_int (fun _ _ => rfl)) (pe_ix (k_ix (K := K) rfl) (pv 0) pe_int (fun _ _ => rfl))))))), by infer_instance, fun ds n Q hl hA => ?_⟩
  obtain ⟨a, b, c, rfl, ba, bb, bc, q⟩ := hA
  unfold PtB at ba bb bc
  exact ⟨.inl (.inl ⟨by omega, by omega⟩), .inl (.inl ⟨by omega, by omega⟩), q⟩
/-- the half hull, its last point first -/
def popR (p : Pt) : List Pt → List Pt
  | b :: a :: r => if leftI a b p ≤ 0 then popR p (a :: r) else b :: a :: r
  | s => s
def halfS (st : List Pt) (ps : List Pt) : List Pt := ps.foldl (fun st p => p :: popR p st) st
def halfR (ps : List Pt) : List Pt := halfS [] ps
theorem popR_sub (p : Pt) : ∀ st : List Pt, ∀ x ∈ popR p st, x ∈ st
  | [], x, h => h
  | [b], x, h => h
  | b :: a :: r, x, h => by
    unfold popR at h
    split at h
    · exact List.mem_cons_of_mem _ (popR_sub p (a :: r) x h)
    · exact h
theorem popR_len (p : Pt) : ∀ st : List Pt, (popR p st).length ≤ st.length
  | [] => Nat.le_refl _
  | [b] => Nat.le_refl _
  | b :: a :: r => by
    unfold popR
    split
    · exact Nat.le_succ_of_le (popR_len p (a :: r))
    · exact Nat.le_refl _
theorem halfS_sub : ∀ (ps st : List Pt), ∀ x ∈ halfS st ps, x ∈ st ∨ x ∈ ps
  | [], st, x, h => .inl h
  | p :: ps, st, x, h => by
    rcases halfS_sub ps (p :: popR p st) x h with h | h
    · rcases List.mem_cons.mp h with rfl | h
      · exact .inr List.mem_cons_self
      · exact .inl (popR_sub p st x h)
    · exact .inr (List.mem_cons_of_mem _ h)
theorem halfS_len : ∀ (ps st : List Pt), (halfS st ps).length ≤ st.length + ps.length
  | [], st => Nat.le_refl _
  | p :: ps, st => by
    have h1 := halfS_len ps (p :: popR p st)
    have h2 := popR_len p st
    rw [List.length_cons] at h1 ⊢
    show (halfS (p :: popR p st) ps).length ≤ _
    omega
theorem atI_m1 {xs : List D} {a b : D} : atI (xs ++ [a, b]) (-1) = some b := by
  have := atI_last (xs ++ [a]) b
  rw [List.append_assoc] at this
  exact this
theorem atI_m2 {xs : List D} {a b : D} : atI (xs ++ [a, b]) (-2) = some a := by
  have hl : (xs ++ [a, b]).length = xs.length + 2 := by simp
  unfold atI ixN
  rw [if_neg (by omega), if_pos (by omega), hl]
  show (xs ++ [a, b])[(-2 + ((xs.length + 2 : Nat) : Int)).toNat]? = some a
  have e : (-2 + ((xs.length + 2 : Nat) : Int)).toNat = xs.length := by omega
  rw [e, List.getElem?_append_right (Nat.le_refl _), Nat.sub_self]
  rfl
theorem cutL_last (xs : List D) (a : D) : cutL (xs ++ [a]) none (some (-1)) = xs := by
  unfold cutL
  have hl : (xs ++ [a]).length = xs.length + 1 := by simp
  rw [HT.sIx_none]
  have e : HT.sIx (xs ++ [a]).length (xs ++ [a]).length (some (-1)) = xs.length := by
    rw [hl]
    unfold HT.sIx
    simp
    omega
  rw [e, List.drop_zero, Nat.sub_zero, List.take_left]
/-- a stack of points, the last first -/
def stk (st : List Pt) : List D := st.reverse.map pt
theorem stk_two (a b : Pt) (r : List Pt) : stk (b :: a :: r) = stk r ++ [pt a, pt b] := by
  unfold stk
  simp
theorem stk_one (a : Pt) (r : List Pt) : stk (a :: r) = stk r ++ [pt a] := by
  unfold stk
  simp
theorem stk_len (st : List Pt) : (stk st).length = st.length := by
  unfold stk
  rw [List.length_map, List.length_reverse]
theorem cut_nil : cutL [] none (some (-1)) = [] := by
  unfold cutL
  simp
def a_l_half : ASp := fun ds n Q => ∃ ps : List Pt, ds = [.lst (ps.map pt)] ∧ (∀ p ∈ ps, PtB p) ∧ ps.length ≤ 100 ∧ Q (.lst (stk (halfR ps).tail)) n
theorem ok_l_half (T : Tx K mg A) : FnOk P w K mg base CX0 2 A.f_l_half A.fd_l_half ["_law_points"] (spOf K 1 a_l_half) := by
  refine fn_mir [] 3 rfl (by decide) (by decide) T.F_l_half sc_l_half fun cdv Ar outer s H E hr => ?_
  refine ⟨_, _, (pss_cons (ps_set (i := 1) sc_l_half.nd rfl (.inl rfl) (pe_lst pa_nil))
    (pss_cons (ps_for PassesOwn.never rfl (k_iter (K := K) rfl (pv 0)) (pg_name (i := 2) sc_l_half.nd rfl (.inl rfl))
      (pss_cons (ps_while PassesOwn.never (PW.pt (pw_and (pt_cmpR op_gt (pe_callB (k_len (K := K) rfl) (by rfl) T.m_len (by decide +kernel) (pa_cons (pv 1) pa_nil)) pe_int (nomark _)) (pw_and1 (pt_cmpR op_le (pe_call (ok_l_left (K := K) T) (hr.mono (by decide)) (by rfl) T.g_l_left T.F_l_left.kp T.b_l_left .nil pass0 (pa_cons (pe_ix (k_ixS (K := K) rfl) (pv 1) (pe_un un_neg pe_int) (fun _ _ => rfl)) (pa_cons (pe_ix (k_ixS (K := K) rfl) (pv 1) (pe_un un_neg pe_int) (fun _ _ => rfl)) (pa_cons (pv 2) pa_nil)))) pe_int (nomark _)))))
      (pss_one (ps_set (i := 1) sc_l_half.nd rfl (.inl rfl) (pe_slice (k_sl (K := K) rfl) (pv 1) po_none (po_some (pe_un un_neg pe_int))))))
    (pss_one (ps_set (i := 1) sc_l_half.nd rfl (.inl rfl) (pe_op (k_add (K := K) rfl) (pv 1) (pe_lst (pa_cons (pv 2) pa_nil)))))))
    (pss_one (ps_ret (pe_slice (k_sl (K := K) rfl) (pv 1) po_none (po_some (pe_un un_neg pe_int))))))), by infer_instance, fun ds n Q hl hA => ?_⟩
  obtain ⟨ps, rfl, hB, hlen, q⟩ := hA
  refine aFor_ind (fun ds ρ n' => n' = n ∧ ∃ (qs st : List Pt) (y : Option D), ds = qs.map pt ∧ ρ = [some (.lst (ps.map pt)), some (.lst (stk st)), y] ∧ halfS st qs = halfR ps ∧ (∀ p ∈ st, PtB p) ∧ (∀ p ∈ qs, PtB p) ∧ st.length + qs.length ≤ 100) ?_ ?_ ⟨rfl, ps, [], none, rfl, rfl, rfl, (fun p h => by cases h), hB, by simpa using hlen⟩
  · rintro d r _ n' ⟨rfl, qs, st, y, hq, rfl, he, hs, hqs, hl⟩ ih
    obtain ⟨p, qs, rfl, rfl, rfl⟩ : ∃ p qs', qs = p :: qs' ∧ d = pt p ∧ r = qs'.map pt := by
      cases qs with
      | nil => cases hq
      | cons p qs => cases hq; exact ⟨p, qs, rfl, rfl, rfl⟩
    have bp := hqs p List.mem_cons_self
    rw [List.length_cons] at hl
    refine ⟨fun m ρ m' => m' = n' ∧ ∃ st', ρ = [some (.lst (ps.map pt)), some (.lst (stk st')), some (pt p)] ∧ m = st'.length ∧ popR p st' = popR p st ∧ (∀ p ∈ st', PtB p) ∧ st'.length ≤ st.length, ⟨_, rfl, st, rfl, rfl, rfl, hs, Nat.le_refl _⟩, ?_⟩
    rintro m ρ k ⟨hk, st', rfl, rfl, hp, hs', hl'⟩
    subst hk
    have done : popR p st' = st' → k = k ∧ ∃ (qs' st : List Pt) (y : Option D), qs.map pt = qs'.map pt ∧ [some (D.lst (ps.map pt)), some (.lst (stk st' ++ [pt p])), some (pt p)] = [some (.lst (ps.map pt)), some (.lst (stk st)), y] ∧ halfS st qs' = halfR ps ∧ (∀ p ∈ st, PtB p) ∧ (∀ p ∈ qs', PtB p) ∧ st.length + qs'.length ≤ 100 := fun hfix => by
      refine ⟨rfl, qs, p :: st', _, rfl, by rw [stk_one], ?_, ?_, fun x hx => hqs x (List.mem_cons_of_mem _ hx), ?_⟩
      · rw [← he]
        show halfS (p :: st') qs = halfS (p :: popR p st) qs
        rw [← hp, hfix]
      · intro x hx
        rcases List.mem_cons.mp hx with rfl | hx
        · exact bp
        · exact hs' x hx
      · rw [List.length_cons]
        omega
    have hsz : (stk st').length + 1 ≤ 1000000 := by rw [stk_len]; omega
    match st', hp, hs', hl', done, hsz with
    | [], _, _, _, done, hsz => exact dIte (fun e => absurd e (by decide)) fun _ => aF ⟨hsz, ih _ _ (done rfl)⟩
    | [x], _, _, _, done, hsz => exact dIte (fun e => absurd e (show ¬ (1 : Int) < ((1 : Nat) : Int) by decide)) fun _ => aF ⟨hsz, ih _ _ (done rfl)⟩
    | b :: a :: r, hp, hs', hl', done, hsz =>
      rw [stk_two] at done hsz ⊢
      have hlen2 : (1 : Int) < ((stk r ++ [pt a, pt b]).length : Int) := by
        rw [List.length_append]
        show (1 : Int) < (((stk r).length + 2 : Nat) : Int)
        omega
      refine dIte (fun _ => ?_) fun e => absurd hlen2 e
      refine aIx_lst atI_m2 ?_
      refine aIx_lst atI_m1 ?_
      refine ⟨a, b, p, rfl, hs' a (List.mem_cons_of_mem _ List.mem_cons_self), hs' b List.mem_cons_self, bp, ?_⟩
      refine dIte (fun e => ?_) fun e => ?_
      · refine ⟨(a :: r).length, Nat.lt_succ_self _, rfl, a :: r, ?_, rfl, ?_, fun x hx => hs' x (List.mem_cons_of_mem _ hx), Nat.le_of_succ_le hl'⟩
        · have e2 : stk r ++ [pt a, pt b] = stk (a :: r) ++ [pt b] := by rw [stk_one, List.append_assoc]; rfl
          show [some (D.lst (ps.map pt)), some (.lst (cutL (stk r ++ [pt a, pt b]) none (some (-1)))), some (pt p)] = _
          rw [e2, cutL_last]
        · rw [← hp]
          conv => rhs; unfold popR
          rw [if_pos e]
      · refine ⟨hsz, ih _ _ (done ?_)⟩
        unfold popR
        rw [if_neg e]
  · rintro _ n' ⟨rfl, qs, st, y, hq, rfl, he, hs, hqs, hl⟩
    cases qs with
    | cons p qs => cases hq
    | nil =>
      have e : st = halfR ps := he
      subst e
      show Q (.lst (cutL (stk (halfR ps)) none (some (-1)))) _
      cases h : halfR ps with
      | nil => rw [h] at q; exact q
      | cons a r =>
        rw [h] at q
        rw [stk_one, cutL_last]
        exact q
def hullOf (rs : List Pt) : List Pt :=
  if ((halfR rs).tail.reverse ++ (halfR rs.reverse).tail.reverse).length < 3 then [(0, 0), (2, 0), (0, 2)] else (halfR rs).tail.reverse ++ (halfR rs.reverse).tail.reverse
def a_l_hull : ASp := fun ds n Q => ∃ ps : List Pt, ds = [.lst (ps.map pt)] ∧ (∀ p ∈ ps, PtB p) ∧ ps.length ≤ 50 ∧ ∀ rs : List Pt, rs.Perm ps → rs.Pairwise lexLe → Q (.lst ((hullOf rs).map pt)) n
theorem ok_l_hull (T : Tx K mg A) : FnOk P w K mg base CX0 3 A.f_l_hull A.fd_l_hull ["_law_points"] (spOf K 1 a_l_hull) := by
  refine fn_mir [] 3 rfl (by decide) (by decide) T.F_l_hull sc_l_hull fun cdv Ar outer s H E hr => ?_
  refine ⟨_, _, (pss_cons (ps_set (i := 1) sc_l_hull.nd rfl (.inl rfl) (pe_callB (k_sortP (K := K) rfl) (by rfl) T.m_sorted (by decide +kernel) (pa_cons (pv 0) pa_nil)))
    (pss_cons (ps_set (i := 2) sc_l_hull.nd rfl (.inl rfl) (pe_op (k_add (K := K) rfl) (pe_call (ok_l_half (K := K) T) (hr.mono (by decide)) (by rfl) T.g_l_half T.F_l_half.kp T.b_l_half .nil pass0 (pa_cons (pv 1) pa_nil)) (pe_call (ok_l_half (K := K) T) (hr.mono (by decide)) (by rfl) T.g_l_half T.F_l_half.kp T.b_l_half .nil pass0 (pa_cons (k_rev (K := K) rfl (pv 1)) pa_nil))))
    (pss_cons (ps_if (pt_cmpR op_lt (pe_callB (k_len (K := K) rfl) (by rfl) T.m_len (by decide +kernel) (pa_cons (pv 2) pa_nil)) pe_int (nomark _))
      (pss_one (ps_ret (pe_lst (pa_cons (pe_tup (pa_cons pe_int (pa_cons pe_int pa_nil))) (pa_cons (pe_tup (pa_cons pe_int (pa_cons pe_int pa_nil))) (pa_cons (pe_tup (pa_cons pe_int (pa_cons pe_int pa_nil))) pa_nil))))))
      pss_nil)
    (pss_one (ps_ret (pv 2)))))), by infer_instance, fun ds n Q hl hA => ?_⟩
  obtain ⟨ps, rfl, hB, hlen, q⟩ := hA
  refine ⟨ps, rfl, fun rs hp hpw => ?_⟩
  have hl := hp.length_eq
  have hBr : ∀ p ∈ rs, PtB p := fun p h => hB p (hp.mem_iff.mp h)
  refine ⟨rs, rfl, hBr, by omega, ?_⟩
  refine ⟨rs.reverse, ?_, fun p h => hBr p (List.mem_reverse.mp h), by rw [List.length_reverse]; omega, ?_⟩
  · rw [List.map_reverse]
  have n1 : (stk (halfR rs).tail).length ≤ 100 := by
    have := halfS_len rs []
    rw [stk_len, List.length_tail]
    unfold halfR
    simp at this
    omega
  have n2 : (stk (halfR rs.reverse).tail).length ≤ 100 := by
    have := halfS_len rs.reverse []
    rw [stk_len, List.length_tail]
    unfold halfR
    simp at this
    omega
  refine ⟨by omega, ?_⟩
  have e : stk (halfR rs).tail ++ stk (halfR rs.reverse).tail = ((halfR rs).tail.reverse ++ (halfR rs.reverse).tail.reverse).map pt := by
    unfold stk
    rw [List.map_append]
  have q2 := q rs hp hpw
  unfold hullOf at q2
  rw [e]
  refine dIte (fun h => ?_) fun h => ?_
  · rw [List.length_map] at h
    rw [if_pos (by omega)] at q2
    exact q2
  · rw [List.length_map] at h
    rw [if_neg (by omega)] at q2
    exact q2
/-! ### names -/
theorem strOk_tl {z : Str} (h : ∀ c ∈ z.cps.toList, c < 0x110000) : PyData.canLay0 (.str z) = true := by
  unfold PyData.canLay0
  show (z.cps.all _) = true
  rw [Array.all_eq_true']
  intro c hc
  exact decide_eq_true (h c (Array.mem_toList_iff.mpr hc))
theorem joinL_mem (S : List Nat) : ∀ (ps : List (List Nat)) (c : Nat), c ∈ TL.joinL S ps → c ∈ S ∨ ∃ p ∈ ps, c ∈ p
  | [], c, h => by cases h
  | [p], c, h => .inr ⟨p, List.mem_cons_self, h⟩
  | p :: q :: r, c, h => by
    rcases List.mem_append.mp h with h | h
    · exact .inr ⟨p, List.mem_cons_self, h⟩
    · rcases List.mem_append.mp h with h | h
      · exact .inl h
      · rcases joinL_mem S (q :: r) c h with h | ⟨p', h1, h2⟩
        · exact .inl h
        · exact .inr ⟨p', List.mem_cons_of_mem _ h1, h2⟩
theorem letters_at {i : Int} (h0 : 0 ≤ i) (h1 : i < 26) : ∃ c, atI (Str.ofString "abcdefghijklmnopqrstuvwxyz").cps.toList i = some c ∧ c < 0x110000 := by
  obtain ⟨k, rfl⟩ := Int.eq_ofNat_of_zero_le h0
  have hk : k < 26 := by omega
  have : ∀ k < 26, ∃ c, atI (Str.ofString "abcdefghijklmnopqrstuvwxyz").cps.toList ((k : Nat) : Int) = some c ∧ c < 0x110000 := fun k hk => ⟨97 + k, by
    revert k
    decide +kernel, by omega⟩
  exact this k hk
theorem aIx_str {z : Str} {i : Int} {c n : Nat} {Q : D → Nat → Prop} (hl : z.length ≤ 1000000) (e : atI z.cps.toList i = some c) (q : Q (.str ⟨#[c]⟩) n) : aIxS (.str z) (.int i) n Q := by
  unfold aIxS
  refine ⟨hl, ?_⟩
  rw [e]
  exact q
theorem signs_ok {ys : List Str} (h : ∀ y ∈ ys, ∃ c : Nat, y = ⟨#[c]⟩ ∧ c < 0x110000) : (ys.map (·.length)).sum = ys.length ∧ PyData.canLay0 (.str (Txt.join (Str.ofString "") ys)) = true := by
  constructor
  · induction ys with
    | nil => rfl
    | cons y r ih =>
      obtain ⟨c, rfl, _⟩ := h y List.mem_cons_self
      rw [List.map_cons, List.sum_cons, ih fun z hz => h z (List.mem_cons_of_mem _ hz), List.length_cons]
      show 1 + r.length = _
      omega
  · refine strOk_tl fun c hc => ?_
    rw [TL.join_eq] at hc
    have hc2 : c ∈ TL.tl (Str.join (Str.ofString "") ys) := hc
    rw [TL.tl_join] at hc2
    rcases joinL_mem _ _ _ hc2 with h' | ⟨p, h1, h2⟩
    · have e0 : TL.tl (Str.ofString "") = [] := by decide +kernel
      rw [e0] at h'
      cases h'
    · obtain ⟨y, hy, rfl⟩ := List.mem_map.mp h1
      obtain ⟨c', rfl, hc'⟩ := h y hy
      have : c = c' := List.mem_singleton.mp h2
      omega
def a_l_name : ASp := fun ds n Q => ds = [.deck] ∧ 20 ≤ n ∧ ∀ (z : Str) (n' : Nat), PyData.canLay0 (.str z) = true → n ≤ n' + 13 → Q (.str z) n'
theorem ok_l_name (T : Tx K mg A) : FnOk P w K mg base CX0 4 A.f_l_name A.fd_l_name ["_law_deck_here"] (spOf K 1 a_l_name) := by
  refine fn_mir [] 4 rfl (by decide) (by decide) T.F_l_name sc_l_name fun cdv Ar outer s H E hr => ?_
  refine ⟨_, _, (pss_cons (ps_set (i := 1) sc_l_name.nd rfl (.inr rfl) pe_str)
    (pss_cons (ps_set (i := 2) sc_l_name.nd rfl (.inl rfl) (pe_ix (k_ixS (K := K) rfl) (pe_lst (pa_cons pe_int (pa_cons pe_int (pa_cons pe_int pa_nil)))) (pe_call (ok_l_take (K := K) T) (hr.mono (by decide)) (by rfl) T.g_l_take T.F_l_take.kp T.b_l_take .nil pass0 (pa_cons (pv 0) (pa_cons pe_int pa_nil))) (fun _ _ => rfl)))
    (pss_one (ps_ret (k_join (K := K) rfl pe_str (pe_lc (own := [("_law_k", 3)]) rfl sc_l_name.nd (pi_range1 (by rfl) T.m_range (pa_cons (pv 2) pa_nil)) (blkOk_by (own := [("_law_k", 3)]) (N := ["_law_deck_here", "_law_letters", "_law_many", "_law_k"]) (sc := defScope s_l_name) (by decide +kernel)) (fun _ _ _ _ _ => (pg_name (i := 3) sc_l_name.nd rfl (Or.inl rfl))) (fun _ _ _ _ _ => pts_nil) (fun _ _ _ _ _ => (pe_ix (k_ixS (K := K) rfl) (pv 1) (pe_call (ok_l_take (K := K) T) (hr.mono (by decide)) (by rfl) T.g_l_take T.F_l_take.kp T.b_l_take .nil pass0 (pa_cons (pv 0) (pa_cons pe_int pa_nil))) (fun _ _ => rfl))))))))), by infer_instance, fun ds n Q hl hA => ?_⟩
  obtain ⟨rfl, hn, q⟩ := hA
  refine ⟨3, rfl, by decide, by decide, by omega, fun r l u => ?_⟩
  obtain ⟨k, hk1, hat⟩ : ∃ k : Nat, k ≤ 12 ∧ atI [D.int 1, D.int 2, D.int 12] r = some (D.int k) := by
    obtain rfl | rfl | rfl : r = 0 ∨ r = 1 ∨ r = 2 := by omega
    · exact ⟨1, by decide, rfl⟩
    · exact ⟨2, by decide, rfl⟩
    · exact ⟨12, by decide, rfl⟩
  refine aIx_lst hat ?_
  refine ⟨⟨by omega, by omega⟩, by rw [rangeD_length]; omega, ?_⟩
  refine aLc_ind (fun acc ds m => ∃ ys : List Str, acc = ys.map D.str ∧ (∀ y ∈ ys, ∃ c : Nat, y = ⟨#[c]⟩ ∧ c < 0x110000) ∧ ys.length + ds.length = k ∧ n ≤ m + 1 + ys.length) ?_ ?_ ⟨[], rfl, (fun y h => by cases h), by rw [rangeD_length]; simp, by simp; omega⟩
  · rintro acc d r m ⟨ys, rfl, hy, hl, hm⟩ ih
    rw [List.length_cons] at hl
    refine aT ⟨26, rfl, by decide, by decide, by omega, fun x l5 u5 => ?_⟩
    obtain ⟨ch, hch, hlt⟩ := letters_at l5 u5
    refine aIx_str (by decide +kernel) hch (ih _ _ ⟨ys ++ [⟨#[ch]⟩], by rw [List.map_append]; rfl, ?_, by rw [List.length_append]; simp; omega, by rw [List.length_append]; simp; omega⟩)
    intro y hy'
    rcases List.mem_append.mp hy' with h | h
    · exact hy y h
    · exact ⟨ch, List.mem_singleton.mp h, hlt⟩
  · rintro acc m ⟨ys, rfl, hy, hl, hm⟩
    obtain ⟨s1, s2⟩ := signs_ok hy
    have : (Str.ofString "").length = 0 := by decide +kernel
    exact ⟨ys, rfl, by rw [s1, this]; omega, q _ _ s2 (by simp at hl; omega)⟩

theorem so_many_q (x : Rat) {m : Int} (hm : 0 < m) : x * (m : Rat)⁻¹ = Rat.divInt (x.num * 1) ((x.den : Int) * m) := by
  have h0 : (m : Rat) ≠ 0 := fun z => by
    have : m = 0 := Rat.intCast_inj.mp z
    omega
  have hd : (0 : Int) < (x.den : Int) * m := Int.mul_pos (den_pos x) hm
  refine eq_divInt (by omega) ?_
  have e := num_eq x
  rw [Rat.intCast_mul, Rat.intCast_mul, e]
  grind
theorem on_q (p : Int) (z : Rat) : (p : Rat) * z = Rat.divInt (p * z.num) (z.den : Int) := by
  refine eq_divInt (by have := den_pos z; omega) ?_
  have e := num_eq z
  rw [Rat.intCast_mul, e]
  grind
theorem upon_q {p q : Int} (x y : Rat) (h0 : ¬ (p = 0 ∧ q = 0)) : railC p q 1 x y = Rat.divInt (p * x.num * (y.den : Int) + q * y.num * (x.den : Int)) ((x.den : Int) * (y.den : Int) * (p * p + q * q)) := by
  have hs : 0 < p * p + q * q := sq_pos h0
  have hd := Int.mul_pos (Int.mul_pos (den_pos x) (den_pos y)) hs
  refine eq_divInt (by omega) ?_
  unfold railC
  rw [Int.one_mul]
  have hs' : ((p * p + q * q : Int) : Rat) ≠ 0 := fun z => by
    have := Rat.intCast_inj.mp (z.trans Rat.intCast_zero.symm)
    omega
  have e1 := num_eq x
  have e2 := num_eq y
  simp only [Rat.intCast_mul, Rat.intCast_add] at *
  rw [e1, e2]
  grind
theorem may_q {p q : Int} (x y : Rat) : decide ((p : Rat) * y - (q : Rat) * x = 0) = decide (p * y.num * (x.den : Int) = q * x.num * (y.den : Int)) := by
  have e1 := num_eq x
  have e2 := num_eq y
  have d1 : ((x.den : Int) : Rat) ≠ 0 := fun z => by
    have := Rat.intCast_inj.mp (z.trans Rat.intCast_zero.symm)
    have := den_pos x
    omega
  have d2 : ((y.den : Int) : Rat) ≠ 0 := fun z => by
    have := Rat.intCast_inj.mp (z.trans Rat.intCast_zero.symm)
    have := den_pos y
    omega
  refine decide_eq_decide.mpr ⟨fun h => ?_, fun h => ?_⟩
  · refine Rat.intCast_inj.mp ?_
    simp only [Rat.intCast_mul]
    rw [e1, e2]
    grind
  · have h2 := congrArg (fun z : Int => (z : Rat)) h
    simp only [Rat.intCast_mul] at h2
    rw [e1, e2] at h2
    have h3 : ((p : Rat) * y - (q : Rat) * x) * (((x.den : Int) : Rat) * ((y.den : Int) : Rat)) = 0 := by grind
    rcases Rat.mul_eq_zero.mp h3 with h | h
    · exact h
    · rcases Rat.mul_eq_zero.mp h with h | h
      · exact absurd h d1
      · exact absurd h d2
theorem railC_m {p q m : Int} (hm : 0 < m) (h : ¬ (p = 0 ∧ q = 0)) (x y : Rat) : railC p q m x y = railC p q 1 x y * (m : Rat)⁻¹ := by
  unfold railC
  rw [Int.one_mul, Rat.intCast_mul]
  have h1 := int_ne0 hm
  have h2 := int_ne0 (sq_pos h)
  grind
theorem ans_kick {kn : Kn} (ok : kn.Ok) (hm : 0 < kn.mass) (x y : Rat) : kn.ans x y = ((kn.kick x y).1 * (kn.mass : Rat)⁻¹, (kn.kick x y).2 * (kn.mass : Rat)⁻¹) := by
  cases kn with
  | wall => exact absurd hm (by decide)
  | free m => rfl
  | rail m p q =>
    show ((p : Rat) * railC p q m x y, (q : Rat) * railC p q m x y) = ((p : Rat) * railC p q 1 x y * (m : Rat)⁻¹, (q : Rat) * railC p q 1 x y * (m : Rat)⁻¹)
    rw [railC_m ok.1 ok.2.2.2.2, Rat.mul_assoc, Rat.mul_assoc]
theorem kick_bd {kn : Kn} (ok : kn.Ok) {x y : Rat} {n : Nat} (hn : 0 < n) (bx : BdQ n x) (bY : BdQ n y) : BdQ (21 + n + n + 64) (kn.kick x y).1 ∧ BdQ (21 + n + n + 64) (kn.kick x y).2 := by
  cases kn with
  | wall => exact ⟨⟨by unfold Bd; exact Nat.two_pow_pos _, by unfold Bd; exact Nat.one_lt_two_pow (by omega)⟩, ⟨by unfold Bd; exact Nat.two_pow_pos _, by unfold Bd; exact Nat.one_lt_two_pow (by omega)⟩⟩
  | free m => exact ⟨bx.le (by omega), bY.le (by omega)⟩
  | rail m p q =>
    have h0 := ok.2.2.2.2
    have bp := ok.2.2.1
    have bq := ok.2.2.2.1
    have hs := sq_pos h0
    have dd := Int.mul_pos (den_pos x) (den_pos y)
    have db := Int.mul_pos dd hs
    have bs : Bd 43 (p * p + q * q) := (bp.mul bp).add (bq.mul bq)
    have bdd := (bx.2.mul bY.2).mul bs
    have bt : Bd (21 + n + n + 1) (p * x.num * (y.den : Int) + q * y.num * (x.den : Int)) := ((bp.mul bx.1).mul bY.2).add ((bq.mul bY.1).mul bx.2)
    have bc : BdQ (n + n + 43) (railC p q 1 x y) := by
      rw [upon_q x y h0]
      exact divInt_bd db (bt.le (by omega)) (bdd.le (by omega))
    exact ⟨((bdq_int bp (by decide)).mul bc).le (by omega), ((bdq_int bq (by decide)).mul bc).le (by omega)⟩
def a_l_so_many : ASp := fun ds n Q => ∃ (x y : Rat) (m : Int) (k : Nat), ds = [spt x y, .int 1, .int m] ∧ 0 < m ∧ Bd 21 m ∧ BdQ k x ∧ BdQ k y ∧ k ≤ 2000 ∧ Q (spt (x * (m : Rat)⁻¹) (y * (m : Rat)⁻¹)) n
theorem ok_l_so_many (T : Tx K mg A) : FnOk P w K mg base CX0 3 A.f_l_so_many A.fd_l_so_many ["_law_spot_here", "_law_top", "_law_bottom"] (spOf K 3 a_l_so_many) := by
  refine fn_mir [] 5 rfl (by decide) (by decide) T.F_l_so_many sc_l_so_many fun cdv Ar outer s H E hr => ?_
  refine ⟨_, _, (pss_cons (ps_setLc (i := 3) (own := [("_law_one", 4)]) rfl sc_l_so_many.nd rfl rfl (sw_true rfl rfl rfl (by decide +kernel)) (k_iter (K := K) rfl (pv 0)) (blkOk_by (own := [("_law_one", 4)]) (N := ["_law_spot_here", "_law_top", "_law_bottom", "_law_found", "_law_one"]) (sc := defScope s_l_so_many) (by decide +kernel)) (fun _ _ _ _ _ => (pg_name (i := 4) sc_l_so_many.nd rfl (Or.inl rfl))) (fun _ _ _ _ _ => pts_nil) (fun _ _ _ _ _ => (pe_call (ok_l_part (K := K) T) (hr.mono (by decide)) (by rfl) T.g_l_part T.F_l_part.kp T.b_l_part .nil pass0 (pa_cons (pe_op k_mul (pe_ix (k_ix (K := K) rfl) (pv 4) pe_int (fun _ _ => rfl)) (pv 1)) (pa_cons (pe_op k_mul (pe_ix (k_ix (K := K) rfl) (pv 4) pe_int (fun _ _ => rfl)) (pv 2)) pa_nil)))))
    (pss_one (ps_ret (pe_tup (pa_cons (pe_ix (k_ix (K := K) rfl) (pv 3) pe_int (fun _ _ => rfl)) (pa_cons (pe_ix (k_ix (K := K) rfl) (pv 3) pe_int (fun _ _ => rfl)) pa_nil)))))), by infer_instance, fun ds n Q hl hA => ?_⟩
  obtain ⟨x, y, m, k, rfl, hm, bm, bx, bY, hk, q⟩ := hA
  refine ⟨(show 2 ≤ 1000000 by decide), aT ⟨.inl (.inr ⟨by decide, by decide⟩), mulA bx.2 bm (by omega) (by omega), ?_⟩⟩
  refine part_ok (Int.mul_pos (den_pos x) hm) (bx.2.mul bm) (by omega) ?_
  rw [← so_many_q x hm]
  refine aT ⟨.inl (.inr ⟨by decide, by decide⟩), mulA bY.2 bm (by omega) (by omega), ?_⟩
  refine part_ok (Int.mul_pos (den_pos y) hm) (bY.2.mul bm) (by omega) ?_
  rw [← so_many_q y hm]
  exact q
def a_l_on : ASp := fun ds n Q => ∃ (p q : Int) (z : Rat) (k : Nat), ds = [.tup [.int p, .int q], sh z] ∧ Bd 21 p ∧ Bd 21 q ∧ BdQ k z ∧ k ≤ 4000 ∧ Q (spt ((p : Rat) * z) ((q : Rat) * z)) n
theorem ok_l_on (T : Tx K mg A) : FnOk P w K mg base CX0 3 A.f_l_on A.fd_l_on ["_law_line_here", "_law_part_here"] (spOf K 2 a_l_on) := by
  refine fn_mir [] 4 rfl (by decide) (by decide) T.F_l_on sc_l_on fun cdv Ar outer s H E hr => ?_
  refine ⟨_, _, (pss_cons (ps_setLc (i := 2) (own := [("_law_one", 3)]) rfl sc_l_on.nd rfl rfl (sw_true rfl rfl rfl (by decide +kernel)) (k_iter (K := K) rfl (pv 0)) (blkOk_by (own := [("_law_one", 3)]) (N := ["_law_line_here", "_law_part_here", "_law_found", "_law_one"]) (sc := defScope s_l_on) (by decide +kernel)) (fun _ _ _ _ _ => (pg_name (i := 3) sc_l_on.nd rfl (Or.inl rfl))) (fun _ _ _ _ _ => pts_nil) (fun _ _ _ _ _ => (pe_call (ok_l_part (K := K) T) (hr.mono (by decide)) (by rfl) T.g_l_part T.F_l_part.kp T.b_l_part .nil pass0 (pa_cons (pe_op k_mul (pv 3) (pe_ix (k_ix (K := K) rfl) (pv 1) pe_int (fun _ _ => rfl))) (pa_cons (pe_ix (k_ix (K := K) rfl) (pv 1) pe_int (fun _ _ => rfl)) pa_nil)))))
    (pss_one (ps_ret (pe_tup (pa_cons (pe_ix (k_ix (K := K) rfl) (pv 2) pe_int (fun _ _ => rfl)) (pa_cons (pe_ix (k_ix (K := K) rfl) (pv 2) pe_int (fun _ _ => rfl)) pa_nil)))))), by infer_instance, fun ds n Q hl hA => ?_⟩
  obtain ⟨p, q, z, k, rfl, bp, bq, bz, hk, Qk⟩ := hA
  refine ⟨(show 2 ≤ 1000000 by decide), aT ⟨mulA bp bz.1 (by omega) (by omega), ?_⟩⟩
  refine part_ok (den_pos z) bz.2 (by omega) ?_
  rw [← on_q p z]
  refine aT ⟨mulA bq bz.1 (by omega) (by omega), ?_⟩
  refine part_ok (den_pos z) bz.2 (by omega) ?_
  rw [← on_q q z]
  exact Qk
def a_l_upon : ASp := fun ds n Q => ∃ (p q : Int) (x y : Rat) (k : Nat), ds = [.tup [.int p, .int q], spt x y] ∧ Bd 21 p ∧ Bd 21 q ∧ ¬ (p = 0 ∧ q = 0) ∧ BdQ k x ∧ BdQ k y ∧ k ≤ 500 ∧ Q (spt ((p : Rat) * railC p q 1 x y) ((q : Rat) * railC p q 1 x y)) n
theorem ok_l_upon (T : Tx K mg A) : FnOk P w K mg base CX0 4 A.f_l_upon A.fd_l_upon ["_law_line_here", "_law_spot_here"] (spOf K 2 a_l_upon) := by
  refine fn_mir [] 8 rfl (by decide) (by decide) T.F_l_upon sc_l_upon fun cdv Ar outer s H E hr => ?_
  refine ⟨_, _, (pss_cons (ps_asg (pv 1) (k_gtup (K := K) (m := 2) rfl rfl (pgs_cons (k_gtup (K := K) (m := 2) rfl rfl (pgs_cons (pg_name (i := 2) sc_l_upon.nd rfl (.inl rfl)) (pgs_cons (pg_name (i := 3) sc_l_upon.nd rfl (.inl rfl)) pgs_nil))) (pgs_cons (k_gtup (K := K) (m := 2) rfl rfl (pgs_cons (pg_name (i := 4) sc_l_upon.nd rfl (.inl rfl)) (pgs_cons (pg_name (i := 5) sc_l_upon.nd rfl (.inl rfl)) pgs_nil))) pgs_nil))))
    (pss_cons (ps_set (i := 6) sc_l_upon.nd rfl (.inl rfl) (pe_op (k_add (K := K) rfl) (pe_op k_mul (pe_op k_mul (pe_ix (k_ix (K := K) rfl) (pv 0) pe_int (fun _ _ => rfl)) (pv 2)) (pv 5)) (pe_op k_mul (pe_op k_mul (pe_ix (k_ix (K := K) rfl) (pv 0) pe_int (fun _ _ => rfl)) (pv 4)) (pv 3))))
    (pss_cons (ps_set (i := 7) sc_l_upon.nd rfl (.inl rfl) (pe_op (k_add (K := K) rfl) (pe_op k_mul (pe_ix (k_ix (K := K) rfl) (pv 0) pe_int (fun _ _ => rfl)) (pe_ix (k_ix (K := K) rfl) (pv 0) pe_int (fun _ _ => rfl))) (pe_op k_mul (pe_ix (k_ix (K := K) rfl) (pv 0) pe_int (fun _ _ => rfl)) (pe_ix (k_ix (K := K) rfl) (pv 0) pe_int (fun _ _ => rfl)))))
    (pss_one (ps_ret (pe_call (ok_l_on (K := K) T) (hr.mono (by decide)) (by rfl) T.g_l_on T.F_l_on.kp T.b_l_on .nil pass0 (pa_cons (pv 0) (pa_cons (pe_call (ok_l_part (K := K) T) (hr.mono (by decide)) (by rfl) T.g_l_part T.F_l_part.kp T.b_l_part .nil pass0 (pa_cons (pv 6) (pa_cons (pe_op k_mul (pe_op k_mul (pv 3) (pv 5)) (pv 7)) pa_nil))) pa_nil)))))))), by infer_instance, fun ds n Q hl hA => ?_⟩
  obtain ⟨p, q, x, y, k, rfl, bp, bq, h0, bx, bY, hk, Qk⟩ := hA
  have hs := sq_pos h0
  have dd := Int.mul_pos (den_pos x) (den_pos y)
  have db := Int.mul_pos dd hs
  have bs : Bd 43 (p * p + q * q) := (bp.mul bp).add (bq.mul bq)
  have bd1 := bx.2.mul bY.2
  have bdd := bd1.mul bs
  have bt : Bd (21 + k + k + 1) (p * x.num * (y.den : Int) + q * y.num * (x.den : Int)) := ((bp.mul bx.1).mul bY.2).add ((bq.mul bY.1).mul bx.2)
  have bc : BdQ (21 + k + k + 43) (railC p q 1 x y) := by
    rw [upon_q x y h0]
    exact divInt_bd db (bt.le (by omega)) (bdd.le (by omega))
  refine ⟨mulA bp bx.1 (by omega) (by omega), mulA (bp.mul bx.1) bY.2 (by omega) (by omega), mulA bq bY.1 (by omega) (by omega), mulA (bq.mul bY.1) bx.2 (by omega) (by omega), mulA bp bp (by omega) (by omega), mulA bq bq (by omega) (by omega), mulA bx.2 bY.2 (by omega) (by omega), mulA bd1 bs (by omega) (by omega), ?_⟩
  refine part_ok db bdd (by omega) ?_
  rw [← upon_q x y h0]
  exact ⟨p, q, _, _, rfl, bp, bq, bc, by omega, Qk⟩
def KindIs (kd : Int) (p q : Int) (kn : Kn) : Prop := (kd = 0 ∧ kn = .wall) ∨ (kd = 1 ∧ ∃ m, kn = .free m) ∨ (kd = 2 ∧ ∃ m, kn = .rail m p q)
def a_l_kick : ASp := fun ds n Q => ∃ (kd : Int) (kn : Kn) (p q : Int) (x y : Rat) (k : Nat), ds = [.int kd, .tup [.int p, .int q], spt x y] ∧ KindIs kd p q kn ∧ Bd 21 p ∧ Bd 21 q ∧ ¬ (p = 0 ∧ q = 0) ∧ BdQ k x ∧ BdQ k y ∧ k ≤ 500 ∧ Q (spt (kn.kick x y).1 (kn.kick x y).2) n
theorem ok_l_kick (T : Tx K mg A) : FnOk P w K mg base CX0 5 A.f_l_kick A.fd_l_kick ["_law_kind", "_law_line_here", "_law_spot_here"] (spOf K 3 a_l_kick) := by
  refine fn_mir [] 3 rfl (by decide) (by decide) T.F_l_kick sc_l_kick fun cdv Ar outer s H E hr => ?_
  refine ⟨_, _, (pss_cons (ps_if (pt_cmpR (k_eq (K := K) rfl hr.units) (pv 0) pe_int (nomark _))
      (pss_one (ps_ret (pe_tup (pa_cons (pe_tup (pa_cons pe_int (pa_cons pe_int pa_nil))) (pa_cons (pe_tup (pa_cons pe_int (pa_cons pe_int pa_nil))) pa_nil)))))
      pss_nil)
    (pss_cons (ps_if (pt_cmpR (k_eq (K := K) rfl hr.units) (pv 0) pe_int (nomark _))
      (pss_one (ps_ret (pv 2)))
      pss_nil)
    (pss_one (ps_ret (pe_call (ok_l_upon (K := K) T) (hr.mono (by decide)) (by rfl) T.g_l_upon T.F_l_upon.kp T.b_l_upon .nil pass0 (pa_cons (pv 1) (pa_cons (pv 2) pa_nil))))))), by infer_instance, fun ds n Q hl hA => ?_⟩
  obtain ⟨kd, kn, p, q, x, y, k, rfl, hk, bp, bq, h0, bx, bY, hn, Qk⟩ := hA
  rcases hk with ⟨rfl, rfl⟩ | ⟨rfl, m, rfl⟩ | ⟨rfl, m, rfl⟩
  · exact aT Qk
  · exact aF (aT Qk)
  · exact aF (aF ⟨p, q, x, y, k, rfl, bp, bq, h0, bx, bY, hn, Qk⟩)
def a_l_may : ASp := fun ds n Q => ∃ (kd : Int) (kn : Kn) (p q : Int) (x y : Rat) (k : Nat), ds = [.int kd, .tup [.int p, .int q], spt x y] ∧ KindIs kd p q kn ∧ Bd 21 p ∧ Bd 21 q ∧ BdQ k x ∧ BdQ k y ∧ k ≤ 1400 ∧ Q (.bl (kn.may x y)) n
theorem ok_l_may (T : Tx K mg A) : FnOk P w K mg base CX0 1 A.f_l_may A.fd_l_may ["_law_kind", "_law_line_here", "_law_spot_here"] (spOf K 3 a_l_may) := by
  refine fn_mir [] 4 rfl (by decide) (by decide) T.F_l_may sc_l_may fun cdv Ar outer s H E hr => ?_
  refine ⟨_, _, (pss_cons (ps_if (pt_cmpR (k_eq (K := K) rfl hr.units) (pv 0) pe_int (nomark _))
      (pss_one (ps_ret (pe_cmpR (k_eq (K := K) rfl hr.units) (pv 2) (pe_tup (pa_cons (pe_tup (pa_cons pe_int (pa_cons pe_int pa_nil))) (pa_cons (pe_tup (pa_cons pe_int (pa_cons pe_int pa_nil))) pa_nil))) (nomark _))))
      pss_nil)
    (pss_cons (ps_set (i := 3) sc_l_may.nd rfl (.inl rfl) (pe_op k_mul (pe_op k_mul (pe_ix (k_ix (K := K) rfl) (pv 1) pe_int (fun _ _ => rfl)) (pe_ix (k_ix (K := K) rfl) (pe_ix (k_ix (K := K) rfl) (pv 2) pe_int (fun _ _ => rfl)) pe_int (fun _ _ => rfl))) (pe_ix (k_ix (K := K) rfl) (pe_ix (k_ix (K := K) rfl) (pv 2) pe_int (fun _ _ => rfl)) pe_int (fun _ _ => rfl))))
    (pss_one (ps_ret (pe_or (pe_cmpR (k_eq (K := K) rfl hr.units) (pv 0) pe_int (nomark _)) (pe_one (pe_cmpR (k_eq (K := K) rfl hr.units) (pv 3) (pe_op k_mul (pe_op k_mul (pe_ix (k_ix (K := K) rfl) (pv 1) pe_int (fun _ _ => rfl)) (pe_ix (k_ix (K := K) rfl) (pe_ix (k_ix (K := K) rfl) (pv 2) pe_int (fun _ _ => rfl)) pe_int (fun _ _ => rfl))) (pe_ix (k_ix (K := K) rfl) (pe_ix (k_ix (K := K) rfl) (pv 2) pe_int (fun _ _ => rfl)) pe_int (fun _ _ => rfl))) (nomark _)))))))), by infer_instance, fun ds n Q hl hA => ?_⟩
  obtain ⟨kd, kn, p, q, x, y, k, rfl, hk, bp, bq, bx, bY, hn, Qk⟩ := hA
  rcases hk with ⟨rfl, rfl⟩ | ⟨rfl, m, rfl⟩ | ⟨rfl, m, rfl⟩
  · refine aT ⟨⟨rfl, rfl, rfl, rfl⟩, ?_⟩
    show Q (.bl (PyData.eqv (spt x y).pd (spt 0 0).pd)) n
    rw [eqv_sp0]
    exact Qk
  · exact aF ⟨mulA bp bY.1 (by omega) (by omega), mulA (bp.mul bY.1) bx.2 (by omega) (by omega), aT Qk⟩
  · refine aF ⟨mulA bp bY.1 (by omega) (by omega), mulA (bp.mul bY.1) bx.2 (by omega) (by omega), aF ⟨mulA bq bx.1 (by omega) (by omega), mulA (bq.mul bx.1) bY.2 (by omega) (by omega), ?_⟩⟩
    have Qk' : Q (.bl (decide ((p : Rat) * y - (q : Rat) * x = 0))) n := Qk
    rw [may_q x y] at Qk'
    exact Qk'
theorem eqv_shx (x : Rat) : PyData.eqv (sh x).pd (sh x).pd = true := SeqAt.eqv_refl _ rfl
def a_l_is_spot : ASp := fun ds n Q => ∃ x y : Rat, ds = [spt x y, spt x y] ∧ Q (.bl true) n
theorem ok_l_is_spot (T : Tx K mg A) : FnOk P w K mg base CX0 2 A.f_l_is_spot A.fd_l_is_spot ["_law_found", "_law_due"] (spOf K 2 a_l_is_spot) := by
  refine fn_mir [] 4 rfl (by decide) (by decide) T.F_l_is_spot sc_l_is_spot fun cdv Ar outer s H E hr => ?_
  refine ⟨_, _, (pss_cons (ps_if (PW.pt (pw_or (pt_not (pt_val (pe_callB (k_isi (K := K) rfl) (by rfl) T.m_isinstance (by decide +kernel) (pa_cons (pv 0) (pa_cons (k_ty (t := .tup) (by rfl) T.m_tuple (by decide +kernel)) pa_nil))))) (pw_or1 (pt_cmpR (k_ne (K := K) rfl hr.units) (pe_callB (k_len (K := K) rfl) (by rfl) T.m_len (by decide +kernel) (pa_cons (pv 0) pa_nil)) pe_int (nomark _)))))
      (pss_one (ps_ret pe_bl))
      pss_nil)
    (pss_cons (ps_for PassesOwn.never rfl (k_zip (K := K) rfl (by rfl) T.m_zip (pa_cons (pv 0) (pa_cons (pv 1) pa_nil))) (k_gtup (K := K) (m := 2) rfl rfl (pgs_cons (pg_name (i := 2) sc_l_is_spot.nd rfl (.inl rfl)) (pgs_cons (pg_name (i := 3) sc_l_is_spot.nd rfl (.inl rfl)) pgs_nil)))
      (pss_cons (ps_if (PW.pt (pw_or (pt_not (pt_val (pe_callB (k_isi (K := K) rfl) (by rfl) T.m_isinstance (by decide +kernel) (pa_cons (pv 2) (pa_cons (k_ty (t := .tup) (by rfl) T.m_tuple (by decide +kernel)) pa_nil))))) (pw_or1 (pt_cmpR (k_ne (K := K) rfl hr.units) (pe_callB (k_len (K := K) rfl) (by rfl) T.m_len (by decide +kernel) (pa_cons (pv 2) pa_nil)) pe_int (nomark _)))))
      (pss_one (ps_ret pe_bl))
      pss_nil)
    (pss_one (ps_if (PW.pt (pw_or (pt_not (pt_val (pe_call (ok_l_whole (K := K) T) (hr.mono (by decide)) (by rfl) T.g_l_whole T.F_l_whole.kp T.b_l_whole .nil pass0 (pa_cons (pe_ix (k_ix (K := K) rfl) (pv 2) pe_int (fun _ _ => rfl)) pa_nil)))) (pw_or (pt_not (pt_val (pe_call (ok_l_whole (K := K) T) (hr.mono (by decide)) (by rfl) T.g_l_whole T.F_l_whole.kp T.b_l_whole .nil pass0 (pa_cons (pe_ix (k_ix (K := K) rfl) (pv 2) pe_int (fun _ _ => rfl)) pa_nil)))) (pw_or1 (pt_cmpR (k_ne (K := K) rfl hr.units) (pv 2) (pv 3) (nomark _))))))
      (pss_one (ps_ret pe_bl))
      pss_nil))))
    (pss_one (ps_ret pe_bl)))), by infer_instance, fun ds n Q hl hA => ?_⟩
  obtain ⟨x, y, rfl, q⟩ := hA
  refine aF (aF ?_)
  refine aF (aF ⟨_, rfl, aF ⟨_, rfl, aF ⟨⟨rfl, rfl, rfl, rfl⟩, ?_⟩⟩⟩)
  show aIte (!PyData.eqv (sh x).pd (sh x).pd) _ _
  rw [eqv_shx]
  refine aF ?_
  refine aF (aF ⟨_, rfl, aF ⟨_, rfl, aF ⟨⟨rfl, rfl, rfl, rfl⟩, ?_⟩⟩⟩)
  show aIte (!PyData.eqv (sh y).pd (sh y).pd) _ _
  rw [eqv_shx]
  exact aF q

def a_l_shape : ASp := fun ds n Q => ds = [.deck] ∧ 60 ≤ n ∧ ∀ (rs : List Pt) (n' : Nat), rs.Pairwise lexLe → (∀ p ∈ rs, PtB p) → 3 ≤ rs.length → rs.length ≤ 8 → n ≤ n' + 40 → Q (.tup ((hullOf rs).map pt)) n'
theorem ok_l_shape (T : Tx K mg A) : FnOk P w K mg base CX0 5 A.f_l_shape A.fd_l_shape ["_law_deck_here"] (spOf K 1 a_l_shape) := by
  refine fn_mir [] 4 rfl (by decide) (by decide) T.F_l_shape sc_l_shape fun cdv Ar outer s H E hr => ?_
  refine ⟨_, _, (pss_cons (ps_set (i := 1) sc_l_shape.nd rfl (.inr rfl) (pe_ix (k_ixS (K := K) rfl) (pe_lst (pa_cons pe_int (pa_cons pe_int (pa_cons pe_int pa_nil)))) (pe_call (ok_l_take (K := K) T) (hr.mono (by decide)) (by rfl) T.g_l_take T.F_l_take.kp T.b_l_take .nil pass0 (pa_cons (pv 0) (pa_cons pe_int pa_nil))) (fun _ _ => rfl)))
    (pss_cons (ps_set (i := 2) sc_l_shape.nd rfl (.inl rfl) (pe_op (k_add (K := K) rfl) pe_int (pe_call (ok_l_take (K := K) T) (hr.mono (by decide)) (by rfl) T.g_l_take T.F_l_take.kp T.b_l_take .nil pass0 (pa_cons (pv 0) (pa_cons pe_int pa_nil)))))
    (pss_one (ps_ret (pe_callTy (k_tuple (K := K) rfl) (by rfl) T.m_tuple (by decide +kernel) (pa_cons (pe_call (ok_l_hull (K := K) T) (hr.mono (by decide)) (by rfl) T.g_l_hull T.F_l_hull.kp T.b_l_hull .nil pass0 (pa_cons (pe_lc (own := [("_law_k", 3)]) rfl sc_l_shape.nd (pi_range1 (by rfl) T.m_range (pa_cons (pv 2) pa_nil)) (blkOk_by (own := [("_law_k", 3)]) (N := ["_law_deck_here", "_law_span", "_law_many", "_law_k"]) (sc := defScope s_l_shape) (by decide +kernel)) (fun _ _ _ _ _ => (pg_name (i := 3) sc_l_shape.nd rfl (Or.inl rfl))) (fun _ _ _ _ _ => pts_nil) (fun _ _ _ _ _ => (pe_tup (pa_cons (pe_call (ok_l_number (K := K) T) (hr.mono (by decide)) (by rfl) T.g_l_number T.F_l_number.kp T.b_l_number .nil pass0 (pa_cons (pv 0) (pa_cons (pv 1) pa_nil))) (pa_cons (pe_call (ok_l_number (K := K) T) (hr.mono (by decide)) (by rfl) T.g_l_number T.F_l_number.kp T.b_l_number .nil pass0 (pa_cons (pv 0) (pa_cons (pv 1) pa_nil))) pa_nil))))) pa_nil)) pa_nil)))))), by infer_instance, fun ds n Q hl hA => ?_⟩
  obtain ⟨rfl, hn, q⟩ := hA
  refine ⟨3, rfl, by decide, by decide, by omega, fun r l u => ?_⟩
  obtain ⟨sp, hs0, hs1, hat⟩ : ∃ sp : Int, 0 ≤ sp ∧ sp ≤ 1000000 ∧ atI [D.int 3, D.int 9, D.int 1000000] r = some (D.int sp) := by
    obtain rfl | rfl | rfl : r = 0 ∨ r = 1 ∨ r = 2 := by omega
    · exact ⟨3, by decide, by decide, rfl⟩
    · exact ⟨9, by decide, by decide, rfl⟩
    · exact ⟨1000000, by decide, by decide, rfl⟩
  refine aIx_lst hat ?_
  refine ⟨6, rfl, by decide, by decide, by omega, fun m lm um => ?_⟩
  refine ⟨⟨by omega, by omega⟩, by rw [rangeD_length]; omega, ?_⟩
  refine aLc_ind (fun acc ds k => ∃ ps : List Pt, acc = ps.map pt ∧ (∀ p ∈ ps, PtB p) ∧ ps.length + ds.length = (3 + m).toNat ∧ n ≤ k + 2 + 4 * ps.length) ?_ ?_ ⟨[], rfl, (fun y h => by cases h), by rw [rangeD_length]; simp, by simp; omega⟩
  · rintro acc d r k ⟨ps, rfl, hp, hl, hk⟩ ih
    rw [List.length_cons] at hl
    refine aT ⟨sp, rfl, hs0, hs1, by omega, fun x lx ux => ⟨sp, rfl, hs0, hs1, by omega, fun y ly uy => ?_⟩⟩
    refine ih _ _ ⟨ps ++ [(x, y)], by rw [List.map_append]; rfl, ?_, by rw [List.length_append]; simp; omega, by rw [List.length_append]; simp; omega⟩
    intro p hp'
    rcases List.mem_append.mp hp' with h | h
    · exact hp p h
    · rw [List.mem_singleton.mp h]
      exact ⟨by show -10000000 ≤ x; omega, by show x ≤ 10000000; omega, by show -10000000 ≤ y; omega, by show y ≤ 10000000; omega⟩
  · rintro acc k ⟨ps, rfl, hp, hl, hk⟩
    simp at hl
    refine ⟨ps, rfl, hp, by omega, fun rs hperm hpw => ?_⟩
    have e := hperm.length_eq
    exact q rs _ hpw (fun p h => hp p (hperm.mem_iff.mp h)) (by omega) (by omega) (by omega)
def a_l_row : ASp := fun ds n Q => ∃ (kd p q : Int), ds = [.deck, .int kd, .tup [.int p, .int q]] ∧ 200 ≤ n ∧ 0 ≤ kd ∧ kd < 3 ∧ Bd 21 p ∧ Bd 21 q ∧ ¬ (p = 0 ∧ q = 0) ∧
  ∀ (kn : Kn) (z : Str) (ps : List Pt) (px py sx sy : Rat) (n' : Nat), PyData.canLay0 (.str z) = true → BdQ 222 sx → BdQ 222 sy → kn.Ok → KindIs kd p q kn → n ≤ n' + 100 → Q (rowD kn (.str z) (.tup (ps.map pt)) (spt px py) (spt sx sy)) n'
theorem ok_l_row (T : Tx K mg A) : FnOk P w K mg base CX0 7 A.f_l_row A.fd_l_row ["_law_deck_here", "_law_kind", "_law_line_here"] (spOf K 3 a_l_row) := by
  refine fn_mir [] 7 rfl (by decide) (by decide) T.F_l_row sc_l_row fun cdv Ar outer s H E hr => ?_
  refine ⟨_, _, (pss_cons (ps_set (i := 3) sc_l_row.nd rfl (.inl rfl) (pe_call (ok_l_name (K := K) T) (hr.mono (by decide)) (by rfl) T.g_l_name T.F_l_name.kp T.b_l_name .nil pass0 (pa_cons (pv 0) pa_nil)))
    (pss_cons (ps_set (i := 4) sc_l_row.nd rfl (.inl rfl) (pe_call (ok_l_shape (K := K) T) (hr.mono (by decide)) (by rfl) T.g_l_shape T.F_l_shape.kp T.b_l_shape .nil pass0 (pa_cons (pv 0) pa_nil)))
    (pss_cons (ps_set (i := 5) sc_l_row.nd rfl (.inl rfl) (pe_call (ok_l_spot (K := K) T) (hr.mono (by decide)) (by rfl) T.g_l_spot T.F_l_spot.kp T.b_l_spot .nil pass0 (pa_cons (pv 0) pa_nil)))
    (pss_cons (ps_set (i := 6) sc_l_row.nd rfl (.inl rfl) (pe_ix (k_ixS (K := K) rfl) (pe_lst (pa_cons pe_int (pa_cons pe_int (pa_cons pe_int (pa_cons (pe_op (k_add (K := K) rfl) pe_int (pe_call (ok_l_take (K := K) T) (hr.mono (by decide)) (by rfl) T.g_l_take T.F_l_take.kp T.b_l_take .nil pass0 (pa_cons (pv 0) (pa_cons pe_int pa_nil)))) pa_nil))))) (pe_call (ok_l_take (K := K) T) (hr.mono (by decide)) (by rfl) T.g_l_take T.F_l_take.kp T.b_l_take .nil pass0 (pa_cons (pv 0) (pa_cons pe_int pa_nil))) (fun _ _ => rfl)))
    (pss_cons (ps_if (pt_cmpR (k_eq (K := K) rfl hr.units) (pv 1) pe_int (nomark _))
      (pss_one (ps_ret (pe_tup (pa_cons (pv 3) (pa_cons (pv 4) (pa_cons pe_int (pa_cons pe_non (pa_cons (pv 5) (pa_cons (pe_tup (pa_cons (pe_tup (pa_cons pe_int (pa_cons pe_int pa_nil))) (pa_cons (pe_tup (pa_cons pe_int (pa_cons pe_int pa_nil))) pa_nil))) pa_nil)))))))))
      pss_nil)
    (pss_cons (ps_if (pt_cmpR (k_eq (K := K) rfl hr.units) (pv 1) pe_int (nomark _))
      (pss_one (ps_ret (pe_tup (pa_cons (pv 3) (pa_cons (pv 4) (pa_cons (pv 6) (pa_cons pe_non (pa_cons (pv 5) (pa_cons (pe_call (ok_l_spot (K := K) T) (hr.mono (by decide)) (by rfl) T.g_l_spot T.F_l_spot.kp T.b_l_spot .nil pass0 (pa_cons (pv 0) pa_nil)) pa_nil)))))))))
      pss_nil)
    (pss_one (ps_ret (pe_tup (pa_cons (pv 3) (pa_cons (pv 4) (pa_cons (pv 6) (pa_cons (pv 2) (pa_cons (pv 5) (pa_cons (pe_call (ok_l_on (K := K) T) (hr.mono (by decide)) (by rfl) T.g_l_on T.F_l_on.kp T.b_l_on .nil pass0 (pa_cons (pv 2) (pa_cons (pe_call (ok_l_drawn (K := K) T) (hr.mono (by decide)) (by rfl) T.g_l_drawn T.F_l_drawn.kp T.b_l_drawn .nil pass0 (pa_cons (pv 0) pa_nil)) pa_nil))) pa_nil))))))))))))))), by infer_instance, fun ds n Q hl hA => ?_⟩
  obtain ⟨kd, p, q, rfl, hn, hk0, hk1, bp, bq, hnz, Qk⟩ := hA
  refine ⟨rfl, by omega, fun z n1 hz h1 => ⟨rfl, by omega, fun rs n2 _ _ _ _ h2 => ⟨rfl, by omega, fun px py n3 _ _ h3 => ?_⟩⟩⟩
  refine ⟨1000000, rfl, by decide, by decide, by omega, fun r7 l7 u7 => ⟨4, rfl, by decide, by decide, by omega, fun r9 l9 u9 => ?_⟩⟩
  obtain ⟨m, hm0, hm1, hat⟩ : ∃ m : Int, 0 < m ∧ m ≤ 1000000 ∧ atI [D.int 1, D.int 2, D.int 1000000, D.int (1 + r7)] r9 = some (D.int m) := by
    obtain rfl | rfl | rfl | rfl : r9 = 0 ∨ r9 = 1 ∨ r9 = 2 ∨ r9 = 3 := by omega
    · exact ⟨1, by decide, by decide, rfl⟩
    · exact ⟨2, by decide, by decide, rfl⟩
    · exact ⟨1000000, by decide, by decide, rfl⟩
    · exact ⟨1 + r7, by omega, by omega, rfl⟩
  have bm : Bd 21 m := bd21 (n := 1000000) (by decide) (by omega) hm1
  refine aIx_lst hat ?_
  have b0 : BdQ 222 (0 : Rat) := ⟨by unfold Bd; decide, by unfold Bd; decide⟩
  refine dIte (fun e => ?_) fun e => dIte (fun e2 => ?_) fun e2 => ?_
  · exact Qk .wall z _ px py 0 0 _ hz b0 b0 trivial (.inl ⟨e, rfl⟩) (by omega)
  · refine ⟨rfl, by omega, fun sx sy n4 bx bY h4 => ?_⟩
    exact Qk (.free m) z _ px py sx sy _ hz (bx.le (by decide)) (bY.le (by decide)) ⟨hm0, bm⟩ (.inr (.inl ⟨e2, m, rfl⟩)) (by omega)
  · refine ⟨rfl, by omega, fun w n4 bw h4 => ⟨p, q, w, 201, rfl, bp, bq, bw, by decide, ?_⟩⟩
    exact Qk (.rail m p q) z _ px py _ _ _ hz ((bdq_int bp (by decide)).mul bw) ((bdq_int bq (by decide)).mul bw) ⟨hm0, bm, bp, bq, hnz⟩ (.inr (.inr ⟨by omega, m, rfl⟩)) (by omega)
/-! ### the objects' classes -/
theorem insc (T : Tx K mg A) : ∀ kd : Kd, InsC K (kd.cls A)
  | .w => ⟨T.cl_Wall, T.in1_Wall, T.in2_Wall, T.in3_Wall, T.in4_Wall⟩
  | .f => ⟨T.cl_Free, T.in1_Free, T.in2_Free, T.in3_Free, T.in4_Free⟩
  | .r => ⟨T.cl_Railed, T.in1_Railed, T.in2_Railed, T.in3_Railed, T.in4_Railed⟩
theorem initC (T : Tx K mg A) : ∀ kd : Kd, InitC K (kd.cls A)
  | .w => init_Wall T
  | .f => init_Free T
  | .r => init_Railed T
def a_l_classes (A : Ad) : ASp := fun ds n Q => ∃ (kd p q : Int) (kn : Kn) (nm shp pl st : D), ds = [bodyD A kn nm shp pl st, .int kd] ∧ KindIs kd p q kn ∧ Q (.bl true) n
theorem ok_l_classes (T : Tx K mg A) : FnOk P w K mg base CX0 1 A.f_l_classes A.fd_l_classes ["_law_body", "_law_kind"] (spOf K 2 (a_l_classes A)) := by
  refine fn_mir [] 3 rfl (by decide) (by decide) T.F_l_classes sc_l_classes fun cdv Ar outer s H E hr => ?_
  refine ⟨_, _, (pss_cons (ps_set (i := 2) sc_l_classes.nd rfl (.inl rfl) (pe_lst (pa_cons (pe_callB (k_isi (K := K) rfl) (by rfl) T.m_isinstance (by decide +kernel) (pa_cons (pv 0) (pa_cons (k_cls (by rfl) T.g_Wall) pa_nil))) (pa_cons (pe_callB (k_isi (K := K) rfl) (by rfl) T.m_isinstance (by decide +kernel) (pa_cons (pv 0) (pa_cons (k_cls (by rfl) T.g_Free) pa_nil))) (pa_cons (pe_callB (k_isi (K := K) rfl) (by rfl) T.m_isinstance (by decide +kernel) (pa_cons (pv 0) (pa_cons (k_cls (by rfl) T.g_Railed) pa_nil))) pa_nil)))))
    (pss_one (ps_ret (pe_and (pe_callB (k_isi (K := K) rfl) (by rfl) T.m_isinstance (by decide +kernel) (pa_cons (pv 0) (pa_cons (k_cls (by rfl) T.g_Body) pa_nil))) (pe_one (pe_cmpR (k_eq (K := K) rfl hr.units) (pv 2) (pe_lst (pa_cons (pe_cmpR (k_eq (K := K) rfl hr.units) (pv 1) pe_int (nomark _)) (pa_cons (pe_cmpR (k_eq (K := K) rfl hr.units) (pv 1) pe_int (nomark _)) (pa_cons (pe_cmpR (k_eq (K := K) rfl hr.units) (pv 1) pe_int (nomark _)) pa_nil)))) (nomark _))))))), by infer_instance, fun ds n Q hl hA => ?_⟩
  obtain ⟨kd, p, q, kn, nm, shp, pl, st, rfl, hk, Qk⟩ := hA
  refine ⟨insc T kn.kd, ?_⟩
  rcases hk with ⟨rfl, rfl⟩ | ⟨rfl, m, rfl⟩ | ⟨rfl, m, rfl⟩
  · exact ⟨_, T.i_Wall_Wall, insc T .w, _, T.i_Wall_Free, insc T .w, _, T.i_Wall_Railed, insc T .w, _, T.i_Wall_Body, aT ⟨⟨rfl, rfl, rfl, rfl⟩, Qk⟩⟩
  · exact ⟨_, T.i_Free_Wall, insc T .f, _, T.i_Free_Free, insc T .f, _, T.i_Free_Railed, insc T .f, _, T.i_Free_Body, aT ⟨⟨rfl, rfl, rfl, rfl⟩, Qk⟩⟩
  · exact ⟨_, T.i_Railed_Wall, insc T .r, _, T.i_Railed_Free, insc T .r, _, T.i_Railed_Railed, insc T .r, _, T.i_Railed_Body, aT ⟨⟨rfl, rfl, rfl, rfl⟩, Qk⟩⟩
def a_l_asked (A : Ad) : ASp := fun ds n Q => ∃ (kd p q wy : Int) (kn : Kn) (nm shp pl st : D) (x y : Rat), ds = [bodyD A kn nm shp pl st, .int kd, .tup [.int p, .int q], rowD kn nm shp pl st, spt x y, .int wy] ∧ kn.Ok ∧ KindIs kd p q kn ∧ Bd 21 p ∧ Bd 21 q ∧ ¬ (p = 0 ∧ q = 0) ∧ BdQ 250 x ∧ BdQ 250 y ∧ Q (.bl true) n
theorem ok_l_asked (T : Tx K mg A) : FnOk P w K mg base CX0 10 A.f_l_asked A.fd_l_asked ["_law_body", "_law_kind", "_law_line_here", "_law_row_here", "_law_spot_here", "_law_way_here"] (spOf K 6 (a_l_asked A)) := by
  refine fn_mir [] 9 rfl (by decide) (by decide) T.F_l_asked sc_l_asked fun cdv Ar outer s H E hr => ?_
  refine ⟨_, _, (pss_cons (ps_set (i := 6) sc_l_asked.nd rfl (.inl rfl) (pe_call (ok_l_kick (K := K) T) (hr.mono (by decide)) (by rfl) T.g_l_kick T.F_l_kick.kp T.b_l_kick .nil pass0 (pa_cons (pv 1) (pa_cons (pv 2) (pa_cons (pv 4) pa_nil)))))
    (pss_cons (ps_set (i := 7) sc_l_asked.nd rfl (.inl rfl) (pv 6))
    (pss_cons (ps_if (pt_cmpR op_gt (pv 1) pe_int (nomark _))
      (pss_one (ps_set (i := 7) sc_l_asked.nd rfl (.inl rfl) (pe_call (ok_l_so_many (K := K) T) (hr.mono (by decide)) (by rfl) T.g_l_so_many T.F_l_so_many.kp T.b_l_so_many .nil pass0 (pa_cons (pv 6) (pa_cons pe_int (pa_cons (pe_ix (k_ix (K := K) rfl) (pv 3) pe_int (fun _ _ => rfl)) pa_nil))))))
      pss_nil)
    (pss_cons (ps_if (PW.pt (pw_and (pt_cmpR (k_eq (K := K) rfl hr.units) (pv 5) pe_int (nomark _)) (pw_and1 (pt_not (pt_val (pe_call (ok_l_is_spot (K := K) T) (hr.mono (by decide)) (by rfl) T.g_l_is_spot T.F_l_is_spot.kp T.b_l_is_spot .nil pass0 (pa_cons (k_dyn (K := K) (cls := Kd.cls A) (k := 2) (A := a_ans A Kn.ans) (pe_meth (pv 0) T.cl_Wall T.mt_m_Wall_answer (ok_m_Wall_answer (K := K) T) (hr.mono (by decide)) T.b_m_Wall_answer .nil pass0 (pa_cons (pv 4) pa_nil)) (pe_meth (pv 0) T.cl_Free T.mt_m_Free_answer (ok_m_Free_answer (K := K) T) (hr.mono (by decide)) T.b_m_Free_answer .nil pass0 (pa_cons (pv 4) pa_nil)) (pe_meth (pv 0) T.cl_Railed T.mt_m_Railed_answer (ok_m_Railed_answer (K := K) T) (hr.mono (by decide)) T.b_m_Railed_answer .nil pass0 (pa_cons (pv 4) pa_nil))) (pa_cons (pv 7) pa_nil))))))))
      (pss_one (ps_ret pe_bl))
      pss_nil)
    (pss_cons (ps_if (pt_not (pt_val (pe_call (ok_l_is_spot (K := K) T) (hr.mono (by decide)) (by rfl) T.g_l_is_spot T.F_l_is_spot.kp T.b_l_is_spot .nil pass0 (pa_cons (k_dyn (K := K) (cls := Kd.cls A) (k := 2) (A := a_ans A Kn.kick) (pe_meth (pv 0) T.cl_Wall T.mt_m_Wall_kick (ok_m_Wall_kick (K := K) T) (hr.mono (by decide)) T.b_m_Wall_kick .nil pass0 (pa_cons (pv 4) pa_nil)) (pe_meth (pv 0) T.cl_Free T.mt_m_Free_kick (ok_m_Free_kick (K := K) T) (hr.mono (by decide)) T.b_m_Free_kick .nil pass0 (pa_cons (pv 4) pa_nil)) (pe_meth (pv 0) T.cl_Railed T.mt_m_Railed_kick (ok_m_Railed_kick (K := K) T) (hr.mono (by decide)) T.b_m_Railed_kick .nil pass0 (pa_cons (pv 4) pa_nil))) (pa_cons (pv 6) pa_nil)))))
      (pss_one (ps_ret pe_bl))
      pss_nil)
    (pss_cons (ps_if (pt_not (pt_val (pe_call (ok_l_is_spot (K := K) T) (hr.mono (by decide)) (by rfl) T.g_l_is_spot T.F_l_is_spot.kp T.b_l_is_spot .nil pass0 (pa_cons (k_dyn (K := K) (cls := Kd.cls A) (k := 2) (A := a_ans A Kn.ans) (pe_meth (pv 0) T.cl_Wall T.mt_m_Wall_answer (ok_m_Wall_answer (K := K) T) (hr.mono (by decide)) T.b_m_Wall_answer .nil pass0 (pa_cons (pv 4) pa_nil)) (pe_meth (pv 0) T.cl_Free T.mt_m_Free_answer (ok_m_Free_answer (K := K) T) (hr.mono (by decide)) T.b_m_Free_answer .nil pass0 (pa_cons (pv 4) pa_nil)) (pe_meth (pv 0) T.cl_Railed T.mt_m_Railed_answer (ok_m_Railed_answer (K := K) T) (hr.mono (by decide)) T.b_m_Railed_answer .nil pass0 (pa_cons (pv 4) pa_nil))) (pa_cons (pv 7) pa_nil)))))
      (pss_one (ps_ret pe_bl))
      pss_nil)
    (pss_cons (ps_set (i := 8) sc_l_asked.nd rfl (.inl rfl) (k_dyn (K := K) (cls := Kd.cls A) (k := 2) (A := a_may A) (pe_meth (pv 0) T.cl_Wall T.mt_m_Wall_may (ok_m_Wall_may (K := K) T) (hr.mono (by decide)) T.b_m_Wall_may .nil pass0 (pa_cons (pv 4) pa_nil)) (pe_meth (pv 0) T.cl_Free T.mt_m_Free_may (ok_m_Free_may (K := K) T) (hr.mono (by decide)) T.b_m_Free_may .nil pass0 (pa_cons (pv 4) pa_nil)) (pe_meth (pv 0) T.cl_Railed T.mt_m_Railed_may (ok_m_Railed_may (K := K) T) (hr.mono (by decide)) T.b_m_Railed_may .nil pass0 (pa_cons (pv 4) pa_nil))))
    (pss_one (ps_ret (pe_and (pe_callB (k_isi (K := K) rfl) (by rfl) T.m_isinstance (by decide +kernel) (pa_cons (pv 8) (pa_cons (k_ty (t := .bl) (by rfl) T.m_bool (by decide +kernel)) pa_nil))) (pe_one (pe_cmpR (k_eq (K := K) rfl hr.units) (pv 8) (pe_call (ok_l_may (K := K) T) (hr.mono (by decide)) (by rfl) T.g_l_may T.F_l_may.kp T.b_l_may .nil pass0 (pa_cons (pv 1) (pa_cons (pv 2) (pa_cons (pv 4) pa_nil)))) (nomark _))))))))))))), by infer_instance, fun ds n Q hl hA => ?_⟩
  obtain ⟨kd, p, q, wy, kn, nm, shp, pl, st, x, y, rfl, ok, hk, bp, bq, h0, bx, bY, Qk⟩ := hA
  have kb := kick_bd ok (by decide) bx bY
  have hmass : kd > 0 → 0 < kn.mass ∧ Bd 21 kn.mass := fun hgt => by
    rcases hk with ⟨rfl, rfl⟩ | ⟨rfl, m, rfl⟩ | ⟨rfl, m, rfl⟩
    · omega
    · exact ⟨ok.1, ok.2⟩
    · exact ⟨ok.1, ok.2.1⟩
  have hwall : ¬ kd > 0 → kn.ans x y = kn.kick x y := fun hgt => by
    rcases hk with ⟨rfl, rfl⟩ | ⟨rfl, m, rfl⟩ | ⟨rfl, m, rfl⟩
    · rfl
    · omega
    · omega
  have nm1 : ("answer" : Str) ∉ bNs := by decide +kernel
  have nm2 : ("kick" : Str) ∉ bNs := by decide +kernel
  have nm3 : ("may" : Str) ∉ bNs := by decide +kernel
  refine ⟨kd, kn, p, q, x, y, 250, rfl, hk, bp, bq, h0, bx, bY, by decide, ?_⟩
  refine dIte (fun e => ?_) fun e => ?_
  · obtain ⟨hm, bm⟩ := hmass e
    have hs := ans_kick ok hm x y
    refine ⟨_, _, kn.mass, _, rfl, hm, bm, kb.1, kb.2, by decide, ?_⟩
    refine dIte (fun _ => ?first) (fun _ => aF ?second)
    case first =>
      refine ⟨kn.kd, ⟨rfl, nm1⟩, kn, nm, shp, pl, st, x, y, 250, rfl, rfl, ok, bx, bY, by decide, _, _, by rw [hs], aF ?_⟩
      refine ⟨kn.kd, ⟨rfl, nm2⟩, kn, nm, shp, pl, st, x, y, 250, rfl, rfl, ok, bx, bY, by decide, _, _, rfl, aF ?_⟩
      refine ⟨kn.kd, ⟨rfl, nm1⟩, kn, nm, shp, pl, st, x, y, 250, rfl, rfl, ok, bx, bY, by decide, _, _, by rw [hs], aF ?_⟩
      refine ⟨kn.kd, ⟨rfl, nm3⟩, kn, nm, shp, pl, st, x, y, 250, rfl, rfl, ok, bx, bY, by decide, aT ?_⟩
      refine ⟨kd, kn, p, q, x, y, 250, rfl, hk, bp, bq, bx, bY, by decide, ?_⟩
      show Q (.bl (decide (kn.may x y = kn.may x y))) n
      rw [decide_eq_true rfl]
      exact Qk
    case second =>
      refine ⟨kn.kd, ⟨rfl, nm2⟩, kn, nm, shp, pl, st, x, y, 250, rfl, rfl, ok, bx, bY, by decide, _, _, rfl, aF ?_⟩
      refine ⟨kn.kd, ⟨rfl, nm1⟩, kn, nm, shp, pl, st, x, y, 250, rfl, rfl, ok, bx, bY, by decide, _, _, by rw [hs], aF ?_⟩
      refine ⟨kn.kd, ⟨rfl, nm3⟩, kn, nm, shp, pl, st, x, y, 250, rfl, rfl, ok, bx, bY, by decide, aT ?_⟩
      refine ⟨kd, kn, p, q, x, y, 250, rfl, hk, bp, bq, bx, bY, by decide, ?_⟩
      show Q (.bl (decide (kn.may x y = kn.may x y))) n
      rw [decide_eq_true rfl]
      exact Qk
  · have hs := hwall e
    refine dIte (fun _ => ?first) (fun _ => aF ?second)
    case first =>
      refine ⟨kn.kd, ⟨rfl, nm1⟩, kn, nm, shp, pl, st, x, y, 250, rfl, rfl, ok, bx, bY, by decide, _, _, by rw [hs], aF ?_⟩
      refine ⟨kn.kd, ⟨rfl, nm2⟩, kn, nm, shp, pl, st, x, y, 250, rfl, rfl, ok, bx, bY, by decide, _, _, rfl, aF ?_⟩
      refine ⟨kn.kd, ⟨rfl, nm1⟩, kn, nm, shp, pl, st, x, y, 250, rfl, rfl, ok, bx, bY, by decide, _, _, by rw [hs], aF ?_⟩
      refine ⟨kn.kd, ⟨rfl, nm3⟩, kn, nm, shp, pl, st, x, y, 250, rfl, rfl, ok, bx, bY, by decide, aT ?_⟩
      refine ⟨kd, kn, p, q, x, y, 250, rfl, hk, bp, bq, bx, bY, by decide, ?_⟩
      show Q (.bl (decide (kn.may x y = kn.may x y))) n
      rw [decide_eq_true rfl]
      exact Qk
    case second =>
      refine ⟨kn.kd, ⟨rfl, nm2⟩, kn, nm, shp, pl, st, x, y, 250, rfl, rfl, ok, bx, bY, by decide, _, _, rfl, aF ?_⟩
      refine ⟨kn.kd, ⟨rfl, nm1⟩, kn, nm, shp, pl, st, x, y, 250, rfl, rfl, ok, bx, bY, by decide, _, _, by rw [hs], aF ?_⟩
      refine ⟨kn.kd, ⟨rfl, nm3⟩, kn, nm, shp, pl, st, x, y, 250, rfl, rfl, ok, bx, bY, by decide, aT ?_⟩
      refine ⟨kd, kn, p, q, x, y, 250, rfl, hk, bp, bq, bx, bY, by decide, ?_⟩
      show Q (.bl (decide (kn.may x y = kn.may x y))) n
      rw [decide_eq_true rfl]
      exact Qk
/-! ### what an object keeps -/
theorem pts_lay : ∀ ps : List Pt, PyData.canLayAll0 (pdAll (ps.map pt)) = true
  | [] => rfl
  | p :: ps => by
    rw [List.map_cons, pdAll, PyData.canLayAll0, pts_lay ps]
    rfl
theorem pts_depth : ∀ ps : List Pt, PyData.depthAll (pdAll (ps.map pt)) ≤ 1
  | [] => Nat.zero_le _
  | p :: ps => by
    rw [List.map_cons, pdAll, PyData.depthAll]
    exact Nat.max_le.mpr ⟨Nat.le_refl 1, pts_depth ps⟩
theorem pts_isD : ∀ ps : List Pt, isDAll (ps.map pt) = true
  | [] => rfl
  | p :: ps => by
    rw [List.map_cons, isDAll, pts_isD ps]
    rfl
theorem row_data (kn : Kn) (z : Str) (ps : List Pt) (px py sx sy : Rat) (hz : PyData.canLay0 (.str z) = true) : (rowD kn (.str z) (.tup (ps.map pt)) (spt px py) (spt sx sy)).isD = true ∧ SeqAt.shaped (rowD kn (.str z) (.tup (ps.map pt)) (spt px py) (spt sx sy)).pd = true ∧ PyData.eqv (rowD kn (.str z) (.tup (ps.map pt)) (spt px py) (spt sx sy)).pd (rowD kn (.str z) (.tup (ps.map pt)) (spt px py) (spt sx sy)).pd = true := by
  have hl : PyData.canLay0 (rowD kn (.str z) (.tup (ps.map pt)) (spt px py) (spt sx sy)).pd = true := by
    cases kn <;>
    · show (PyData.canLay0 (.str z) && (PyData.canLayAll0 (pdAll (ps.map pt)) && _)) = true
      rw [hz, pts_lay]
      rfl
  have hd : PyData.depth (rowD kn (.str z) (.tup (ps.map pt)) (spt px py) (spt sx sy)).pd ≤ 4 := by
    have h1 := pts_depth ps
    cases kn <;>
    · show max 0 (max (PyData.depthAll (pdAll (ps.map pt)) + 1) _) + 1 ≤ 4
      have : ∀ b, b ≤ 3 → max 0 (max (PyData.depthAll (pdAll (ps.map pt)) + 1) b) + 1 ≤ 4 := fun b hb => by omega
      exact this _ (show (2 : Nat) ≤ 3 by decide)
  refine ⟨?_, ?_, SeqAt.eqv_refl _ hl⟩
  · cases kn <;>
    · show (true && (isDAll (ps.map pt) && _)) = true
      rw [pts_isD]
      rfl
  · unfold SeqAt.shaped
    rw [hl, Bool.true_and]
    exact decide_eq_true (by omega)
def a_l_kept (A : Ad) : ASp := fun ds n Q => ∃ (kn : Kn) (z : Str) (ps : List Pt) (px py sx sy : Rat), ds = [bodyD A kn (.str z) (.tup (ps.map pt)) (spt px py) (spt sx sy), rowD kn (.str z) (.tup (ps.map pt)) (spt px py) (spt sx sy)] ∧ PyData.canLay0 (.str z) = true ∧ Q (.bl true) n
theorem ok_l_kept (T : Tx K mg A) : FnOk P w K mg base CX0 2 A.f_l_kept A.fd_l_kept ["_law_body", "_law_row_here"] (spOf K 2 (a_l_kept A)) := by
  refine fn_mir [] 2 rfl (by decide) (by decide) T.F_l_kept sc_l_kept fun cdv Ar outer s H E hr => ?_
  refine ⟨_, _, (pss_cons (ps_if (PW.pt (pw_or (pt_not (pt_val (pe_callB (k_isi (K := K) rfl) (by rfl) T.m_isinstance (by decide +kernel) (pa_cons (k_fld (K := K) rfl (pv 0) rfl) (pa_cons (k_ty (t := .str) (by rfl) T.m_str (by decide +kernel)) pa_nil))))) (pw_or (pt_cmpR (k_ne (K := K) rfl hr.units) (k_fld (K := K) rfl (pv 0) rfl) (pe_ix (k_ix (K := K) rfl) (pv 1) pe_int (fun _ _ => rfl)) (nomark _)) (pw_or1 (pt_not (pt_val (pe_call (ok_l_whole (K := K) T) (hr.mono (by decide)) (by rfl) T.g_l_whole T.F_l_whole.kp T.b_l_whole .nil pass0 (pa_cons (k_fld (K := K) rfl (pv 0) rfl) pa_nil))))))))
      (pss_one (ps_ret pe_bl))
      pss_nil)
    (pss_one (ps_ret (pe_and (pe_cmpR (k_eq (K := K) rfl hr.units) (k_fld (K := K) rfl (pv 0) rfl) (pe_ix (k_ix (K := K) rfl) (pv 1) pe_int (fun _ _ => rfl)) (nomark _)) (pe_and (pe_callB (k_isi (K := K) rfl) (by rfl) T.m_isinstance (by decide +kernel) (pa_cons (k_fld (K := K) rfl (pv 0) rfl) (pa_cons (k_ty (t := .tup) (by rfl) T.m_tuple (by decide +kernel)) pa_nil))) (pe_one (pe_cmpR (k_eq (K := K) rfl hr.units) (k_fld (K := K) rfl (pv 0) rfl) (pv 1) (nomark _)))))))), by infer_instance, fun ds n Q hl hA => ?_⟩
  obtain ⟨kn, z, ps, px, py, sx, sy, rfl, hz, q⟩ := hA
  have ic := initC T kn.kd
  obtain ⟨d1, d2, d3⟩ := row_data kn z ps px py sx sy hz
  refine ⟨⟨ic.cl, ic.n⟩, _, look_name, aF ⟨⟨ic.cl, ic.n⟩, _, look_name, ?_⟩⟩
  show aIte (!decide (z = z)) _ _
  rw [decide_eq_true rfl]
  refine aF ⟨⟨ic.cl, ic.m⟩, _, look_mass, _, rfl, aF ?_⟩
  refine ⟨⟨ic.cl, ic.m⟩, _, look_mass, ?_⟩
  show aIte (decide (kn.mass = kn.mass)) _ _
  rw [decide_eq_true rfl]
  refine aT ⟨⟨ic.cl, ic.r⟩, _, look_row, aT ⟨⟨ic.cl, ic.r⟩, _, look_row, ?_⟩⟩
  refine ⟨⟨d1, d1, d2, d2⟩, ?_⟩
  show Q (.bl (PyData.eqv (rowD kn (.str z) (.tup (ps.map pt)) (spt px py) (spt sx sy)).pd (rowD kn (.str z) (.tup (ps.map pt)) (spt px py) (spt sx sy)).pd)) n
  rw [d3]
  exact q

/-! CUT -/
def ways6 (ws : List Int) : D := .lst (ws.map D.int)
structure RowOk (A : Ad) (p q : Int) (kinds rows bodies : List D) (k : Int) (kd : Int) (kn : Kn) (z : Str) (ps : List Pt) (px py sx sy : Rat) : Prop where
  a1 : atI kinds k = some (.int kd)
  a2 : atI rows k = some (rowD kn (.str z) (.tup (ps.map pt)) (spt px py) (spt sx sy))
  a3 : atI bodies k = some (bodyD A kn (.str z) (.tup (ps.map pt)) (spt px py) (spt sx sy))
  hz : PyData.canLay0 (.str z) = true
  ok : kn.Ok
  hk : KindIs kd p q kn
  bx : BdQ 222 sx
  bY : BdQ 222 sy
def env11 (kinds ways line onh spots beside rows bodies : D) (a b c d e : Option D) : Env' := [none, some .deck, some kinds, some ways, some line, some onh, some spots, some beside, some rows, some bodies, a, b, c, d, e, none, none]
def IsSp (d : D) : Prop := ∃ x y : Rat, d = spt x y ∧ BdQ 250 x ∧ BdQ 250 y
theorem cases3 {k : Int} (h0 : 0 ≤ k) (h1 : k < 3) : k = 0 ∨ k = 1 ∨ k = 2 := by omega
theorem range_mem {lo : Int} {k : Nat} {d : D} (h : d ∈ rangeD lo k) : ∃ i : Int, d = .int i ∧ lo ≤ i ∧ i < lo + k := by
  obtain ⟨i, hi⟩ := List.mem_iff_getElem?.mp h
  obtain ⟨h1, h2⟩ := rangeD_get hi
  exact ⟨_, h2, by omega, by omega⟩
theorem ok_law (T : Tx K mg A) : FnOk P w K mg base CX0 11 A.f_law A.fd_law ["_law_script"] (sp_law K) := by
  refine law_mir [] 17 1 rfl (by decide) (by decide) T.F_law sc_law fun cdv Ar outer s H E hr => ?_
  refine ⟨_, _, (pss_cons (ps_set (i := 1) sc_law.nd rfl (.inr rfl) (pe_call (ok_l_deck (K := K) T) (hr.mono (by decide)) (by rfl) T.g_l_deck T.F_l_deck.kp T.b_l_deck .nil pass0 (pa_cons (pv 0) pa_nil)))
    (pss_cons (ps_set (i := 2) sc_law.nd rfl (.inl rfl) (pe_ix (k_ixS (K := K) rfl) (pe_lst (pa_cons (pe_lst (pa_cons pe_int (pa_cons pe_int (pa_cons pe_int pa_nil)))) (pa_cons (pe_lst (pa_cons pe_int (pa_cons pe_int (pa_cons pe_int pa_nil)))) (pa_cons (pe_lst (pa_cons pe_int (pa_cons pe_int (pa_cons pe_int pa_nil)))) (pa_cons (pe_lst (pa_cons pe_int (pa_cons pe_int (pa_cons pe_int pa_nil)))) pa_nil))))) (pe_call (ok_l_take (K := K) T) (hr.mono (by decide)) (by rfl) T.g_l_take T.F_l_take.kp T.b_l_take .nil pass0 (pa_cons (pv 1) (pa_cons pe_int pa_nil))) (fun _ _ => rfl)))
    (pss_cons (ps_setLc (i := 3) (own := [("_law_k", 11)]) rfl sc_law.nd rfl rfl (sw_true rfl rfl rfl (by decide +kernel)) (pi_range1 (by rfl) T.m_range (pa_cons pe_int pa_nil)) (blkOk_by (own := [("_law_k", 11)]) (N := ["_law_script", "_law_deck_here", "_law_kinds", "_law_ways", "_law_line_here", "_law_on_here", "_law_spots", "_law_beside", "_law_rows", "_law_bodies", "_law_turn", "_law_k", "_law_spot_here", "_law_way_here", "_law_one", "_law_kind", "_law_row_here"]) (sc := defScope s_law) (by decide +kernel)) (fun _ _ _ _ _ => (pg_name (i := 11) sc_law.nd rfl (Or.inl rfl))) (fun _ _ _ _ _ => pts_nil) (fun _ _ _ _ _ => (pe_call (ok_l_take (K := K) T) (hr.mono (by decide)) (by rfl) T.g_l_take T.F_l_take.kp T.b_l_take .nil pass0 (pa_cons (pv 1) (pa_cons pe_int pa_nil)))))
    (pss_cons (ps_set (i := 4) sc_law.nd rfl (.inr rfl) (pe_call (ok_l_way (K := K) T) (hr.mono (by decide)) (by rfl) T.g_l_way T.F_l_way.kp T.b_l_way .nil pass0 (pa_cons (pe_call (ok_l_line (K := K) T) (hr.mono (by decide)) (by rfl) T.g_l_line T.F_l_line.kp T.b_l_line .nil pass0 (pa_cons (pv 1) pa_nil)) pa_nil)))
    (pss_cons (ps_set (i := 5) sc_law.nd rfl (.inl rfl) (pe_call (ok_l_on (K := K) T) (hr.mono (by decide)) (by rfl) T.g_l_on T.F_l_on.kp T.b_l_on .nil pass0 (pa_cons (pv 4) (pa_cons (pe_call (ok_l_drawn (K := K) T) (hr.mono (by decide)) (by rfl) T.g_l_drawn T.F_l_drawn.kp T.b_l_drawn .nil pass0 (pa_cons (pv 1) pa_nil)) pa_nil))))
    (pss_cons (ps_set (i := 6) sc_law.nd rfl (.inl rfl) (pe_lst (pa_cons (pe_call (ok_l_spot (K := K) T) (hr.mono (by decide)) (by rfl) T.g_l_spot T.F_l_spot.kp T.b_l_spot .nil pass0 (pa_cons (pv 1) pa_nil)) (pa_cons (pe_call (ok_l_spot (K := K) T) (hr.mono (by decide)) (by rfl) T.g_l_spot T.F_l_spot.kp T.b_l_spot .nil pass0 (pa_cons (pv 1) pa_nil)) (pa_cons (pv 5) (pa_cons (pe_tup (pa_cons (pe_tup (pa_cons pe_int (pa_cons pe_int pa_nil))) (pa_cons (pe_tup (pa_cons pe_int (pa_cons pe_int pa_nil))) pa_nil))) pa_nil))))))
    (pss_cons (ps_set (i := 7) sc_law.nd rfl (.inl rfl) (pe_tup (pa_cons (pe_call (ok_l_part (K := K) T) (hr.mono (by decide)) (by rfl) T.g_l_part T.F_l_part.kp T.b_l_part .nil pass0 (pa_cons (pe_op (k_add (K := K) rfl) (pe_ix (k_ix (K := K) rfl) (pe_ix (k_ix (K := K) rfl) (pv 5) pe_int (fun _ _ => rfl)) pe_int (fun _ _ => rfl)) (pe_ix (k_ix (K := K) rfl) (pe_ix (k_ix (K := K) rfl) (pv 5) pe_int (fun _ _ => rfl)) pe_int (fun _ _ => rfl))) (pa_cons (pe_ix (k_ix (K := K) rfl) (pe_ix (k_ix (K := K) rfl) (pv 5) pe_int (fun _ _ => rfl)) pe_int (fun _ _ => rfl)) pa_nil))) (pa_cons (pe_ix (k_ix (K := K) rfl) (pv 5) pe_int (fun _ _ => rfl)) pa_nil))))
    (pss_cons (ps_setLc (i := 8) (own := [("_law_kind", 15)]) rfl sc_law.nd rfl rfl (sw_true rfl rfl rfl (by decide +kernel)) (k_iter (K := K) rfl (pv 2)) (blkOk_by (own := [("_law_kind", 15)]) (N := ["_law_script", "_law_deck_here", "_law_kinds", "_law_ways", "_law_line_here", "_law_on_here", "_law_spots", "_law_beside", "_law_rows", "_law_bodies", "_law_turn", "_law_k", "_law_spot_here", "_law_way_here", "_law_one", "_law_kind", "_law_row_here"]) (sc := defScope s_law) (by decide +kernel)) (fun _ _ _ _ _ => (pg_name (i := 15) sc_law.nd rfl (Or.inl rfl))) (fun _ _ _ _ _ => pts_nil) (fun _ _ _ _ _ => (pe_call (ok_l_row (K := K) T) (hr.mono (by decide)) (by rfl) T.g_l_row T.F_l_row.kp T.b_l_row .nil pass0 (pa_cons (pv 1) (pa_cons (pv 15) (pa_cons (pv 4) pa_nil))))))
    (pss_cons (ps_setLc (i := 9) (own := [("_law_row_here", 16)]) rfl sc_law.nd rfl rfl (sw_true rfl rfl rfl (by decide +kernel)) (k_iter (K := K) rfl (pv 8)) (blkOk_by (own := [("_law_row_here", 16)]) (N := ["_law_script", "_law_deck_here", "_law_kinds", "_law_ways", "_law_line_here", "_law_on_here", "_law_spots", "_law_beside", "_law_rows", "_law_bodies", "_law_turn", "_law_k", "_law_spot_here", "_law_way_here", "_law_one", "_law_kind", "_law_row_here"]) (sc := defScope s_law) (by decide +kernel)) (fun _ _ _ _ _ => (pg_name (i := 16) sc_law.nd rfl (Or.inl rfl))) (fun _ _ _ _ _ => pts_nil) (fun _ _ _ _ _ => (pe_call (ok_p_body_of (K := K) T) (hr.mono (by decide)) (by rfl) T.g_p_body_of T.F_p_body_of.kp T.b_p_body_of .nil pass0 (pa_cons (pv 16) pa_nil))))
    (pss_cons (ps_for PassesOwn.never rfl (pi_range1 (by rfl) T.m_range (pa_cons pe_int pa_nil)) (pg_name (i := 10) sc_law.nd rfl (.inl rfl))
      (pss_one (ps_for PassesOwn.never rfl (pi_range1 (by rfl) T.m_range (pa_cons pe_int pa_nil)) (pg_name (i := 11) sc_law.nd rfl (.inl rfl))
      (pss_cons (ps_set (i := 12) sc_law.nd rfl (.inl rfl) (pe_ix (k_ixS (K := K) rfl) (pe_lst (pa_cons (pv 7) (pa_cons (pe_ix (k_ixS (K := K) rfl) (pv 6) (pv 11) (fun _ _ => rfl)) pa_nil))) (pv 10) (fun _ _ => rfl)))
    (pss_cons (ps_set (i := 13) sc_law.nd rfl (.inl rfl) (pe_ix (k_ixS (K := K) rfl) (pv 3) (pe_op (k_add (K := K) rfl) (pe_op k_mul pe_int (pv 10)) (pv 11)) (fun _ _ => rfl)))
    (pss_one (ps_for PassesOwn.never rfl (k_iter (K := K) rfl (pe_op (k_add (K := K) rfl) (pv 6) (pe_lst (pa_cons (pv 12) (pa_cons (pe_ix (k_ix (K := K) rfl) (pe_ix (k_ixS (K := K) rfl) (pv 8) (pv 11) (fun _ _ => rfl)) pe_int (fun _ _ => rfl)) pa_nil))))) (pg_name (i := 14) sc_law.nd rfl (.inl rfl))
      (pss_one (ps_if (pt_not (pt_val (pe_call (ok_l_asked (K := K) T) (hr.mono (by decide)) (by rfl) T.g_l_asked T.F_l_asked.kp T.b_l_asked .nil pass0 (pa_cons (pe_ix (k_ixS (K := K) rfl) (pv 9) (pv 11) (fun _ _ => rfl)) (pa_cons (pe_ix (k_ixS (K := K) rfl) (pv 2) (pv 11) (fun _ _ => rfl)) (pa_cons (pv 4) (pa_cons (pe_ix (k_ixS (K := K) rfl) (pv 8) (pv 11) (fun _ _ => rfl)) (pa_cons (pv 14) (pa_cons (pv 13) pa_nil)))))))))
      (pss_one (ps_ret pe_bl))
      pss_nil)))))))))
    (pss_cons (ps_for PassesOwn.never rfl (pi_range1 (by rfl) T.m_range (pa_cons pe_int pa_nil)) (pg_name (i := 11) sc_law.nd rfl (.inl rfl))
      (pss_one (ps_if (PW.pt (pw_or (pt_not (pt_val (pe_call (ok_l_classes (K := K) T) (hr.mono (by decide)) (by rfl) T.g_l_classes T.F_l_classes.kp T.b_l_classes .nil pass0 (pa_cons (pe_ix (k_ixS (K := K) rfl) (pv 9) (pv 11) (fun _ _ => rfl)) (pa_cons (pe_ix (k_ixS (K := K) rfl) (pv 2) (pv 11) (fun _ _ => rfl)) pa_nil))))) (pw_or1 (pt_not (pt_val (pe_call (ok_l_kept (K := K) T) (hr.mono (by decide)) (by rfl) T.g_l_kept T.F_l_kept.kp T.b_l_kept .nil pass0 (pa_cons (pe_ix (k_ixS (K := K) rfl) (pv 9) (pv 11) (fun _ _ => rfl)) (pa_cons (pe_ix (k_ixS (K := K) rfl) (pv 8) (pv 11) (fun _ _ => rfl)) pa_nil))))))))
      (pss_one (ps_ret pe_bl))
      pss_nil)))
    (pss_one (ps_ret pe_bl))))))))))))), by infer_instance, ?_⟩
  refine ⟨4, rfl, by decide, by decide, by decide, fun r0 l0 u0 => ?_⟩
  obtain ⟨k0, k1, k2, hat, hk0, hk1, hk2⟩ : ∃ k0 k1 k2 : Int, atI [D.lst [.int 0, .int 1, .int 2], D.lst [.int 2, .int 0, .int 1], D.lst [.int 1, .int 2, .int 0], D.lst [.int 2, .int 1, .int 0]] r0 = some (D.lst [.int k0, .int k1, .int k2]) ∧ (0 ≤ k0 ∧ k0 < 3) ∧ (0 ≤ k1 ∧ k1 < 3) ∧ (0 ≤ k2 ∧ k2 < 3) := by
    obtain rfl | rfl | rfl | rfl : r0 = 0 ∨ r0 = 1 ∨ r0 = 2 ∨ r0 = 3 := by omega
    · exact ⟨0, 1, 2, rfl, by decide, by decide, by decide⟩
    · exact ⟨2, 0, 1, rfl, by decide, by decide, by decide⟩
    · exact ⟨1, 2, 0, rfl, by decide, by decide, by decide⟩
    · exact ⟨2, 1, 0, rfl, by decide, by decide, by decide⟩
  refine aIx_lst hat ?_
  refine ⟨⟨by decide, by decide⟩, by decide, ?_⟩
  refine aLc_ind (fun acc ds m => ∃ ws : List Int, acc = ws.map D.int ∧ ws.length + ds.length = 6 ∧ 899000 ≤ m + ws.length) ?_ ?_ ⟨[], rfl, rfl, by decide⟩
  · rintro acc d r m ⟨ws, rfl, hl, hm⟩ ih
    rw [List.length_cons] at hl
    exact aT ⟨2, rfl, by decide, by decide, by omega, fun x lx ux => ih _ _ ⟨ws ++ [x], by rw [List.map_append]; rfl, by rw [List.length_append]; simp; omega, by rw [List.length_append]; simp; omega⟩⟩
  rintro acc m ⟨ws, rfl, hl, hm⟩
  have hl6 : ws.length = 6 := by simpa using hl
  refine ⟨rfl, by omega, fun p' q' n1 bp' bq' h0' h1 => ⟨p', q', rfl, bp', bq', h0', fun p q bp bq h0 => ?_⟩⟩
  refine ⟨rfl, by omega, fun z0 n2 bz h2 => ⟨p, q, z0, 201, rfl, bp, bq, bz, by decide, ?_⟩⟩
  have bo1 : BdQ 222 ((p : Rat) * z0) := (bdq_int bp (by decide)).mul bz
  have bo2 : BdQ 222 ((q : Rat) * z0) := (bdq_int bq (by decide)).mul bz
  refine ⟨rfl, by omega, fun x1 y1 n3 bx1 bY1 h3 => ⟨rfl, by omega, fun x2 y2 n4 bx2 bY2 h4 => ?_⟩⟩
  have dz := den_pos ((p : Rat) * z0)
  refine part_ok dz bo1.2 (by decide) ?_
  have bb : BdQ 223 (Rat.divInt (((p : Rat) * z0).num + (((p : Rat) * z0).den : Int)) (((p : Rat) * z0).den : Int)) := divInt_bd dz (bo1.1.add bo1.2) (bo1.2.le (by decide))
  obtain ⟨be, hbe⟩ : ∃ be, Rat.divInt (((p : Rat) * z0).num + (((p : Rat) * z0).den : Int)) (((p : Rat) * z0).den : Int) = be := ⟨_, rfl⟩
  rw [hbe] at bb ⊢
  -- the rows
  refine ⟨(show 3 ≤ 1000000 by decide), aT ⟨k0, p, q, rfl, by omega, hk0.1, hk0.2, bp, bq, h0, fun kn0 w0 ps0 px0 py0 sx0 sy0 n5 hw0 bs0 bt0 ok0 kk0 h5 => aT ⟨k1, p, q, rfl, by omega, hk1.1, hk1.2, bp, bq, h0, fun kn1 w1 ps1 px1 py1 sx1 sy1 n6 hw1 bs1 bt1 ok1 kk1 h6 => aT ⟨k2, p, q, rfl, by omega, hk2.1, hk2.2, bp, bq, h0, fun kn2 w2 ps2 px2 py2 sx2 sy2 n7 hw2 bs2 bt2 ok2 kk2 h7 => ?_⟩⟩⟩⟩
  refine ⟨(show 3 ≤ 1000000 by decide), aT ⟨kn0, _, _, _, _, rfl, ok0, aT ⟨kn1, _, _, _, _, rfl, ok1, aT ⟨kn2, _, _, _, _, rfl, ok2, ?_⟩⟩⟩⟩
  have rok : ∀ k : Int, 0 ≤ k → k < 3 → ∃ kd kn z ps px py sx sy, RowOk A p q [.int k0, .int k1, .int k2] [rowD kn0 (.str w0) (.tup (ps0.map pt)) (spt px0 py0) (spt sx0 sy0), rowD kn1 (.str w1) (.tup (ps1.map pt)) (spt px1 py1) (spt sx1 sy1), rowD kn2 (.str w2) (.tup (ps2.map pt)) (spt px2 py2) (spt sx2 sy2)] [bodyD A kn0 (.str w0) (.tup (ps0.map pt)) (spt px0 py0) (spt sx0 sy0), bodyD A kn1 (.str w1) (.tup (ps1.map pt)) (spt px1 py1) (spt sx1 sy1), bodyD A kn2 (.str w2) (.tup (ps2.map pt)) (spt px2 py2) (spt sx2 sy2)] k kd kn z ps px py sx sy := fun k h0 h1 => by
    rcases cases3 h0 h1 with rfl | rfl | rfl
    · exact ⟨k0, kn0, w0, ps0, px0, py0, sx0, sy0, rfl, rfl, rfl, hw0, ok0, kk0, bs0, bt0⟩
    · exact ⟨k1, kn1, w1, ps1, px1, py1, sx1, sy1, rfl, rfl, rfl, hw1, ok1, kk1, bs1, bt1⟩
    · exact ⟨k2, kn2, w2, ps2, px2, py2, sx2, sy2, rfl, rfl, rfl, hw2, ok2, kk2, bs2, bt2⟩
  have s1 : IsSp (spt x1 y1) := ⟨_, _, rfl, bx1.le (by decide), bY1.le (by decide)⟩
  have s2 : IsSp (spt x2 y2) := ⟨_, _, rfl, bx2.le (by decide), bY2.le (by decide)⟩
  have s3 : IsSp (spt ((p : Rat) * z0) ((q : Rat) * z0)) := ⟨_, _, rfl, bo1.le (by decide), bo2.le (by decide)⟩
  have s4 : IsSp (spt 0 0) := ⟨_, _, rfl, ⟨by unfold Bd; decide, by unfold Bd; decide⟩, ⟨by unfold Bd; decide, by unfold Bd; decide⟩⟩
  have s5 : IsSp (spt be ((q : Rat) * z0)) := ⟨_, _, rfl, bb.le (by decide), bo2.le (by decide)⟩
  have spk : ∀ k : Int, 0 ≤ k → k < 3 → ∃ d, atI [spt x1 y1, spt x2 y2, spt ((p : Rat) * z0) ((q : Rat) * z0), spt 0 0] k = some d ∧ IsSp d := fun k h0 h1 => by
    rcases cases3 h0 h1 with rfl | rfl | rfl
    · exact ⟨_, rfl, s1⟩
    · exact ⟨_, rfl, s2⟩
    · exact ⟨_, rfl, s3⟩
  refine ⟨⟨by decide, by decide⟩, ?_⟩
  refine aFor_ind (fun ds ρ _ => (∀ d ∈ ds, d ∈ rangeD 0 2) ∧ ∃ a b c d e, ρ = env11 (.lst [.int k0, .int k1, .int k2]) (.lst (ws.map D.int)) (.tup [.int p, .int q]) (spt ((p : Rat) * z0) ((q : Rat) * z0)) (.lst [spt x1 y1, spt x2 y2, spt ((p : Rat) * z0) ((q : Rat) * z0), spt 0 0]) (spt be ((q : Rat) * z0))
    (.lst [rowD kn0 (.str w0) (.tup (ps0.map pt)) (spt px0 py0) (spt sx0 sy0), rowD kn1 (.str w1) (.tup (ps1.map pt)) (spt px1 py1) (spt sx1 sy1), rowD kn2 (.str w2) (.tup (ps2.map pt)) (spt px2 py2) (spt sx2 sy2)]) (.lst [bodyD A kn0 (.str w0) (.tup (ps0.map pt)) (spt px0 py0) (spt sx0 sy0), bodyD A kn1 (.str w1) (.tup (ps1.map pt)) (spt px1 py1) (spt sx1 sy1), bodyD A kn2 (.str w2) (.tup (ps2.map pt)) (spt px2 py2) (spt sx2 sy2)]) a b c d e) ?_ ?_ ⟨fun d h => h, none, none, none, none, none, rfl⟩
  · rintro d r _ n' ⟨hd, a, b, c, d', e, rfl⟩ ih
    obtain ⟨t, rfl, ht0, ht1⟩ := range_mem (hd d List.mem_cons_self)
    have hr : ∀ d ∈ r, d ∈ rangeD 0 2 := fun d h => hd d (List.mem_cons_of_mem _ h)
    refine ⟨⟨by decide, by decide⟩, ?_⟩
    refine aFor_ind (fun ds ρ _ => (∀ d ∈ ds, d ∈ rangeD 0 3) ∧ ∃ b c d e, ρ = env11 (.lst [.int k0, .int k1, .int k2]) (.lst (ws.map D.int)) (.tup [.int p, .int q]) (spt ((p : Rat) * z0) ((q : Rat) * z0)) (.lst [spt x1 y1, spt x2 y2, spt ((p : Rat) * z0) ((q : Rat) * z0), spt 0 0]) (spt be ((q : Rat) * z0))
      (.lst [rowD kn0 (.str w0) (.tup (ps0.map pt)) (spt px0 py0) (spt sx0 sy0), rowD kn1 (.str w1) (.tup (ps1.map pt)) (spt px1 py1) (spt sx1 sy1), rowD kn2 (.str w2) (.tup (ps2.map pt)) (spt px2 py2) (spt sx2 sy2)]) (.lst [bodyD A kn0 (.str w0) (.tup (ps0.map pt)) (spt px0 py0) (spt sx0 sy0), bodyD A kn1 (.str w1) (.tup (ps1.map pt)) (spt px1 py1) (spt sx1 sy1), bodyD A kn2 (.str w2) (.tup (ps2.map pt)) (spt px2 py2) (spt sx2 sy2)]) (some (.int t)) b c d e) ?_ ?_ ⟨fun d h => h, _, _, _, _, rfl⟩
    · rintro d r2 _ n2' ⟨hd2, b, c, d', e, rfl⟩ ih2
      obtain ⟨k, rfl, hk0', hk1'⟩ := range_mem (hd2 d List.mem_cons_self)
      have hr2 : ∀ d ∈ r2, d ∈ rangeD 0 3 := fun d h => hd2 d (List.mem_cons_of_mem _ h)
      obtain ⟨kd, kn, z, ps, px, py, sx, sy, ro⟩ := rok k hk0' hk1'
      obtain ⟨dk, hdk, sdk⟩ := spk k hk0' hk1'
      refine aIx_lst hdk ?_
      obtain ⟨dh, hdh, sdh⟩ : ∃ dh, atI [spt be ((q : Rat) * z0), dk] t = some dh ∧ IsSp dh := by
        obtain rfl | rfl : t = 0 ∨ t = 1 := by omega
        · exact ⟨_, rfl, s5⟩
        · exact ⟨_, rfl, sdk⟩
      refine aIx_lst hdh ?_
      obtain ⟨wd, hwm, hwat⟩ := pick_at (xs := ws.map D.int) (r := 3 * t + k) (by omega) (by rw [List.length_map]; omega)
      obtain ⟨wy, _, rfl⟩ := List.mem_map.mp hwm
      refine ⟨.inl (.inl (by decide)), aIx_lst hwat ?_⟩
      refine aIx_lst ro.a2 ?_
      refine ⟨(show 4 + 2 ≤ 1000000 by decide), ?_⟩
      have s6 : IsSp (spt sx sy) := ⟨_, _, rfl, ro.bx.le (by decide), ro.bY.le (by decide)⟩
      refine aFor_ind (fun ds ρ _ => (∀ d ∈ ds, IsSp d) ∧ ∃ e, ρ = env11 (.lst [.int k0, .int k1, .int k2]) (.lst (ws.map D.int)) (.tup [.int p, .int q]) (spt ((p : Rat) * z0) ((q : Rat) * z0)) (.lst [spt x1 y1, spt x2 y2, spt ((p : Rat) * z0) ((q : Rat) * z0), spt 0 0]) (spt be ((q : Rat) * z0))
        (.lst [rowD kn0 (.str w0) (.tup (ps0.map pt)) (spt px0 py0) (spt sx0 sy0), rowD kn1 (.str w1) (.tup (ps1.map pt)) (spt px1 py1) (spt sx1 sy1), rowD kn2 (.str w2) (.tup (ps2.map pt)) (spt px2 py2) (spt sx2 sy2)]) (.lst [bodyD A kn0 (.str w0) (.tup (ps0.map pt)) (spt px0 py0) (spt sx0 sy0), bodyD A kn1 (.str w1) (.tup (ps1.map pt)) (spt px1 py1) (spt sx1 sy1), bodyD A kn2 (.str w2) (.tup (ps2.map pt)) (spt px2 py2) (spt sx2 sy2)]) (some (.int t)) (some (.int k)) (some dh) (some (.int wy)) e) ?_ ?_ ⟨?_, _, rfl⟩
      · rintro d r3 _ n3' ⟨hd3, e, rfl⟩ ih3
        obtain ⟨x, y, rfl, bx, bY⟩ := hd3 d List.mem_cons_self
        refine aIx_lst ro.a3 ?_
        refine aIx_lst ro.a1 ?_
        refine aIx_lst ro.a2 ?_
        refine ⟨kd, p, q, wy, kn, _, _, _, _, x, y, rfl, ro.ok, ro.hk, bp, bq, h0, bx, bY, aF ?_⟩
        exact ih3 _ _ ⟨fun d h => hd3 d (List.mem_cons_of_mem _ h), _, rfl⟩
      · rintro _ n3' ⟨_, e, rfl⟩
        exact ih2 _ _ ⟨hr2, _, _, _, _, rfl⟩
      · intro d hd
        simp only [List.cons_append, List.nil_append, List.mem_cons, List.not_mem_nil, or_false] at hd
        rcases hd with rfl | rfl | rfl | rfl | rfl | rfl
        · exact s1
        · exact s2
        · exact s3
        · exact s4
        · exact sdh
        · exact s6
    · rintro _ n2' ⟨_, b, c, d', e, rfl⟩
      exact ih _ _ ⟨hr, _, _, _, _, _, rfl⟩
  · rintro _ n' ⟨_, a, b, c, d', e, rfl⟩
    refine ⟨⟨by decide, by decide⟩, ?_⟩
    refine aFor_ind (fun ds ρ _ => (∀ d ∈ ds, d ∈ rangeD 0 3) ∧ ∃ b, ρ = env11 (.lst [.int k0, .int k1, .int k2]) (.lst (ws.map D.int)) (.tup [.int p, .int q]) (spt ((p : Rat) * z0) ((q : Rat) * z0)) (.lst [spt x1 y1, spt x2 y2, spt ((p : Rat) * z0) ((q : Rat) * z0), spt 0 0]) (spt be ((q : Rat) * z0))
      (.lst [rowD kn0 (.str w0) (.tup (ps0.map pt)) (spt px0 py0) (spt sx0 sy0), rowD kn1 (.str w1) (.tup (ps1.map pt)) (spt px1 py1) (spt sx1 sy1), rowD kn2 (.str w2) (.tup (ps2.map pt)) (spt px2 py2) (spt sx2 sy2)]) (.lst [bodyD A kn0 (.str w0) (.tup (ps0.map pt)) (spt px0 py0) (spt sx0 sy0), bodyD A kn1 (.str w1) (.tup (ps1.map pt)) (spt px1 py1) (spt sx1 sy1), bodyD A kn2 (.str w2) (.tup (ps2.map pt)) (spt px2 py2) (spt sx2 sy2)]) a b c d' e) ?_ ?_ ⟨fun d h => h, _, rfl⟩
    · rintro d r2 _ n2' ⟨hd2, b, rfl⟩ ih2
      obtain ⟨k, rfl, hk0', hk1'⟩ := range_mem (hd2 d List.mem_cons_self)
      obtain ⟨kd, kn, z, ps, px, py, sx, sy, ro⟩ := rok k hk0' hk1'
      refine aIx_lst ro.a3 ?_
      refine aIx_lst ro.a1 ?_
      refine ⟨kd, p, q, kn, _, _, _, _, rfl, ro.hk, aF ?_⟩
      refine aIx_lst ro.a3 ?_
      refine aIx_lst ro.a2 ?_
      refine ⟨kn, z, ps, px, py, sx, sy, rfl, ro.hz, aF ?_⟩
      exact ih2 _ _ ⟨fun d h => hd2 d (List.mem_cons_of_mem _ h), _, rfl⟩
    · rintro _ n2' ⟨_, b, rfl⟩
      exact rfl

end
theorem all_mk {l : PySem.W.OpenLaw} {w : World} {K : PySem.W.Frag} {h : Heap} {mg : Str → Option Value} {fa : Addr} (X : K.In h) (G : h.Ns mainGlobals mg) (hfa : mg "law" = some (.ref fa))
    {od0 an0 : Option Addr} {sl0 : Array (Option Value)} {oc0 kV0 dc0 pm0 cd0 ct0 : Value} {f0 : Addr}
    {od1 an1 : Option Addr} {sl1 : Array (Option Value)} {oc1 kV1 dc1 pm1 cd1 ct1 : Value} {f1 : Addr}
    {od2 an2 : Option Addr} {sl2 : Array (Option Value)} {oc2 kV2 dc2 pm2 cd2 ct2 : Value} {f2 : Addr}
    {od3 an3 : Option Addr} {sl3 : Array (Option Value)} {oc3 kV3 dc3 pm3 cd3 ct3 : Value} {f3 : Addr}
    {od4 an4 : Option Addr} {sl4 : Array (Option Value)} {oc4 kV4 dc4 pm4 cd4 ct4 : Value} {f4 : Addr}
    {od5 an5 : Option Addr} {sl5 : Array (Option Value)} {oc5 kV5 dc5 pm5 cd5 ct5 : Value} {f5 : Addr}
    {od6 an6 : Option Addr} {sl6 : Array (Option Value)} {oc6 kV6 dc6 pm6 cd6 ct6 : Value} {f6 : Addr}
    {od7 an7 : Option Addr} {sl7 : Array (Option Value)} {oc7 kV7 dc7 pm7 cd7 ct7 : Value} {f7 : Addr}
    {od8 an8 : Option Addr} {sl8 : Array (Option Value)} {oc8 kV8 dc8 pm8 cd8 ct8 : Value} {f8 : Addr}
    {od9 an9 : Option Addr} {sl9 : Array (Option Value)} {oc9 kV9 dc9 pm9 cd9 ct9 : Value} {f9 : Addr}
    {od10 an10 : Option Addr} {sl10 : Array (Option Value)} {oc10 kV10 dc10 pm10 cd10 ct10 : Value} {f10 : Addr}
    {od11 an11 : Option Addr} {sl11 : Array (Option Value)} {oc11 kV11 dc11 pm11 cd11 ct11 : Value} {f11 : Addr}
    {od12 an12 : Option Addr} {sl12 : Array (Option Value)} {oc12 kV12 dc12 pm12 cd12 ct12 : Value} {f12 : Addr}
    {od13 an13 : Option Addr} {sl13 : Array (Option Value)} {oc13 kV13 dc13 pm13 cd13 ct13 : Value} {f13 : Addr}
    {od14 an14 : Option Addr} {sl14 : Array (Option Value)} {oc14 kV14 dc14 pm14 cd14 ct14 : Value} {f14 : Addr}
    {od15 an15 : Option Addr} {sl15 : Array (Option Value)} {oc15 kV15 dc15 pm15 cd15 ct15 : Value} {f15 : Addr}
    {od16 an16 : Option Addr} {sl16 : Array (Option Value)} {oc16 kV16 dc16 pm16 cd16 ct16 : Value} {f16 : Addr}
    {od17 an17 : Option Addr} {sl17 : Array (Option Value)} {oc17 kV17 dc17 pm17 cd17 ct17 : Value} {f17 : Addr}
    {od18 an18 : Option Addr} {sl18 : Array (Option Value)} {oc18 kV18 dc18 pm18 cd18 ct18 : Value} {f18 : Addr}
    {od19 an19 : Option Addr} {sl19 : Array (Option Value)} {oc19 kV19 dc19 pm19 cd19 ct19 : Value} {f19 : Addr}
    {od20 an20 : Option Addr} {sl20 : Array (Option Value)} {oc20 kV20 dc20 pm20 cd20 ct20 : Value} {f20 : Addr}
    {od21 an21 : Option Addr} {sl21 : Array (Option Value)} {oc21 kV21 dc21 pm21 cd21 ct21 : Value} {f21 : Addr}
    {od22 an22 : Option Addr} {sl22 : Array (Option Value)} {oc22 kV22 dc22 pm22 cd22 ct22 : Value} {f22 : Addr}
    {od23 an23 : Option Addr} {sl23 : Array (Option Value)} {oc23 kV23 dc23 pm23 cd23 ct23 : Value} {f23 : Addr}
    {od24 an24 : Option Addr} {sl24 : Array (Option Value)} {oc24 kV24 dc24 pm24 cd24 ct24 : Value} {f24 : Addr}
    {od25 an25 : Option Addr} {sl25 : Array (Option Value)} {oc25 kV25 dc25 pm25 cd25 ct25 : Value} {f25 : Addr}
    {od26 an26 : Option Addr} {sl26 : Array (Option Value)} {oc26 kV26 dc26 pm26 cd26 ct26 : Value} {f26 : Addr}
    {od27 an27 : Option Addr} {sl27 : Array (Option Value)} {oc27 kV27 dc27 pm27 cd27 ct27 : Value} {f27 : Addr}
    {od28 an28 : Option Addr} {sl28 : Array (Option Value)} {oc28 kV28 dc28 pm28 cd28 ct28 : Value} {f28 : Addr}
    {od29 an29 : Option Addr} {sl29 : Array (Option Value)} {oc29 kV29 dc29 pm29 cd29 ct29 : Value} {f29 : Addr}
    {od30 an30 : Option Addr} {sl30 : Array (Option Value)} {oc30 kV30 dc30 pm30 cd30 ct30 : Value} {f30 : Addr}
    {od31 an31 : Option Addr} {sl31 : Array (Option Value)} {oc31 kV31 dc31 pm31 cd31 ct31 : Value} {f31 : Addr}
    {od32 an32 : Option Addr} {sl32 : Array (Option Value)} {oc32 kV32 dc32 pm32 cd32 ct32 : Value} {f32 : Addr}
    {od33 an33 : Option Addr} {sl33 : Array (Option Value)} {oc33 kV33 dc33 pm33 cd33 ct33 : Value} {f33 : Addr}
    {od34 an34 : Option Addr} {sl34 : Array (Option Value)} {oc34 kV34 dc34 pm34 cd34 ct34 : Value} {f34 : Addr}
    {od35 an35 : Option Addr} {sl35 : Array (Option Value)} {oc35 kV35 dc35 pm35 cd35 ct35 : Value} {f35 : Addr}
    {od36 an36 : Option Addr} {sl36 : Array (Option Value)} {oc36 kV36 dc36 pm36 cd36 ct36 : Value} {f36 : Addr}
    {od37 an37 : Option Addr} {sl37 : Array (Option Value)} {oc37 kV37 dc37 pm37 cd37 ct37 : Value} {f37 : Addr}
    {od38 an38 : Option Addr} {sl38 : Array (Option Value)} {oc38 kV38 dc38 pm38 cd38 ct38 : Value} {f38 : Addr}
    {od39 an39 : Option Addr} {sl39 : Array (Option Value)} {oc39 kV39 dc39 pm39 cd39 ct39 : Value} {f39 : Addr}
    {od40 an40 : Option Addr} {sl40 : Array (Option Value)} {oc40 kV40 dc40 pm40 cd40 ct40 : Value} {f40 : Addr}
    {od41 an41 : Option Addr} {sl41 : Array (Option Value)} {oc41 kV41 dc41 pm41 cd41 ct41 : Value} {f41 : Addr}
    {od42 an42 : Option Addr} {sl42 : Array (Option Value)} {oc42 kV42 dc42 pm42 cd42 ct42 : Value} {f42 : Addr}
    {od43 an43 : Option Addr} {sl43 : Array (Option Value)} {oc43 kV43 dc43 pm43 cd43 ct43 : Value} {f43 : Addr}
    {c_BodyError : Addr}
    {c_NoShare : Addr}
    {c_Body : Addr}
    {c_Wall : Addr}
    {c_Free : Addr}
    {c_Railed : Addr}
    {odm0 anm0 : Option Addr} {slm0 : Array (Option Value)} {ocm0 kVm0 dcm0 pmm0 cdm0 ctm0 : Value} {fm0 : Addr}
    {odm1 anm1 : Option Addr} {slm1 : Array (Option Value)} {ocm1 kVm1 dcm1 pmm1 cdm1 ctm1 : Value} {fm1 : Addr}
    {odm2 anm2 : Option Addr} {slm2 : Array (Option Value)} {ocm2 kVm2 dcm2 pmm2 cdm2 ctm2 : Value} {fm2 : Addr}
    {odm3 anm3 : Option Addr} {slm3 : Array (Option Value)} {ocm3 kVm3 dcm3 pmm3 cdm3 ctm3 : Value} {fm3 : Addr}
    {odm4 anm4 : Option Addr} {slm4 : Array (Option Value)} {ocm4 kVm4 dcm4 pmm4 cdm4 ctm4 : Value} {fm4 : Addr}
    {odm5 anm5 : Option Addr} {slm5 : Array (Option Value)} {ocm5 kVm5 dcm5 pmm5 cdm5 ctm5 : Value} {fm5 : Addr}
    {odm6 anm6 : Option Addr} {slm6 : Array (Option Value)} {ocm6 kVm6 dcm6 pmm6 cdm6 ctm6 : Value} {fm6 : Addr}
    {odm7 anm7 : Option Addr} {slm7 : Array (Option Value)} {ocm7 kVm7 dcm7 pmm7 cdm7 ctm7 : Value} {fm7 : Addr}
    {odm8 anm8 : Option Addr} {slm8 : Array (Option Value)} {ocm8 kVm8 dcm8 pmm8 cdm8 ctm8 : Value} {fm8 : Addr}
    {odm9 anm9 : Option Addr} {slm9 : Array (Option Value)} {ocm9 kVm9 dcm9 pmm9 cdm9 ctm9 : Value} {fm9 : Addr}
    {k_LENGTHY : Tok}
    {n_NOUGHT : Addr} {on_NOUGHT : Option Addr} {nn_NOUGHT : Nat} {sn_NOUGHT : Array (Option Value)} {tn0_NOUGHT tn1_NOUGHT : Tok}
    {oS o1 o2 : Option Addr} {sS s1 s2 : Array (Option Value)} {nS n1 n2 : Nat} {aS a1S a2S : Addr} {t1 t2 t3 t4 : Tok}
    (a0 : PySem.W.nsIn K mainGlobals "common_divisor" = some (some (.ref f0))) (l0 : K.lookup f0 = some ⟨oc0, od0, .func (PySem.W.fnOf "common_divisor" "common_divisor" (defArgs s_p_common_divisor) (defBody s_p_common_divisor) (defScope s_p_common_divisor) .none kV0 dc0 pm0 an0 cd0 ct0), sl0⟩) (c0 : PySem.W.codeIn K cd0 "common_divisor" = true) (k0 : PySem.W.keepIn K (.ref f0) = true)
    (a1 : PySem.W.nsIn K mainGlobals "plus" = some (some (.ref f1))) (l1 : K.lookup f1 = some ⟨oc1, od1, .func (PySem.W.fnOf "plus" "plus" (defArgs s_p_plus) (defBody s_p_plus) (defScope s_p_plus) .none kV1 dc1 pm1 an1 cd1 ct1), sl1⟩) (c1 : PySem.W.codeIn K cd1 "plus" = true) (k1 : PySem.W.keepIn K (.ref f1) = true)
    (a2 : PySem.W.nsIn K mainGlobals "minus" = some (some (.ref f2))) (l2 : K.lookup f2 = some ⟨oc2, od2, .func (PySem.W.fnOf "minus" "minus" (defArgs s_p_minus) (defBody s_p_minus) (defScope s_p_minus) .none kV2 dc2 pm2 an2 cd2 ct2), sl2⟩) (c2 : PySem.W.codeIn K cd2 "minus" = true) (k2 : PySem.W.keepIn K (.ref f2) = true)
    (a3 : PySem.W.nsIn K mainGlobals "times" = some (some (.ref f3))) (l3 : K.lookup f3 = some ⟨oc3, od3, .func (PySem.W.fnOf "times" "times" (defArgs s_p_times) (defBody s_p_times) (defScope s_p_times) .none kV3 dc3 pm3 an3 cd3 ct3), sl3⟩) (c3 : PySem.W.codeIn K cd3 "times" = true) (k3 : PySem.W.keepIn K (.ref f3) = true)
    (a4 : PySem.W.nsIn K mainGlobals "over" = some (some (.ref f4))) (l4 : K.lookup f4 = some ⟨oc4, od4, .func (PySem.W.fnOf "over" "over" (defArgs s_p_over) (defBody s_p_over) (defScope s_p_over) .none kV4 dc4 pm4 an4 cd4 ct4), sl4⟩) (c4 : PySem.W.codeIn K cd4 "over" = true) (k4 : PySem.W.keepIn K (.ref f4) = true)
    (a5 : PySem.W.nsIn K mainGlobals "share_text" = some (some (.ref f5))) (l5 : K.lookup f5 = some ⟨oc5, od5, .func (PySem.W.fnOf "share_text" "share_text" (defArgs s_p_share_text) (defBody s_p_share_text) (defScope s_p_share_text) .none kV5 dc5 pm5 an5 cd5 ct5), sl5⟩) (c5 : PySem.W.codeIn K cd5 "share_text" = true) (k5 : PySem.W.keepIn K (.ref f5) = true)
    (a6 : PySem.W.nsIn K mainGlobals "along" = some (some (.ref f6))) (l6 : K.lookup f6 = some ⟨oc6, od6, .func (PySem.W.fnOf "along" "along" (defArgs s_p_along) (defBody s_p_along) (defScope s_p_along) .none kV6 dc6 pm6 an6 cd6 ct6), sl6⟩) (c6 : PySem.W.codeIn K cd6 "along" = true) (k6 : PySem.W.keepIn K (.ref f6) = true)
    (a7 : PySem.W.nsIn K mainGlobals "across" = some (some (.ref f7))) (l7 : K.lookup f7 = some ⟨oc7, od7, .func (PySem.W.fnOf "across" "across" (defArgs s_p_across) (defBody s_p_across) (defScope s_p_across) .none kV7 dc7 pm7 an7 cd7 ct7), sl7⟩) (c7 : PySem.W.codeIn K cd7 "across" = true) (k7 : PySem.W.keepIn K (.ref f7) = true)
    (a8 : PySem.W.nsIn K mainGlobals "spot_times" = some (some (.ref f8))) (l8 : K.lookup f8 = some ⟨oc8, od8, .func (PySem.W.fnOf "spot_times" "spot_times" (defArgs s_p_spot_times) (defBody s_p_spot_times) (defScope s_p_spot_times) .none kV8 dc8 pm8 an8 cd8 ct8), sl8⟩) (c8 : PySem.W.codeIn K cd8 "spot_times" = true) (k8 : PySem.W.keepIn K (.ref f8) = true)
    (a9 : PySem.W.nsIn K mainGlobals "onto_rail" = some (some (.ref f9))) (l9 : K.lookup f9 = some ⟨oc9, od9, .func (PySem.W.fnOf "onto_rail" "onto_rail" (defArgs s_p_onto_rail) (defBody s_p_onto_rail) (defScope s_p_onto_rail) .none kV9 dc9 pm9 an9 cd9 ct9), sl9⟩) (c9 : PySem.W.codeIn K cd9 "onto_rail" = true) (k9 : PySem.W.keepIn K (.ref f9) = true)
    (a10 : PySem.W.nsIn K mainGlobals "spot_words" = some (some (.ref f10))) (l10 : K.lookup f10 = some ⟨oc10, od10, .func (PySem.W.fnOf "spot_words" "spot_words" (defArgs s_p_spot_words) (defBody s_p_spot_words) (defScope s_p_spot_words) .none kV10 dc10 pm10 an10 cd10 ct10), sl10⟩) (c10 : PySem.W.codeIn K cd10 "spot_words" = true) (k10 : PySem.W.keepIn K (.ref f10) = true)
    (a11 : PySem.W.nsIn K mainGlobals "corner_words" = some (some (.ref f11))) (l11 : K.lookup f11 = some ⟨oc11, od11, .func (PySem.W.fnOf "corner_words" "corner_words" (defArgs s_p_corner_words) (defBody s_p_corner_words) (defScope s_p_corner_words) .none kV11 dc11 pm11 an11 cd11 ct11), sl11⟩) (c11 : PySem.W.codeIn K cd11 "corner_words" = true) (k11 : PySem.W.keepIn K (.ref f11) = true)
    (a12 : PySem.W.nsIn K mainGlobals "wall_words" = some (some (.ref f12))) (l12 : K.lookup f12 = some ⟨oc12, od12, .func (PySem.W.fnOf "wall_words" "wall_words" (defArgs s_p_wall_words) (defBody s_p_wall_words) (defScope s_p_wall_words) .none kV12 dc12 pm12 an12 cd12 ct12), sl12⟩) (c12 : PySem.W.codeIn K cd12 "wall_words" = true) (k12 : PySem.W.keepIn K (.ref f12) = true)
    (a13 : PySem.W.nsIn K mainGlobals "free_words" = some (some (.ref f13))) (l13 : K.lookup f13 = some ⟨oc13, od13, .func (PySem.W.fnOf "free_words" "free_words" (defArgs s_p_free_words) (defBody s_p_free_words) (defScope s_p_free_words) .none kV13 dc13 pm13 an13 cd13 ct13), sl13⟩) (c13 : PySem.W.codeIn K cd13 "free_words" = true) (k13 : PySem.W.keepIn K (.ref f13) = true)
    (a14 : PySem.W.nsIn K mainGlobals "rail_words" = some (some (.ref f14))) (l14 : K.lookup f14 = some ⟨oc14, od14, .func (PySem.W.fnOf "rail_words" "rail_words" (defArgs s_p_rail_words) (defBody s_p_rail_words) (defScope s_p_rail_words) .none kV14 dc14 pm14 an14 cd14 ct14), sl14⟩) (c14 : PySem.W.codeIn K cd14 "rail_words" = true) (k14 : PySem.W.keepIn K (.ref f14) = true)
    (a15 : PySem.W.nsIn K mainGlobals "body_of" = some (some (.ref f15))) (l15 : K.lookup f15 = some ⟨oc15, od15, .func (PySem.W.fnOf "body_of" "body_of" (defArgs s_p_body_of) (defBody s_p_body_of) (defScope s_p_body_of) .none kV15 dc15 pm15 an15 cd15 ct15), sl15⟩) (c15 : PySem.W.codeIn K cd15 "body_of" = true) (k15 : PySem.W.keepIn K (.ref f15) = true)
    (a16 : PySem.W.nsIn K mainGlobals "_law_cell" = some (some (.ref f16))) (l16 : K.lookup f16 = some ⟨oc16, od16, .func (PySem.W.fnOf "_law_cell" "_law_cell" (defArgs s_l_cell) (defBody s_l_cell) (defScope s_l_cell) .none kV16 dc16 pm16 an16 cd16 ct16), sl16⟩) (c16 : PySem.W.codeIn K cd16 "_law_cell" = true) (k16 : PySem.W.keepIn K (.ref f16) = true)
    (a17 : PySem.W.nsIn K mainGlobals "_law_mixed" = some (some (.ref f17))) (l17 : K.lookup f17 = some ⟨oc17, od17, .func (PySem.W.fnOf "_law_mixed" "_law_mixed" (defArgs s_l_mixed) (defBody s_l_mixed) (defScope s_l_mixed) .none kV17 dc17 pm17 an17 cd17 ct17), sl17⟩) (c17 : PySem.W.codeIn K cd17 "_law_mixed" = true) (k17 : PySem.W.keepIn K (.ref f17) = true)
    (a18 : PySem.W.nsIn K mainGlobals "_law_deck" = some (some (.ref f18))) (l18 : K.lookup f18 = some ⟨oc18, od18, .func (PySem.W.fnOf "_law_deck" "_law_deck" (defArgs s_l_deck) (defBody s_l_deck) (defScope s_l_deck) .none kV18 dc18 pm18 an18 cd18 ct18), sl18⟩) (c18 : PySem.W.codeIn K cd18 "_law_deck" = true) (k18 : PySem.W.keepIn K (.ref f18) = true)
    (a19 : PySem.W.nsIn K mainGlobals "_law_take" = some (some (.ref f19))) (l19 : K.lookup f19 = some ⟨oc19, od19, .func (PySem.W.fnOf "_law_take" "_law_take" (defArgs s_l_take) (defBody s_l_take) (defScope s_l_take) .none kV19 dc19 pm19 an19 cd19 ct19), sl19⟩) (c19 : PySem.W.codeIn K cd19 "_law_take" = true) (k19 : PySem.W.keepIn K (.ref f19) = true)
    (a20 : PySem.W.nsIn K mainGlobals "_law_gcd" = some (some (.ref f20))) (l20 : K.lookup f20 = some ⟨oc20, od20, .func (PySem.W.fnOf "_law_gcd" "_law_gcd" (defArgs s_l_gcd) (defBody s_l_gcd) (defScope s_l_gcd) .none kV20 dc20 pm20 an20 cd20 ct20), sl20⟩) (c20 : PySem.W.codeIn K cd20 "_law_gcd" = true) (k20 : PySem.W.keepIn K (.ref f20) = true)
    (a21 : PySem.W.nsIn K mainGlobals "_law_left" = some (some (.ref f21))) (l21 : K.lookup f21 = some ⟨oc21, od21, .func (PySem.W.fnOf "_law_left" "_law_left" (defArgs s_l_left) (defBody s_l_left) (defScope s_l_left) .none kV21 dc21 pm21 an21 cd21 ct21), sl21⟩) (c21 : PySem.W.codeIn K cd21 "_law_left" = true) (k21 : PySem.W.keepIn K (.ref f21) = true)
    (a22 : PySem.W.nsIn K mainGlobals "_law_half" = some (some (.ref f22))) (l22 : K.lookup f22 = some ⟨oc22, od22, .func (PySem.W.fnOf "_law_half" "_law_half" (defArgs s_l_half) (defBody s_l_half) (defScope s_l_half) .none kV22 dc22 pm22 an22 cd22 ct22), sl22⟩) (c22 : PySem.W.codeIn K cd22 "_law_half" = true) (k22 : PySem.W.keepIn K (.ref f22) = true)
    (a23 : PySem.W.nsIn K mainGlobals "_law_hull" = some (some (.ref f23))) (l23 : K.lookup f23 = some ⟨oc23, od23, .func (PySem.W.fnOf "_law_hull" "_law_hull" (defArgs s_l_hull) (defBody s_l_hull) (defScope s_l_hull) .none kV23 dc23 pm23 an23 cd23 ct23), sl23⟩) (c23 : PySem.W.codeIn K cd23 "_law_hull" = true) (k23 : PySem.W.keepIn K (.ref f23) = true)
    (a24 : PySem.W.nsIn K mainGlobals "_law_number" = some (some (.ref f24))) (l24 : K.lookup f24 = some ⟨oc24, od24, .func (PySem.W.fnOf "_law_number" "_law_number" (defArgs s_l_number) (defBody s_l_number) (defScope s_l_number) .none kV24 dc24 pm24 an24 cd24 ct24), sl24⟩) (c24 : PySem.W.codeIn K cd24 "_law_number" = true) (k24 : PySem.W.keepIn K (.ref f24) = true)
    (a25 : PySem.W.nsIn K mainGlobals "_law_whole" = some (some (.ref f25))) (l25 : K.lookup f25 = some ⟨oc25, od25, .func (PySem.W.fnOf "_law_whole" "_law_whole" (defArgs s_l_whole) (defBody s_l_whole) (defScope s_l_whole) .none kV25 dc25 pm25 an25 cd25 ct25), sl25⟩) (c25 : PySem.W.codeIn K cd25 "_law_whole" = true) (k25 : PySem.W.keepIn K (.ref f25) = true)
    (a26 : PySem.W.nsIn K mainGlobals "_law_part" = some (some (.ref f26))) (l26 : K.lookup f26 = some ⟨oc26, od26, .func (PySem.W.fnOf "_law_part" "_law_part" (defArgs s_l_part) (defBody s_l_part) (defScope s_l_part) .none kV26 dc26 pm26 an26 cd26 ct26), sl26⟩) (c26 : PySem.W.codeIn K cd26 "_law_part" = true) (k26 : PySem.W.keepIn K (.ref f26) = true)
    (a27 : PySem.W.nsIn K mainGlobals "_law_name" = some (some (.ref f27))) (l27 : K.lookup f27 = some ⟨oc27, od27, .func (PySem.W.fnOf "_law_name" "_law_name" (defArgs s_l_name) (defBody s_l_name) (defScope s_l_name) .none kV27 dc27 pm27 an27 cd27 ct27), sl27⟩) (c27 : PySem.W.codeIn K cd27 "_law_name" = true) (k27 : PySem.W.keepIn K (.ref f27) = true)
    (a28 : PySem.W.nsIn K mainGlobals "_law_shape" = some (some (.ref f28))) (l28 : K.lookup f28 = some ⟨oc28, od28, .func (PySem.W.fnOf "_law_shape" "_law_shape" (defArgs s_l_shape) (defBody s_l_shape) (defScope s_l_shape) .none kV28 dc28 pm28 an28 cd28 ct28), sl28⟩) (c28 : PySem.W.codeIn K cd28 "_law_shape" = true) (k28 : PySem.W.keepIn K (.ref f28) = true)
    (a29 : PySem.W.nsIn K mainGlobals "_law_drawn" = some (some (.ref f29))) (l29 : K.lookup f29 = some ⟨oc29, od29, .func (PySem.W.fnOf "_law_drawn" "_law_drawn" (defArgs s_l_drawn) (defBody s_l_drawn) (defScope s_l_drawn) .none kV29 dc29 pm29 an29 cd29 ct29), sl29⟩) (c29 : PySem.W.codeIn K cd29 "_law_drawn" = true) (k29 : PySem.W.keepIn K (.ref f29) = true)
    (a30 : PySem.W.nsIn K mainGlobals "_law_spot" = some (some (.ref f30))) (l30 : K.lookup f30 = some ⟨oc30, od30, .func (PySem.W.fnOf "_law_spot" "_law_spot" (defArgs s_l_spot) (defBody s_l_spot) (defScope s_l_spot) .none kV30 dc30 pm30 an30 cd30 ct30), sl30⟩) (c30 : PySem.W.codeIn K cd30 "_law_spot" = true) (k30 : PySem.W.keepIn K (.ref f30) = true)
    (a31 : PySem.W.nsIn K mainGlobals "_law_line" = some (some (.ref f31))) (l31 : K.lookup f31 = some ⟨oc31, od31, .func (PySem.W.fnOf "_law_line" "_law_line" (defArgs s_l_line) (defBody s_l_line) (defScope s_l_line) .none kV31 dc31 pm31 an31 cd31 ct31), sl31⟩) (c31 : PySem.W.codeIn K cd31 "_law_line" = true) (k31 : PySem.W.keepIn K (.ref f31) = true)
    (a32 : PySem.W.nsIn K mainGlobals "_law_way" = some (some (.ref f32))) (l32 : K.lookup f32 = some ⟨oc32, od32, .func (PySem.W.fnOf "_law_way" "_law_way" (defArgs s_l_way) (defBody s_l_way) (defScope s_l_way) .none kV32 dc32 pm32 an32 cd32 ct32), sl32⟩) (c32 : PySem.W.codeIn K cd32 "_law_way" = true) (k32 : PySem.W.keepIn K (.ref f32) = true)
    (a33 : PySem.W.nsIn K mainGlobals "_law_so_many" = some (some (.ref f33))) (l33 : K.lookup f33 = some ⟨oc33, od33, .func (PySem.W.fnOf "_law_so_many" "_law_so_many" (defArgs s_l_so_many) (defBody s_l_so_many) (defScope s_l_so_many) .none kV33 dc33 pm33 an33 cd33 ct33), sl33⟩) (c33 : PySem.W.codeIn K cd33 "_law_so_many" = true) (k33 : PySem.W.keepIn K (.ref f33) = true)
    (a34 : PySem.W.nsIn K mainGlobals "_law_on" = some (some (.ref f34))) (l34 : K.lookup f34 = some ⟨oc34, od34, .func (PySem.W.fnOf "_law_on" "_law_on" (defArgs s_l_on) (defBody s_l_on) (defScope s_l_on) .none kV34 dc34 pm34 an34 cd34 ct34), sl34⟩) (c34 : PySem.W.codeIn K cd34 "_law_on" = true) (k34 : PySem.W.keepIn K (.ref f34) = true)
    (a35 : PySem.W.nsIn K mainGlobals "_law_upon" = some (some (.ref f35))) (l35 : K.lookup f35 = some ⟨oc35, od35, .func (PySem.W.fnOf "_law_upon" "_law_upon" (defArgs s_l_upon) (defBody s_l_upon) (defScope s_l_upon) .none kV35 dc35 pm35 an35 cd35 ct35), sl35⟩) (c35 : PySem.W.codeIn K cd35 "_law_upon" = true) (k35 : PySem.W.keepIn K (.ref f35) = true)
    (a36 : PySem.W.nsIn K mainGlobals "_law_kick" = some (some (.ref f36))) (l36 : K.lookup f36 = some ⟨oc36, od36, .func (PySem.W.fnOf "_law_kick" "_law_kick" (defArgs s_l_kick) (defBody s_l_kick) (defScope s_l_kick) .none kV36 dc36 pm36 an36 cd36 ct36), sl36⟩) (c36 : PySem.W.codeIn K cd36 "_law_kick" = true) (k36 : PySem.W.keepIn K (.ref f36) = true)
    (a37 : PySem.W.nsIn K mainGlobals "_law_may" = some (some (.ref f37))) (l37 : K.lookup f37 = some ⟨oc37, od37, .func (PySem.W.fnOf "_law_may" "_law_may" (defArgs s_l_may) (defBody s_l_may) (defScope s_l_may) .none kV37 dc37 pm37 an37 cd37 ct37), sl37⟩) (c37 : PySem.W.codeIn K cd37 "_law_may" = true) (k37 : PySem.W.keepIn K (.ref f37) = true)
    (a38 : PySem.W.nsIn K mainGlobals "_law_is_spot" = some (some (.ref f38))) (l38 : K.lookup f38 = some ⟨oc38, od38, .func (PySem.W.fnOf "_law_is_spot" "_law_is_spot" (defArgs s_l_is_spot) (defBody s_l_is_spot) (defScope s_l_is_spot) .none kV38 dc38 pm38 an38 cd38 ct38), sl38⟩) (c38 : PySem.W.codeIn K cd38 "_law_is_spot" = true) (k38 : PySem.W.keepIn K (.ref f38) = true)
    (a39 : PySem.W.nsIn K mainGlobals "_law_row" = some (some (.ref f39))) (l39 : K.lookup f39 = some ⟨oc39, od39, .func (PySem.W.fnOf "_law_row" "_law_row" (defArgs s_l_row) (defBody s_l_row) (defScope s_l_row) .none kV39 dc39 pm39 an39 cd39 ct39), sl39⟩) (c39 : PySem.W.codeIn K cd39 "_law_row" = true) (k39 : PySem.W.keepIn K (.ref f39) = true)
    (a40 : PySem.W.nsIn K mainGlobals "_law_classes" = some (some (.ref f40))) (l40 : K.lookup f40 = some ⟨oc40, od40, .func (PySem.W.fnOf "_law_classes" "_law_classes" (defArgs s_l_classes) (defBody s_l_classes) (defScope s_l_classes) .none kV40 dc40 pm40 an40 cd40 ct40), sl40⟩) (c40 : PySem.W.codeIn K cd40 "_law_classes" = true) (k40 : PySem.W.keepIn K (.ref f40) = true)
    (a41 : PySem.W.nsIn K mainGlobals "_law_asked" = some (some (.ref f41))) (l41 : K.lookup f41 = some ⟨oc41, od41, .func (PySem.W.fnOf "_law_asked" "_law_asked" (defArgs s_l_asked) (defBody s_l_asked) (defScope s_l_asked) .none kV41 dc41 pm41 an41 cd41 ct41), sl41⟩) (c41 : PySem.W.codeIn K cd41 "_law_asked" = true) (k41 : PySem.W.keepIn K (.ref f41) = true)
    (a42 : PySem.W.nsIn K mainGlobals "_law_kept" = some (some (.ref f42))) (l42 : K.lookup f42 = some ⟨oc42, od42, .func (PySem.W.fnOf "_law_kept" "_law_kept" (defArgs s_l_kept) (defBody s_l_kept) (defScope s_l_kept) .none kV42 dc42 pm42 an42 cd42 ct42), sl42⟩) (c42 : PySem.W.codeIn K cd42 "_law_kept" = true) (k42 : PySem.W.keepIn K (.ref f42) = true)
    (a43 : PySem.W.nsIn K mainGlobals "law" = some (some (.ref f43))) (l43 : K.lookup f43 = some ⟨oc43, od43, .func (PySem.W.fnOf "law" "law" (defArgs s_law) (defBody s_law) (defScope s_law) .none kV43 dc43 pm43 an43 cd43 ct43), sl43⟩) (c43 : PySem.W.codeIn K cd43 "law" = true) (k43 : PySem.W.keepIn K (.ref f43) = true)
    (z_abs : PySem.W.nsIn K mainGlobals "abs" = some none)
    (z_bool : PySem.W.nsIn K mainGlobals "bool" = some none)
    (z_int : PySem.W.nsIn K mainGlobals "int" = some none)
    (z_isinstance : PySem.W.nsIn K mainGlobals "isinstance" = some none)
    (z_len : PySem.W.nsIn K mainGlobals "len" = some none)
    (z_max : PySem.W.nsIn K mainGlobals "max" = some none)
    (z_min : PySem.W.nsIn K mainGlobals "min" = some none)
    (z_range : PySem.W.nsIn K mainGlobals "range" = some none)
    (z_sorted : PySem.W.nsIn K mainGlobals "sorted" = some none)
    (z_str : PySem.W.nsIn K mainGlobals "str" = some none)
    (z_tuple : PySem.W.nsIn K mainGlobals "tuple" = some none)
    (z_zip : PySem.W.nsIn K mainGlobals "zip" = some none)
    (ac_BodyError : PySem.W.nsIn K mainGlobals "BodyError" = some (some (.ref c_BodyError)))
    (ac_NoShare : PySem.W.nsIn K mainGlobals "NoShare" = some (some (.ref c_NoShare)))
    (ac_Body : PySem.W.nsIn K mainGlobals "Body" = some (some (.ref c_Body)))
    (ac_Wall : PySem.W.nsIn K mainGlobals "Wall" = some (some (.ref c_Wall)))
    (ac_Free : PySem.W.nsIn K mainGlobals "Free" = some (some (.ref c_Free)))
    (ac_Railed : PySem.W.nsIn K mainGlobals "Railed" = some (some (.ref c_Railed)))
    (am0 : PySem.W.findIn K (.ref c_Wall) "__init__" = some (some (.ref fm0)))
    (im0 : PySem.W.isFn K (.ref fm0) = true)
    (lm0 : K.lookup fm0 = some ⟨ocm0, odm0, .func (PySem.W.fnOf "__init__" "Body.__init__" (defArgs s_m_Body___init__) (defBody s_m_Body___init__) (defScope s_m_Body___init__) .none kVm0 dcm0 pmm0 anm0 cdm0 ctm0), slm0⟩)
    (cm0 : PySem.W.codeIn K cdm0 "Body.__init__" = true)
    (km0 : PySem.W.keepIn K (.ref fm0) = true)
    (am1 : PySem.W.findIn K (.ref c_Wall) "answer" = some (some (.ref fm1)))
    (im1 : PySem.W.isFn K (.ref fm1) = true)
    (lm1 : K.lookup fm1 = some ⟨ocm1, odm1, .func (PySem.W.fnOf "answer" "Wall.answer" (defArgs s_m_Wall_answer) (defBody s_m_Wall_answer) (defScope s_m_Wall_answer) .none kVm1 dcm1 pmm1 anm1 cdm1 ctm1), slm1⟩)
    (cm1 : PySem.W.codeIn K cdm1 "Wall.answer" = true)
    (km1 : PySem.W.keepIn K (.ref fm1) = true)
    (am2 : PySem.W.findIn K (.ref c_Wall) "kick" = some (some (.ref fm2)))
    (im2 : PySem.W.isFn K (.ref fm2) = true)
    (lm2 : K.lookup fm2 = some ⟨ocm2, odm2, .func (PySem.W.fnOf "kick" "Wall.kick" (defArgs s_m_Wall_kick) (defBody s_m_Wall_kick) (defScope s_m_Wall_kick) .none kVm2 dcm2 pmm2 anm2 cdm2 ctm2), slm2⟩)
    (cm2 : PySem.W.codeIn K cdm2 "Wall.kick" = true)
    (km2 : PySem.W.keepIn K (.ref fm2) = true)
    (am3 : PySem.W.findIn K (.ref c_Wall) "may" = some (some (.ref fm3)))
    (im3 : PySem.W.isFn K (.ref fm3) = true)
    (lm3 : K.lookup fm3 = some ⟨ocm3, odm3, .func (PySem.W.fnOf "may" "Wall.may" (defArgs s_m_Wall_may) (defBody s_m_Wall_may) (defScope s_m_Wall_may) .none kVm3 dcm3 pmm3 anm3 cdm3 ctm3), slm3⟩)
    (cm3 : PySem.W.codeIn K cdm3 "Wall.may" = true)
    (km3 : PySem.W.keepIn K (.ref fm3) = true)
    (am4 : PySem.W.findIn K (.ref c_Free) "answer" = some (some (.ref fm4)))
    (im4 : PySem.W.isFn K (.ref fm4) = true)
    (lm4 : K.lookup fm4 = some ⟨ocm4, odm4, .func (PySem.W.fnOf "answer" "Free.answer" (defArgs s_m_Free_answer) (defBody s_m_Free_answer) (defScope s_m_Free_answer) .none kVm4 dcm4 pmm4 anm4 cdm4 ctm4), slm4⟩)
    (cm4 : PySem.W.codeIn K cdm4 "Free.answer" = true)
    (km4 : PySem.W.keepIn K (.ref fm4) = true)
    (am5 : PySem.W.findIn K (.ref c_Free) "kick" = some (some (.ref fm5)))
    (im5 : PySem.W.isFn K (.ref fm5) = true)
    (lm5 : K.lookup fm5 = some ⟨ocm5, odm5, .func (PySem.W.fnOf "kick" "Free.kick" (defArgs s_m_Free_kick) (defBody s_m_Free_kick) (defScope s_m_Free_kick) .none kVm5 dcm5 pmm5 anm5 cdm5 ctm5), slm5⟩)
    (cm5 : PySem.W.codeIn K cdm5 "Free.kick" = true)
    (km5 : PySem.W.keepIn K (.ref fm5) = true)
    (am6 : PySem.W.findIn K (.ref c_Free) "may" = some (some (.ref fm6)))
    (im6 : PySem.W.isFn K (.ref fm6) = true)
    (lm6 : K.lookup fm6 = some ⟨ocm6, odm6, .func (PySem.W.fnOf "may" "Free.may" (defArgs s_m_Free_may) (defBody s_m_Free_may) (defScope s_m_Free_may) .none kVm6 dcm6 pmm6 anm6 cdm6 ctm6), slm6⟩)
    (cm6 : PySem.W.codeIn K cdm6 "Free.may" = true)
    (km6 : PySem.W.keepIn K (.ref fm6) = true)
    (am7 : PySem.W.findIn K (.ref c_Railed) "answer" = some (some (.ref fm7)))
    (im7 : PySem.W.isFn K (.ref fm7) = true)
    (lm7 : K.lookup fm7 = some ⟨ocm7, odm7, .func (PySem.W.fnOf "answer" "Railed.answer" (defArgs s_m_Railed_answer) (defBody s_m_Railed_answer) (defScope s_m_Railed_answer) .none kVm7 dcm7 pmm7 anm7 cdm7 ctm7), slm7⟩)
    (cm7 : PySem.W.codeIn K cdm7 "Railed.answer" = true)
    (km7 : PySem.W.keepIn K (.ref fm7) = true)
    (am8 : PySem.W.findIn K (.ref c_Railed) "kick" = some (some (.ref fm8)))
    (im8 : PySem.W.isFn K (.ref fm8) = true)
    (lm8 : K.lookup fm8 = some ⟨ocm8, odm8, .func (PySem.W.fnOf "kick" "Railed.kick" (defArgs s_m_Railed_kick) (defBody s_m_Railed_kick) (defScope s_m_Railed_kick) .none kVm8 dcm8 pmm8 anm8 cdm8 ctm8), slm8⟩)
    (cm8 : PySem.W.codeIn K cdm8 "Railed.kick" = true)
    (km8 : PySem.W.keepIn K (.ref fm8) = true)
    (am9 : PySem.W.findIn K (.ref c_Railed) "may" = some (some (.ref fm9)))
    (im9 : PySem.W.isFn K (.ref fm9) = true)
    (lm9 : K.lookup fm9 = some ⟨ocm9, odm9, .func (PySem.W.fnOf "may" "Railed.may" (defArgs s_m_Railed_may) (defBody s_m_Railed_may) (defScope s_m_Railed_may) .none kVm9 dcm9 pmm9 anm9 cdm9 ctm9), slm9⟩)
    (cm9 : PySem.W.codeIn K cdm9 "Railed.may" = true)
    (km9 : PySem.W.keepIn K (.ref fm9) = true)
    (pg_Wall : PySem.W.plainGet K c_Wall Str.empty = true)
    (bhd_Wall : PySem.W.hasDictIn K c_Wall = true)
    (po_Wall : PySem.W.plainOver K c_Wall = true)
    (sa_Wall : PySem.W.findIn K (.ref c_Wall) "__setattr__" = some (some (.builtin "object.__setattr__")))
    (mki_Wall : PySem.W.makesIn K c_Wall = true)
    (ini_Wall : PySem.W.findIn K (.ref c_Wall) "__init__" = some (some (.ref fm0)))
    (kpc_Wall : PySem.W.keepIn K (.ref c_Wall) = true)
    (na_Wall_row : PySem.W.findIn K (.ref c_Wall) "row" = some none)
    (na_Wall_name : PySem.W.findIn K (.ref c_Wall) "name" = some none)
    (na_Wall_mass : PySem.W.findIn K (.ref c_Wall) "mass" = some none)
    (pg_Free : PySem.W.plainGet K c_Free Str.empty = true)
    (bhd_Free : PySem.W.hasDictIn K c_Free = true)
    (po_Free : PySem.W.plainOver K c_Free = true)
    (sa_Free : PySem.W.findIn K (.ref c_Free) "__setattr__" = some (some (.builtin "object.__setattr__")))
    (mki_Free : PySem.W.makesIn K c_Free = true)
    (ini_Free : PySem.W.findIn K (.ref c_Free) "__init__" = some (some (.ref fm0)))
    (kpc_Free : PySem.W.keepIn K (.ref c_Free) = true)
    (na_Free_row : PySem.W.findIn K (.ref c_Free) "row" = some none)
    (na_Free_name : PySem.W.findIn K (.ref c_Free) "name" = some none)
    (na_Free_mass : PySem.W.findIn K (.ref c_Free) "mass" = some none)
    (pg_Railed : PySem.W.plainGet K c_Railed Str.empty = true)
    (bhd_Railed : PySem.W.hasDictIn K c_Railed = true)
    (po_Railed : PySem.W.plainOver K c_Railed = true)
    (sa_Railed : PySem.W.findIn K (.ref c_Railed) "__setattr__" = some (some (.builtin "object.__setattr__")))
    (mki_Railed : PySem.W.makesIn K c_Railed = true)
    (ini_Railed : PySem.W.findIn K (.ref c_Railed) "__init__" = some (some (.ref fm0)))
    (kpc_Railed : PySem.W.keepIn K (.ref c_Railed) = true)
    (na_Railed_row : PySem.W.findIn K (.ref c_Railed) "row" = some none)
    (na_Railed_name : PySem.W.findIn K (.ref c_Railed) "name" = some none)
    (na_Railed_mass : PySem.W.findIn K (.ref c_Railed) "mass" = some none)
    (in1_Wall : PySem.W.findIn K (.ref c_Wall) "__class__" = some (some (.builtin "object.__class__")))
    (in2_Wall : PySem.W.specialIn K (.builtin "object.__class__") "__get__" = some (some (.builtin "getset_descriptor.__get__")))
    (in3_Wall : PySem.W.takesIn K (.builtin "object.__class__") = some true)
    (in4_Wall : PySem.W.mroIn K c_Wall (.type "object") = some true)
    (in1_Free : PySem.W.findIn K (.ref c_Free) "__class__" = some (some (.builtin "object.__class__")))
    (in2_Free : PySem.W.specialIn K (.builtin "object.__class__") "__get__" = some (some (.builtin "getset_descriptor.__get__")))
    (in3_Free : PySem.W.takesIn K (.builtin "object.__class__") = some true)
    (in4_Free : PySem.W.mroIn K c_Free (.type "object") = some true)
    (in1_Railed : PySem.W.findIn K (.ref c_Railed) "__class__" = some (some (.builtin "object.__class__")))
    (in2_Railed : PySem.W.specialIn K (.builtin "object.__class__") "__get__" = some (some (.builtin "getset_descriptor.__get__")))
    (in3_Railed : PySem.W.takesIn K (.builtin "object.__class__") = some true)
    (in4_Railed : PySem.W.mroIn K c_Railed (.type "object") = some true)
    (sc_Wall : PySem.W.subIn K (.ref c_Wall) (.ref c_Wall) = some true)
    (ic_Wall : PySem.W.isClsIn K c_Wall = true)
    (it_Wall : PySem.W.typeIn K (.ref c_Wall) = some (.type "type"))
    (is_Wall_Wall : PySem.W.subIn K (.ref c_Wall) (.ref c_Wall) = some true)
    (ic_Free : PySem.W.isClsIn K c_Free = true)
    (it_Free : PySem.W.typeIn K (.ref c_Free) = some (.type "type"))
    (is_Wall_Free : PySem.W.subIn K (.ref c_Wall) (.ref c_Free) = some false)
    (ic_Railed : PySem.W.isClsIn K c_Railed = true)
    (it_Railed : PySem.W.typeIn K (.ref c_Railed) = some (.type "type"))
    (is_Wall_Railed : PySem.W.subIn K (.ref c_Wall) (.ref c_Railed) = some false)
    (ic_Body : PySem.W.isClsIn K c_Body = true)
    (it_Body : PySem.W.typeIn K (.ref c_Body) = some (.type "type"))
    (is_Wall_Body : PySem.W.subIn K (.ref c_Wall) (.ref c_Body) = some true)
    (sc_Free : PySem.W.subIn K (.ref c_Free) (.ref c_Free) = some true)
    (is_Free_Wall : PySem.W.subIn K (.ref c_Free) (.ref c_Wall) = some false)
    (is_Free_Free : PySem.W.subIn K (.ref c_Free) (.ref c_Free) = some true)
    (is_Free_Railed : PySem.W.subIn K (.ref c_Free) (.ref c_Railed) = some false)
    (is_Free_Body : PySem.W.subIn K (.ref c_Free) (.ref c_Body) = some true)
    (sc_Railed : PySem.W.subIn K (.ref c_Railed) (.ref c_Railed) = some true)
    (is_Railed_Wall : PySem.W.subIn K (.ref c_Railed) (.ref c_Wall) = some false)
    (is_Railed_Free : PySem.W.subIn K (.ref c_Railed) (.ref c_Free) = some false)
    (is_Railed_Railed : PySem.W.subIn K (.ref c_Railed) (.ref c_Railed) = some true)
    (is_Railed_Body : PySem.W.subIn K (.ref c_Railed) (.ref c_Body) = some true)
    (an_LENGTHY : PySem.W.nsIn K mainGlobals "LENGTHY" = some (some (.int 4000 k_LENGTHY)))
    (an_NOUGHT : PySem.W.nsIn K mainGlobals "NOUGHT" = some (some (.ref n_NOUGHT)))
    (ln_NOUGHT : K.lookup n_NOUGHT = some ⟨.type "tuple", on_NOUGHT, .seq #[.int 0 tn0_NOUGHT, .int 1 tn1_NOUGHT] nn_NOUGHT, sn_NOUGHT⟩)
    (aSt : PySem.W.nsIn K mainGlobals "STILL" = some (some (.ref aS)))
    (lSt : K.lookup aS = some ⟨.type "tuple", oS, .seq #[.ref a1S, .ref a2S] nS, sS⟩)
    (l1S : K.lookup a1S = some ⟨.type "tuple", o1, .seq #[.int 0 t1, .int 1 t2] n1, s1⟩)
    (l2S : K.lookup a2S = some ⟨.type "tuple", o2, .seq #[.int 0 t3, .int 1 t4] n2, s2⟩)
    : ∃ fd : FuncData, (∀ (s : Shared) (v : Value), BindsTo s fd ⟨[v], []⟩ [("_law_script", v)]) ∧ ∀ base : Heap, K.In base → base.Ns mainGlobals mg → FnOk l.prog w K mg base CX0 11 fa fd ["_law_script"] (sp_law K) := by
  have e := hfa.symm.trans (PySem.W.mg_of X G a43)
  cases e
  have T : Tx K mg { f_p_common_divisor := f0, fd_p_common_divisor := PySem.W.fnOf "common_divisor" "common_divisor" (defArgs s_p_common_divisor) (defBody s_p_common_divisor) (defScope s_p_common_divisor) .none kV0 dc0 pm0 an0 cd0 ct0, f_p_plus := f1, fd_p_plus := PySem.W.fnOf "plus" "plus" (defArgs s_p_plus) (defBody s_p_plus) (defScope s_p_plus) .none kV1 dc1 pm1 an1 cd1 ct1, f_p_minus := f2, fd_p_minus := PySem.W.fnOf "minus" "minus" (defArgs s_p_minus) (defBody s_p_minus) (defScope s_p_minus) .none kV2 dc2 pm2 an2 cd2 ct2, f_p_times := f3, fd_p_times := PySem.W.fnOf "times" "times" (defArgs s_p_times) (defBody s_p_times) (defScope s_p_times) .none kV3 dc3 pm3 an3 cd3 ct3, f_p_over := f4, fd_p_over := PySem.W.fnOf "over" "over" (defArgs s_p_over) (defBody s_p_over) (defScope s_p_over) .none kV4 dc4 pm4 an4 cd4 ct4, f_p_share_text := f5, fd_p_share_text := PySem.W.fnOf "share_text" "share_text" (defArgs s_p_share_text) (defBody s_p_share_text) (defScope s_p_share_text) .none kV5 dc5 pm5 an5 cd5 ct5, f_p_along := f6, fd_p_along := PySem.W.fnOf "along" "along" (defArgs s_p_along) (defBody s_p_along) (defScope s_p_along) .none kV6 dc6 pm6 an6 cd6 ct6, f_p_across := f7, fd_p_across := PySem.W.fnOf "across" "across" (defArgs s_p_across) (defBody s_p_across) (defScope s_p_across) .none kV7 dc7 pm7 an7 cd7 ct7, f_p_spot_times := f8, fd_p_spot_times := PySem.W.fnOf "spot_times" "spot_times" (defArgs s_p_spot_times) (defBody s_p_spot_times) (defScope s_p_spot_times) .none kV8 dc8 pm8 an8 cd8 ct8, f_p_onto_rail := f9, fd_p_onto_rail := PySem.W.fnOf "onto_rail" "onto_rail" (defArgs s_p_onto_rail) (defBody s_p_onto_rail) (defScope s_p_onto_rail) .none kV9 dc9 pm9 an9 cd9 ct9, f_p_spot_words := f10, fd_p_spot_words := PySem.W.fnOf "spot_words" "spot_words" (defArgs s_p_spot_words) (defBody s_p_spot_words) (defScope s_p_spot_words) .none kV10 dc10 pm10 an10 cd10 ct10, f_p_corner_words := f11, fd_p_corner_words := PySem.W.fnOf "corner_words" "corner_words" (defArgs s_p_corner_words) (defBody s_p_corner_words) (defScope s_p_corner_words) .none kV11 dc11 pm11 an11 cd11 ct11, f_p_wall_words := f12, fd_p_wall_words := PySem.W.fnOf "wall_words" "wall_words" (defArgs s_p_wall_words) (defBody s_p_wall_words) (defScope s_p_wall_words) .none kV12 dc12 pm12 an12 cd12 ct12, f_p_free_words := f13, fd_p_free_words := PySem.W.fnOf "free_words" "free_words" (defArgs s_p_free_words) (defBody s_p_free_words) (defScope s_p_free_words) .none kV13 dc13 pm13 an13 cd13 ct13, f_p_rail_words := f14, fd_p_rail_words := PySem.W.fnOf "rail_words" "rail_words" (defArgs s_p_rail_words) (defBody s_p_rail_words) (defScope s_p_rail_words) .none kV14 dc14 pm14 an14 cd14 ct14, f_p_body_of := f15, fd_p_body_of := PySem.W.fnOf "body_of" "body_of" (defArgs s_p_body_of) (defBody s_p_body_of) (defScope s_p_body_of) .none kV15 dc15 pm15 an15 cd15 ct15, f_l_cell := f16, fd_l_cell := PySem.W.fnOf "_law_cell" "_law_cell" (defArgs s_l_cell) (defBody s_l_cell) (defScope s_l_cell) .none kV16 dc16 pm16 an16 cd16 ct16, f_l_mixed := f17, fd_l_mixed := PySem.W.fnOf "_law_mixed" "_law_mixed" (defArgs s_l_mixed) (defBody s_l_mixed) (defScope s_l_mixed) .none kV17 dc17 pm17 an17 cd17 ct17, f_l_deck := f18, fd_l_deck := PySem.W.fnOf "_law_deck" "_law_deck" (defArgs s_l_deck) (defBody s_l_deck) (defScope s_l_deck) .none kV18 dc18 pm18 an18 cd18 ct18, f_l_take := f19, fd_l_take := PySem.W.fnOf "_law_take" "_law_take" (defArgs s_l_take) (defBody s_l_take) (defScope s_l_take) .none kV19 dc19 pm19 an19 cd19 ct19, f_l_gcd := f20, fd_l_gcd := PySem.W.fnOf "_law_gcd" "_law_gcd" (defArgs s_l_gcd) (defBody s_l_gcd) (defScope s_l_gcd) .none kV20 dc20 pm20 an20 cd20 ct20, f_l_left := f21, fd_l_left := PySem.W.fnOf "_law_left" "_law_left" (defArgs s_l_left) (defBody s_l_left) (defScope s_l_left) .none kV21 dc21 pm21 an21 cd21 ct21, f_l_half := f22, fd_l_half := PySem.W.fnOf "_law_half" "_law_half" (defArgs s_l_half) (defBody s_l_half) (defScope s_l_half) .none kV22 dc22 pm22 an22 cd22 ct22, f_l_hull := f23, fd_l_hull := PySem.W.fnOf "_law_hull" "_law_hull" (defArgs s_l_hull) (defBody s_l_hull) (defScope s_l_hull) .none kV23 dc23 pm23 an23 cd23 ct23, f_l_number := f24, fd_l_number := PySem.W.fnOf "_law_number" "_law_number" (defArgs s_l_number) (defBody s_l_number) (defScope s_l_number) .none kV24 dc24 pm24 an24 cd24 ct24, f_l_whole := f25, fd_l_whole := PySem.W.fnOf "_law_whole" "_law_whole" (defArgs s_l_whole) (defBody s_l_whole) (defScope s_l_whole) .none kV25 dc25 pm25 an25 cd25 ct25, f_l_part := f26, fd_l_part := PySem.W.fnOf "_law_part" "_law_part" (defArgs s_l_part) (defBody s_l_part) (defScope s_l_part) .none kV26 dc26 pm26 an26 cd26 ct26, f_l_name := f27, fd_l_name := PySem.W.fnOf "_law_name" "_law_name" (defArgs s_l_name) (defBody s_l_name) (defScope s_l_name) .none kV27 dc27 pm27 an27 cd27 ct27, f_l_shape := f28, fd_l_shape := PySem.W.fnOf "_law_shape" "_law_shape" (defArgs s_l_shape) (defBody s_l_shape) (defScope s_l_shape) .none kV28 dc28 pm28 an28 cd28 ct28, f_l_drawn := f29, fd_l_drawn := PySem.W.fnOf "_law_drawn" "_law_drawn" (defArgs s_l_drawn) (defBody s_l_drawn) (defScope s_l_drawn) .none kV29 dc29 pm29 an29 cd29 ct29, f_l_spot := f30, fd_l_spot := PySem.W.fnOf "_law_spot" "_law_spot" (defArgs s_l_spot) (defBody s_l_spot) (defScope s_l_spot) .none kV30 dc30 pm30 an30 cd30 ct30, f_l_line := f31, fd_l_line := PySem.W.fnOf "_law_line" "_law_line" (defArgs s_l_line) (defBody s_l_line) (defScope s_l_line) .none kV31 dc31 pm31 an31 cd31 ct31, f_l_way := f32, fd_l_way := PySem.W.fnOf "_law_way" "_law_way" (defArgs s_l_way) (defBody s_l_way) (defScope s_l_way) .none kV32 dc32 pm32 an32 cd32 ct32, f_l_so_many := f33, fd_l_so_many := PySem.W.fnOf "_law_so_many" "_law_so_many" (defArgs s_l_so_many) (defBody s_l_so_many) (defScope s_l_so_many) .none kV33 dc33 pm33 an33 cd33 ct33, f_l_on := f34, fd_l_on := PySem.W.fnOf "_law_on" "_law_on" (defArgs s_l_on) (defBody s_l_on) (defScope s_l_on) .none kV34 dc34 pm34 an34 cd34 ct34, f_l_upon := f35, fd_l_upon := PySem.W.fnOf "_law_upon" "_law_upon" (defArgs s_l_upon) (defBody s_l_upon) (defScope s_l_upon) .none kV35 dc35 pm35 an35 cd35 ct35, f_l_kick := f36, fd_l_kick := PySem.W.fnOf "_law_kick" "_law_kick" (defArgs s_l_kick) (defBody s_l_kick) (defScope s_l_kick) .none kV36 dc36 pm36 an36 cd36 ct36, f_l_may := f37, fd_l_may := PySem.W.fnOf "_law_may" "_law_may" (defArgs s_l_may) (defBody s_l_may) (defScope s_l_may) .none kV37 dc37 pm37 an37 cd37 ct37, f_l_is_spot := f38, fd_l_is_spot := PySem.W.fnOf "_law_is_spot" "_law_is_spot" (defArgs s_l_is_spot) (defBody s_l_is_spot) (defScope s_l_is_spot) .none kV38 dc38 pm38 an38 cd38 ct38, f_l_row := f39, fd_l_row := PySem.W.fnOf "_law_row" "_law_row" (defArgs s_l_row) (defBody s_l_row) (defScope s_l_row) .none kV39 dc39 pm39 an39 cd39 ct39, f_l_classes := f40, fd_l_classes := PySem.W.fnOf "_law_classes" "_law_classes" (defArgs s_l_classes) (defBody s_l_classes) (defScope s_l_classes) .none kV40 dc40 pm40 an40 cd40 ct40, f_l_asked := f41, fd_l_asked := PySem.W.fnOf "_law_asked" "_law_asked" (defArgs s_l_asked) (defBody s_l_asked) (defScope s_l_asked) .none kV41 dc41 pm41 an41 cd41 ct41, f_l_kept := f42, fd_l_kept := PySem.W.fnOf "_law_kept" "_law_kept" (defArgs s_l_kept) (defBody s_l_kept) (defScope s_l_kept) .none kV42 dc42 pm42 an42 cd42 ct42, f_law := fa, fd_law := PySem.W.fnOf "law" "law" (defArgs s_law) (defBody s_law) (defScope s_law) .none kV43 dc43 pm43 an43 cd43 ct43, c_BodyError := c_BodyError, c_NoShare := c_NoShare, c_Body := c_Body, c_Wall := c_Wall, c_Free := c_Free, c_Railed := c_Railed, f_m_Body___init__ := fm0, fd_m_Body___init__ := PySem.W.fnOf "__init__" "Body.__init__" (defArgs s_m_Body___init__) (defBody s_m_Body___init__) (defScope s_m_Body___init__) .none kVm0 dcm0 pmm0 anm0 cdm0 ctm0, f_m_Wall_answer := fm1, fd_m_Wall_answer := PySem.W.fnOf "answer" "Wall.answer" (defArgs s_m_Wall_answer) (defBody s_m_Wall_answer) (defScope s_m_Wall_answer) .none kVm1 dcm1 pmm1 anm1 cdm1 ctm1, f_m_Wall_kick := fm2, fd_m_Wall_kick := PySem.W.fnOf "kick" "Wall.kick" (defArgs s_m_Wall_kick) (defBody s_m_Wall_kick) (defScope s_m_Wall_kick) .none kVm2 dcm2 pmm2 anm2 cdm2 ctm2, f_m_Wall_may := fm3, fd_m_Wall_may := PySem.W.fnOf "may" "Wall.may" (defArgs s_m_Wall_may) (defBody s_m_Wall_may) (defScope s_m_Wall_may) .none kVm3 dcm3 pmm3 anm3 cdm3 ctm3, f_m_Free_answer := fm4, fd_m_Free_answer := PySem.W.fnOf "answer" "Free.answer" (defArgs s_m_Free_answer) (defBody s_m_Free_answer) (defScope s_m_Free_answer) .none kVm4 dcm4 pmm4 anm4 cdm4 ctm4, f_m_Free_kick := fm5, fd_m_Free_kick := PySem.W.fnOf "kick" "Free.kick" (defArgs s_m_Free_kick) (defBody s_m_Free_kick) (defScope s_m_Free_kick) .none kVm5 dcm5 pmm5 anm5 cdm5 ctm5, f_m_Free_may := fm6, fd_m_Free_may := PySem.W.fnOf "may" "Free.may" (defArgs s_m_Free_may) (defBody s_m_Free_may) (defScope s_m_Free_may) .none kVm6 dcm6 pmm6 anm6 cdm6 ctm6, f_m_Railed_answer := fm7, fd_m_Railed_answer := PySem.W.fnOf "answer" "Railed.answer" (defArgs s_m_Railed_answer) (defBody s_m_Railed_answer) (defScope s_m_Railed_answer) .none kVm7 dcm7 pmm7 anm7 cdm7 ctm7, f_m_Railed_kick := fm8, fd_m_Railed_kick := PySem.W.fnOf "kick" "Railed.kick" (defArgs s_m_Railed_kick) (defBody s_m_Railed_kick) (defScope s_m_Railed_kick) .none kVm8 dcm8 pmm8 anm8 cdm8 ctm8, f_m_Railed_may := fm9, fd_m_Railed_may := PySem.W.fnOf "may" "Railed.may" (defArgs s_m_Railed_may) (defBody s_m_Railed_may) (defScope s_m_Railed_may) .none kVm9 dcm9 pmm9 anm9 cdm9 ctm9, k_LENGTHY := k_LENGTHY, n_NOUGHT := n_NOUGHT, n_STILL := aS } := { F_p_common_divisor := fun_mk (st := s_p_common_divisor) l0 c0 k0, b_p_common_divisor := (fun_mk (st := s_p_common_divisor) l0 c0 k0).binds (ps := ["one", "other"]) fun _ _ _ _ _ _ us hl => match us, hl with | [_, _], _ => rfl, g_p_common_divisor := PySem.W.mg_of X G a0, F_p_plus := fun_mk (st := s_p_plus) l1 c1 k1, b_p_plus := (fun_mk (st := s_p_plus) l1 c1 k1).binds (ps := ["one", "other"]) fun _ _ _ _ _ _ us hl => match us, hl with | [_, _], _ => rfl, g_p_plus := PySem.W.mg_of X G a1, F_p_minus := fun_mk (st := s_p_minus) l2 c2 k2, b_p_minus := (fun_mk (st := s_p_minus) l2 c2 k2).binds (ps := ["one", "other"]) fun _ _ _ _ _ _ us hl => match us, hl with | [_, _], _ => rfl, g_p_minus := PySem.W.mg_of X G a2, F_p_times := fun_mk (st := s_p_times) l3 c3 k3, b_p_times := (fun_mk (st := s_p_times) l3 c3 k3).binds (ps := ["one", "other"]) fun _ _ _ _ _ _ us hl => match us, hl with | [_, _], _ => rfl, g_p_times := PySem.W.mg_of X G a3, F_p_over := fun_mk (st := s_p_over) l4 c4 k4, b_p_over := (fun_mk (st := s_p_over) l4 c4 k4).binds (ps := ["one", "other"]) fun _ _ _ _ _ _ us hl => match us, hl with | [_, _], _ => rfl, g_p_over := PySem.W.mg_of X G a4, F_p_share_text := fun_mk (st := s_p_share_text) l5 c5 k5, b_p_share_text := (fun_mk (st := s_p_share_text) l5 c5 k5).binds (ps := ["one"]) fun _ _ _ _ _ _ us hl => match us, hl with | [_], _ => rfl, g_p_share_text := PySem.W.mg_of X G a5, F_p_along := fun_mk (st := s_p_along) l6 c6 k6, b_p_along := (fun_mk (st := s_p_along) l6 c6 k6).binds (ps := ["way", "spot"]) fun _ _ _ _ _ _ us hl => match us, hl with | [_, _], _ => rfl, g_p_along := PySem.W.mg_of X G a6, F_p_across := fun_mk (st := s_p_across) l7 c7 k7, b_p_across := (fun_mk (st := s_p_across) l7 c7 k7).binds (ps := ["way", "spot"]) fun _ _ _ _ _ _ us hl => match us, hl with | [_, _], _ => rfl, g_p_across := PySem.W.mg_of X G a7, F_p_spot_times := fun_mk (st := s_p_spot_times) l8 c8 k8, b_p_spot_times := (fun_mk (st := s_p_spot_times) l8 c8 k8).binds (ps := ["spot", "share"]) fun _ _ _ _ _ _ us hl => match us, hl with | [_, _], _ => rfl, g_p_spot_times := PySem.W.mg_of X G a8, F_p_onto_rail := fun_mk (st := s_p_onto_rail) l9 c9 k9, b_p_onto_rail := (fun_mk (st := s_p_onto_rail) l9 c9 k9).binds (ps := ["rail", "spot", "mass"]) fun _ _ _ _ _ _ us hl => match us, hl with | [_, _, _], _ => rfl, g_p_onto_rail := PySem.W.mg_of X G a9, F_p_spot_words := fun_mk (st := s_p_spot_words) l10 c10 k10, b_p_spot_words := (fun_mk (st := s_p_spot_words) l10 c10 k10).binds (ps := ["spot"]) fun _ _ _ _ _ _ us hl => match us, hl with | [_], _ => rfl, g_p_spot_words := PySem.W.mg_of X G a10, F_p_corner_words := fun_mk (st := s_p_corner_words) l11 c11 k11, b_p_corner_words := (fun_mk (st := s_p_corner_words) l11 c11 k11).binds (ps := ["shape"]) fun _ _ _ _ _ _ us hl => match us, hl with | [_], _ => rfl, g_p_corner_words := PySem.W.mg_of X G a11, F_p_wall_words := fun_mk (st := s_p_wall_words) l12 c12 k12, b_p_wall_words := (fun_mk (st := s_p_wall_words) l12 c12 k12).binds (ps := ["row"]) fun _ _ _ _ _ _ us hl => match us, hl with | [_], _ => rfl, g_p_wall_words := PySem.W.mg_of X G a12, F_p_free_words := fun_mk (st := s_p_free_words) l13 c13 k13, b_p_free_words := (fun_mk (st := s_p_free_words) l13 c13 k13).binds (ps := ["row"]) fun _ _ _ _ _ _ us hl => match us, hl with | [_], _ => rfl, g_p_free_words := PySem.W.mg_of X G a13, F_p_rail_words := fun_mk (st := s_p_rail_words) l14 c14 k14, b_p_rail_words := (fun_mk (st := s_p_rail_words) l14 c14 k14).binds (ps := ["row"]) fun _ _ _ _ _ _ us hl => match us, hl with | [_], _ => rfl, g_p_rail_words := PySem.W.mg_of X G a14, F_p_body_of := fun_mk (st := s_p_body_of) l15 c15 k15, b_p_body_of := (fun_mk (st := s_p_body_of) l15 c15 k15).binds (ps := ["row"]) fun _ _ _ _ _ _ us hl => match us, hl with | [_], _ => rfl, g_p_body_of := PySem.W.mg_of X G a15, F_l_cell := fun_mk (st := s_l_cell) l16 c16 k16, b_l_cell := (fun_mk (st := s_l_cell) l16 c16 k16).binds (ps := ["_law_script", "_law_k"]) fun _ _ _ _ _ _ us hl => match us, hl with | [_, _], _ => rfl, g_l_cell := PySem.W.mg_of X G a16, F_l_mixed := fun_mk (st := s_l_mixed) l17 c17 k17, b_l_mixed := (fun_mk (st := s_l_mixed) l17 c17 k17).binds (ps := ["_law_script", "_law_k", "_law_many"]) fun _ _ _ _ _ _ us hl => match us, hl with | [_, _, _], _ => rfl, g_l_mixed := PySem.W.mg_of X G a17, F_l_deck := fun_mk (st := s_l_deck) l18 c18 k18, b_l_deck := (fun_mk (st := s_l_deck) l18 c18 k18).binds (ps := ["_law_script"]) fun _ _ _ _ _ _ us hl => match us, hl with | [_], _ => rfl, g_l_deck := PySem.W.mg_of X G a18, F_l_take := fun_mk (st := s_l_take) l19 c19 k19, b_l_take := (fun_mk (st := s_l_take) l19 c19 k19).binds (ps := ["_law_deck_here", "_law_many"]) fun _ _ _ _ _ _ us hl => match us, hl with | [_, _], _ => rfl, g_l_take := PySem.W.mg_of X G a19, F_l_gcd := fun_mk (st := s_l_gcd) l20 c20 k20, b_l_gcd := (fun_mk (st := s_l_gcd) l20 c20 k20).binds (ps := ["_law_one", "_law_other"]) fun _ _ _ _ _ _ us hl => match us, hl with | [_, _], _ => rfl, g_l_gcd := PySem.W.mg_of X G a20, F_l_left := fun_mk (st := s_l_left) l21 c21 k21, b_l_left := (fun_mk (st := s_l_left) l21 c21 k21).binds (ps := ["_law_a", "_law_b", "_law_c"]) fun _ _ _ _ _ _ us hl => match us, hl with | [_, _, _], _ => rfl, g_l_left := PySem.W.mg_of X G a21, F_l_half := fun_mk (st := s_l_half) l22 c22 k22, b_l_half := (fun_mk (st := s_l_half) l22 c22 k22).binds (ps := ["_law_points"]) fun _ _ _ _ _ _ us hl => match us, hl with | [_], _ => rfl, g_l_half := PySem.W.mg_of X G a22, F_l_hull := fun_mk (st := s_l_hull) l23 c23 k23, b_l_hull := (fun_mk (st := s_l_hull) l23 c23 k23).binds (ps := ["_law_points"]) fun _ _ _ _ _ _ us hl => match us, hl with | [_], _ => rfl, g_l_hull := PySem.W.mg_of X G a23, F_l_number := fun_mk (st := s_l_number) l24 c24 k24, b_l_number := (fun_mk (st := s_l_number) l24 c24 k24).binds (ps := ["_law_deck_here", "_law_span"]) fun _ _ _ _ _ _ us hl => match us, hl with | [_, _], _ => rfl, g_l_number := PySem.W.mg_of X G a24, F_l_whole := fun_mk (st := s_l_whole) l25 c25 k25, b_l_whole := (fun_mk (st := s_l_whole) l25 c25 k25).binds (ps := ["_law_thing"]) fun _ _ _ _ _ _ us hl => match us, hl with | [_], _ => rfl, g_l_whole := PySem.W.mg_of X G a25, F_l_part := fun_mk (st := s_l_part) l26 c26 k26, b_l_part := (fun_mk (st := s_l_part) l26 c26 k26).binds (ps := ["_law_top", "_law_bottom"]) fun _ _ _ _ _ _ us hl => match us, hl with | [_, _], _ => rfl, g_l_part := PySem.W.mg_of X G a26, F_l_name := fun_mk (st := s_l_name) l27 c27 k27, b_l_name := (fun_mk (st := s_l_name) l27 c27 k27).binds (ps := ["_law_deck_here"]) fun _ _ _ _ _ _ us hl => match us, hl with | [_], _ => rfl, g_l_name := PySem.W.mg_of X G a27, F_l_shape := fun_mk (st := s_l_shape) l28 c28 k28, b_l_shape := (fun_mk (st := s_l_shape) l28 c28 k28).binds (ps := ["_law_deck_here"]) fun _ _ _ _ _ _ us hl => match us, hl with | [_], _ => rfl, g_l_shape := PySem.W.mg_of X G a28, F_l_drawn := fun_mk (st := s_l_drawn) l29 c29 k29, b_l_drawn := (fun_mk (st := s_l_drawn) l29 c29 k29).binds (ps := ["_law_deck_here"]) fun _ _ _ _ _ _ us hl => match us, hl with | [_], _ => rfl, g_l_drawn := PySem.W.mg_of X G a29, F_l_spot := fun_mk (st := s_l_spot) l30 c30 k30, b_l_spot := (fun_mk (st := s_l_spot) l30 c30 k30).binds (ps := ["_law_deck_here"]) fun _ _ _ _ _ _ us hl => match us, hl with | [_], _ => rfl, g_l_spot := PySem.W.mg_of X G a30, F_l_line := fun_mk (st := s_l_line) l31 c31 k31, b_l_line := (fun_mk (st := s_l_line) l31 c31 k31).binds (ps := ["_law_deck_here"]) fun _ _ _ _ _ _ us hl => match us, hl with | [_], _ => rfl, g_l_line := PySem.W.mg_of X G a31, F_l_way := fun_mk (st := s_l_way) l32 c32 k32, b_l_way := (fun_mk (st := s_l_way) l32 c32 k32).binds (ps := ["_law_line_here"]) fun _ _ _ _ _ _ us hl => match us, hl with | [_], _ => rfl, g_l_way := PySem.W.mg_of X G a32, F_l_so_many := fun_mk (st := s_l_so_many) l33 c33 k33, b_l_so_many := (fun_mk (st := s_l_so_many) l33 c33 k33).binds (ps := ["_law_spot_here", "_law_top", "_law_bottom"]) fun _ _ _ _ _ _ us hl => match us, hl with | [_, _, _], _ => rfl, g_l_so_many := PySem.W.mg_of X G a33, F_l_on := fun_mk (st := s_l_on) l34 c34 k34, b_l_on := (fun_mk (st := s_l_on) l34 c34 k34).binds (ps := ["_law_line_here", "_law_part_here"]) fun _ _ _ _ _ _ us hl => match us, hl with | [_, _], _ => rfl, g_l_on := PySem.W.mg_of X G a34, F_l_upon := fun_mk (st := s_l_upon) l35 c35 k35, b_l_upon := (fun_mk (st := s_l_upon) l35 c35 k35).binds (ps := ["_law_line_here", "_law_spot_here"]) fun _ _ _ _ _ _ us hl => match us, hl with | [_, _], _ => rfl, g_l_upon := PySem.W.mg_of X G a35, F_l_kick := fun_mk (st := s_l_kick) l36 c36 k36, b_l_kick := (fun_mk (st := s_l_kick) l36 c36 k36).binds (ps := ["_law_kind", "_law_line_here", "_law_spot_here"]) fun _ _ _ _ _ _ us hl => match us, hl with | [_, _, _], _ => rfl, g_l_kick := PySem.W.mg_of X G a36, F_l_may := fun_mk (st := s_l_may) l37 c37 k37, b_l_may := (fun_mk (st := s_l_may) l37 c37 k37).binds (ps := ["_law_kind", "_law_line_here", "_law_spot_here"]) fun _ _ _ _ _ _ us hl => match us, hl with | [_, _, _], _ => rfl, g_l_may := PySem.W.mg_of X G a37, F_l_is_spot := fun_mk (st := s_l_is_spot) l38 c38 k38, b_l_is_spot := (fun_mk (st := s_l_is_spot) l38 c38 k38).binds (ps := ["_law_found", "_law_due"]) fun _ _ _ _ _ _ us hl => match us, hl with | [_, _], _ => rfl, g_l_is_spot := PySem.W.mg_of X G a38, F_l_row := fun_mk (st := s_l_row) l39 c39 k39, b_l_row := (fun_mk (st := s_l_row) l39 c39 k39).binds (ps := ["_law_deck_here", "_law_kind", "_law_line_here"]) fun _ _ _ _ _ _ us hl => match us, hl with | [_, _, _], _ => rfl, g_l_row := PySem.W.mg_of X G a39, F_l_classes := fun_mk (st := s_l_classes) l40 c40 k40, b_l_classes := (fun_mk (st := s_l_classes) l40 c40 k40).binds (ps := ["_law_body", "_law_kind"]) fun _ _ _ _ _ _ us hl => match us, hl with | [_, _], _ => rfl, g_l_classes := PySem.W.mg_of X G a40, F_l_asked := fun_mk (st := s_l_asked) l41 c41 k41, b_l_asked := (fun_mk (st := s_l_asked) l41 c41 k41).binds (ps := ["_law_body", "_law_kind", "_law_line_here", "_law_row_here", "_law_spot_here", "_law_way_here"]) fun _ _ _ _ _ _ us hl => match us, hl with | [_, _, _, _, _, _], _ => rfl, g_l_asked := PySem.W.mg_of X G a41, F_l_kept := fun_mk (st := s_l_kept) l42 c42 k42, b_l_kept := (fun_mk (st := s_l_kept) l42 c42 k42).binds (ps := ["_law_body", "_law_row_here"]) fun _ _ _ _ _ _ us hl => match us, hl with | [_, _], _ => rfl, g_l_kept := PySem.W.mg_of X G a42, F_law := fun_mk (st := s_law) l43 c43 k43, b_law := (fun_mk (st := s_law) l43 c43 k43).binds (ps := ["_law_script"]) fun _ _ _ _ _ _ us hl => match us, hl with | [_], _ => rfl, g_law := PySem.W.mg_of X G a43, m_abs := PySem.W.mg_none_of X G z_abs, m_bool := PySem.W.mg_none_of X G z_bool, m_int := PySem.W.mg_none_of X G z_int, m_isinstance := PySem.W.mg_none_of X G z_isinstance, m_len := PySem.W.mg_none_of X G z_len, m_max := PySem.W.mg_none_of X G z_max, m_min := PySem.W.mg_none_of X G z_min, m_range := PySem.W.mg_none_of X G z_range, m_sorted := PySem.W.mg_none_of X G z_sorted, m_str := PySem.W.mg_none_of X G z_str, m_tuple := PySem.W.mg_none_of X G z_tuple, m_zip := PySem.W.mg_none_of X G z_zip, g_BodyError := PySem.W.mg_of X G ac_BodyError, g_NoShare := PySem.W.mg_of X G ac_NoShare, g_Body := PySem.W.mg_of X G ac_Body, g_Wall := PySem.W.mg_of X G ac_Wall, g_Free := PySem.W.mg_of X G ac_Free, g_Railed := PySem.W.mg_of X G ac_Railed, F_m_Body___init__ := fun_mk (st := s_m_Body___init__) lm0 cm0 km0, b_m_Body___init__ := (fun_mk (st := s_m_Body___init__) lm0 cm0 km0).binds (ps := ["self", "row"]) fun _ _ _ _ _ _ us hl => match us, hl with | [_, _], _ => rfl, F_m_Wall_answer := fun_mk (st := s_m_Wall_answer) lm1 cm1 km1, b_m_Wall_answer := (fun_mk (st := s_m_Wall_answer) lm1 cm1 km1).binds (ps := ["self", "push"]) fun _ _ _ _ _ _ us hl => match us, hl with | [_, _], _ => rfl, mt_m_Wall_answer := ⟨am1, im1, km1⟩, F_m_Wall_kick := fun_mk (st := s_m_Wall_kick) lm2 cm2 km2, b_m_Wall_kick := (fun_mk (st := s_m_Wall_kick) lm2 cm2 km2).binds (ps := ["self", "pull"]) fun _ _ _ _ _ _ us hl => match us, hl with | [_, _], _ => rfl, mt_m_Wall_kick := ⟨am2, im2, km2⟩, F_m_Wall_may := fun_mk (st := s_m_Wall_may) lm3 cm3 km3, b_m_Wall_may := (fun_mk (st := s_m_Wall_may) lm3 cm3 km3).binds (ps := ["self", "speed"]) fun _ _ _ _ _ _ us hl => match us, hl with | [_, _], _ => rfl, mt_m_Wall_may := ⟨am3, im3, km3⟩, F_m_Free_answer := fun_mk (st := s_m_Free_answer) lm4 cm4 km4, b_m_Free_answer := (fun_mk (st := s_m_Free_answer) lm4 cm4 km4).binds (ps := ["self", "push"]) fun _ _ _ _ _ _ us hl => match us, hl with | [_, _], _ => rfl, mt_m_Free_answer := ⟨am4, im4, km4⟩, F_m_Free_kick := fun_mk (st := s_m_Free_kick) lm5 cm5 km5, b_m_Free_kick := (fun_mk (st := s_m_Free_kick) lm5 cm5 km5).binds (ps := ["self", "pull"]) fun _ _ _ _ _ _ us hl => match us, hl with | [_, _], _ => rfl, mt_m_Free_kick := ⟨am5, im5, km5⟩, F_m_Free_may := fun_mk (st := s_m_Free_may) lm6 cm6 km6, b_m_Free_may := (fun_mk (st := s_m_Free_may) lm6 cm6 km6).binds (ps := ["self", "speed"]) fun _ _ _ _ _ _ us hl => match us, hl with | [_, _], _ => rfl, mt_m_Free_may := ⟨am6, im6, km6⟩, F_m_Railed_answer := fun_mk (st := s_m_Railed_answer) lm7 cm7 km7, b_m_Railed_answer := (fun_mk (st := s_m_Railed_answer) lm7 cm7 km7).binds (ps := ["self", "push"]) fun _ _ _ _ _ _ us hl => match us, hl with | [_, _], _ => rfl, mt_m_Railed_answer := ⟨am7, im7, km7⟩, F_m_Railed_kick := fun_mk (st := s_m_Railed_kick) lm8 cm8 km8, b_m_Railed_kick := (fun_mk (st := s_m_Railed_kick) lm8 cm8 km8).binds (ps := ["self", "pull"]) fun _ _ _ _ _ _ us hl => match us, hl with | [_, _], _ => rfl, mt_m_Railed_kick := ⟨am8, im8, km8⟩, F_m_Railed_may := fun_mk (st := s_m_Railed_may) lm9 cm9 km9, b_m_Railed_may := (fun_mk (st := s_m_Railed_may) lm9 cm9 km9).binds (ps := ["self", "speed"]) fun _ _ _ _ _ _ us hl => match us, hl with | [_, _], _ => rfl, mt_m_Railed_may := ⟨am9, im9, km9⟩, na_Wall_row := na_Wall_row, na_Wall_name := na_Wall_name, na_Wall_mass := na_Wall_mass, cl_Wall := ⟨pg_Wall, bhd_Wall, po_Wall, sa_Wall⟩, mk_Wall := ⟨mki_Wall, ini_Wall, im0, kpc_Wall⟩, na_Free_row := na_Free_row, na_Free_name := na_Free_name, na_Free_mass := na_Free_mass, cl_Free := ⟨pg_Free, bhd_Free, po_Free, sa_Free⟩, mk_Free := ⟨mki_Free, ini_Free, im0, kpc_Free⟩, na_Railed_row := na_Railed_row, na_Railed_name := na_Railed_name, na_Railed_mass := na_Railed_mass, cl_Railed := ⟨pg_Railed, bhd_Railed, po_Railed, sa_Railed⟩, mk_Railed := ⟨mki_Railed, ini_Railed, im0, kpc_Railed⟩, in1_Wall := in1_Wall, in2_Wall := in2_Wall, in3_Wall := in3_Wall, in4_Wall := in4_Wall, in1_Free := in1_Free, in2_Free := in2_Free, in3_Free := in3_Free, in4_Free := in4_Free, in1_Railed := in1_Railed, in2_Railed := in2_Railed, in3_Railed := in3_Railed, in4_Railed := in4_Railed, i_Wall_Wall := kit_ref ic_Wall it_Wall is_Wall_Wall sc_Wall, i_Wall_Free := kit_ref ic_Free it_Free is_Wall_Free sc_Wall, i_Wall_Railed := kit_ref ic_Railed it_Railed is_Wall_Railed sc_Wall, i_Wall_Body := kit_ref ic_Body it_Body is_Wall_Body sc_Wall, i_Free_Wall := kit_ref ic_Wall it_Wall is_Free_Wall sc_Free, i_Free_Free := kit_ref ic_Free it_Free is_Free_Free sc_Free, i_Free_Railed := kit_ref ic_Railed it_Railed is_Free_Railed sc_Free, i_Free_Body := kit_ref ic_Body it_Body is_Free_Body sc_Free, i_Railed_Wall := kit_ref ic_Wall it_Wall is_Railed_Wall sc_Railed, i_Railed_Free := kit_ref ic_Free it_Free is_Railed_Free sc_Railed, i_Railed_Railed := kit_ref ic_Railed it_Railed is_Railed_Railed sc_Railed, i_Railed_Body := kit_ref ic_Body it_Body is_Railed_Body sc_Railed, g_LENGTHY := PySem.W.mg_of X G an_LENGTHY, g_NOUGHT := PySem.W.mg_of X G an_NOUGHT, t_NOUGHT := fun H => .inr ⟨_, _, _, ln_NOUGHT, rfl, rfl, size63 (show 2 ≤ 1000 by decide), (.cons ⟨_, rfl⟩ (.cons ⟨_, rfl⟩ .nil))⟩, g_STILL := PySem.W.mg_of X G aSt, t_STILL := ⟨a1S, a2S, fun H => .inr ⟨_, _, _, lSt, rfl, rfl, size63 (show 2 ≤ 1000 by decide), .cons rfl (.cons rfl .nil)⟩, fun H => .inr ⟨_, _, _, l1S, rfl, rfl, size63 (show 2 ≤ 1000 by decide), .cons ⟨_, rfl⟩ (.cons ⟨_, rfl⟩ .nil)⟩, fun H => .inr ⟨_, _, _, l2S, rfl, rfl, size63 (show 2 ≤ 1000 by decide), .cons ⟨_, rfl⟩ (.cons ⟨_, rfl⟩ .nil)⟩⟩ }
  exact ⟨PySem.W.fnOf "law" "law" (defArgs s_law) (defBody s_law) (defScope s_law) .none kV43 dc43 pm43 an43 cd43 ct43, fun s v => .of_eq rfl, fun base _ _ => ok_law T⟩
end R
open PySem PySem.W PyProof.Rows
set_option maxRecDepth 100000 in
set_option maxHeartbeats 0 in
theorem PySem.Challenge.cw_restbodies_k11_answers_and_kicks_holds : PySem.Challenge.rw_restbodies_k11_answers_and_kicks.Holds := by
  w_on; o_law; k_head; (case hw => w_witness2)
  k_fill
  refine L2.walk_of (l := PySem.Challenge.rw_restbodies_k11_answers_and_kicks) (n := 63) (k := 11) (x := "_law_script") (CX := fun _ => L2.CX0) (sp := fun w => R.sp_law _) rfl (by decide) rfl ⟨rfl, by decide, by decide⟩ (fun w h Y => PySem.W.kIn_of Y) ?F (fun _ _ a ns hl hO hS => ⟨a, ns, rfl, hO, hS, hl, fun _ => rfl⟩) (fun _ _ _ _ _ h => h)
  case F =>
    intro w mg fa h KX G hmg
    refine' R.all_mk KX G hmg ?a0 ?l0 ?c0 ?k0 ?a1 ?l1 ?c1 ?k1 ?a2 ?l2 ?c2 ?k2 ?a3 ?l3 ?c3 ?k3 ?a4 ?l4 ?c4 ?k4 ?a5 ?l5 ?c5 ?k5 ?a6 ?l6 ?c6 ?k6 ?a7 ?l7 ?c7 ?k7 ?a8 ?l8 ?c8 ?k8 ?a9 ?l9 ?c9 ?k9 ?a10 ?l10 ?c10 ?k10 ?a11 ?l11 ?c11 ?k11 ?a12 ?l12 ?c12 ?k12 ?a13 ?l13 ?c13 ?k13 ?a14 ?l14 ?c14 ?k14 ?a15 ?l15 ?c15 ?k15 ?a16 ?l16 ?c16 ?k16 ?a17 ?l17 ?c17 ?k17 ?a18 ?l18 ?c18 ?k18 ?a19 ?l19 ?c19 ?k19 ?a20 ?l20 ?c20 ?k20 ?a21 ?l21 ?c21 ?k21 ?a22 ?l22 ?c22 ?k22 ?a23 ?l23 ?c23 ?k23 ?a24 ?l24 ?c24 ?k24 ?a25 ?l25 ?c25 ?k25 ?a26 ?l26 ?c26 ?k26 ?a27 ?l27 ?c27 ?k27 ?a28 ?l28 ?c28 ?k28 ?a29 ?l29 ?c29 ?k29 ?a30 ?l30 ?c30 ?k30 ?a31 ?l31 ?c31 ?k31 ?a32 ?l32 ?c32 ?k32 ?a33 ?l33 ?c33 ?k33 ?a34 ?l34 ?c34 ?k34 ?a35 ?l35 ?c35 ?k35 ?a36 ?l36 ?c36 ?k36 ?a37 ?l37 ?c37 ?k37 ?a38 ?l38 ?c38 ?k38 ?a39 ?l39 ?c39 ?k39 ?a40 ?l40 ?c40 ?k40 ?a41 ?l41 ?c41 ?k41 ?a42 ?l42 ?c42 ?k42 ?a43 ?l43 ?c43 ?k43 ?z_abs ?z_bool ?z_int ?z_isinstance ?z_len ?z_max ?z_min ?z_range ?z_sorted ?z_str ?z_tuple ?z_zip ?ac_BodyError ?ac_NoShare ?ac_Body ?ac_Wall ?ac_Free ?ac_Railed ?am0 ?im0 ?lm0 ?cm0 ?km0 ?am1 ?im1 ?lm1 ?cm1 ?km1 ?am2 ?im2 ?lm2 ?cm2 ?km2 ?am3 ?im3 ?lm3 ?cm3 ?km3 ?am4 ?im4 ?lm4 ?cm4 ?km4 ?am5 ?im5 ?lm5 ?cm5 ?km5 ?am6 ?im6 ?lm6 ?cm6 ?km6 ?am7 ?im7 ?lm7 ?cm7 ?km7 ?am8 ?im8 ?lm8 ?cm8 ?km8 ?am9 ?im9 ?lm9 ?cm9 ?km9 ?pg_Wall ?bhd_Wall ?po_Wall ?sa_Wall ?mki_Wall ?ini_Wall ?kpc_Wall ?na_Wall_row ?na_Wall_name ?na_Wall_mass ?pg_Free ?bhd_Free ?po_Free ?sa_Free ?mki_Free ?ini_Free ?kpc_Free ?na_Free_row ?na_Free_name ?na_Free_mass ?pg_Railed ?bhd_Railed ?po_Railed ?sa_Railed ?mki_Railed ?ini_Railed ?kpc_Railed ?na_Railed_row ?na_Railed_name ?na_Railed_mass ?in1_Wall ?in2_Wall ?in3_Wall ?in4_Wall ?in1_Free ?in2_Free ?in3_Free ?in4_Free ?in1_Railed ?in2_Railed ?in3_Railed ?in4_Railed ?sc_Wall ?ic_Wall ?it_Wall ?is_Wall_Wall ?ic_Free ?it_Free ?is_Wall_Free ?ic_Railed ?it_Railed ?is_Wall_Railed ?ic_Body ?it_Body ?is_Wall_Body ?sc_Free ?is_Free_Wall ?is_Free_Free ?is_Free_Railed ?is_Free_Body ?sc_Railed ?is_Railed_Wall ?is_Railed_Free ?is_Railed_Railed ?is_Railed_Body ?an_LENGTHY ?an_NOUGHT ?ln_NOUGHT ?aSt ?lSt ?l1S ?l2S
    (case a0 => k_is)
    (case l0 => k_is)
    (case c0 => k_is)
    (case k0 => k_is)
    (case a1 => k_is)
    (case l1 => k_is)
    (case c1 => k_is)
    (case k1 => k_is)
    (case a2 => k_is)
    (case l2 => k_is)
    (case c2 => k_is)
    (case k2 => k_is)
    (case a3 => k_is)
    (case l3 => k_is)
    (case c3 => k_is)
    (case k3 => k_is)
    (case a4 => k_is)
    (case l4 => k_is)
    (case c4 => k_is)
    (case k4 => k_is)
    (case a5 => k_is)
    (case l5 => k_is)
    (case c5 => k_is)
    (case k5 => k_is)
    (case a6 => k_is)
    (case l6 => k_is)
    (case c6 => k_is)
    (case k6 => k_is)
    (case a7 => k_is)
    (case l7 => k_is)
    (case c7 => k_is)
    (case k7 => k_is)
    (case a8 => k_is)
    (case l8 => k_is)
    (case c8 => k_is)
    (case k8 => k_is)
    (case a9 => k_is)
    (case l9 => k_is)
    (case c9 => k_is)
    (case k9 => k_is)
    (case a10 => k_is)
    (case l10 => k_is)
    (case c10 => k_is)
    (case k10 => k_is)
    (case a11 => k_is)
    (case l11 => k_is)
    (case c11 => k_is)
    (case k11 => k_is)
    (case a12 => k_is)
    (case l12 => k_is)
    (case c12 => k_is)
    (case k12 => k_is)
    (case a13 => k_is)
    (case l13 => k_is)
    (case c13 => k_is)
    (case k13 => k_is)
    (case a14 => k_is)
    (case l14 => k_is)
    (case c14 => k_is)
    (case k14 => k_is)
    (case a15 => k_is)
    (case l15 => k_is)
    (case c15 => k_is)
    (case k15 => k_is)
    (case a16 => k_is)
    (case l16 => k_is)
    (case c16 => k_is)
    (case k16 => k_is)
    (case a17 => k_is)
    (case l17 => k_is)
    (case c17 => k_is)
    (case k17 => k_is)
    (case a18 => k_is)
    (case l18 => k_is)
    (case c18 => k_is)
    (case k18 => k_is)
    (case a19 => k_is)
    (case l19 => k_is)
    (case c19 => k_is)
    (case k19 => k_is)
    (case a20 => k_is)
    (case l20 => k_is)
    (case c20 => k_is)
    (case k20 => k_is)
    (case a21 => k_is)
    (case l21 => k_is)
    (case c21 => k_is)
    (case k21 => k_is)
    (case a22 => k_is)
    (case l22 => k_is)
    (case c22 => k_is)
    (case k22 => k_is)
    (case a23 => k_is)
    (case l23 => k_is)
    (case c23 => k_is)
    (case k23 => k_is)
    (case a24 => k_is)
    (case l24 => k_is)
    (case c24 => k_is)
    (case k24 => k_is)
    (case a25 => k_is)
    (case l25 => k_is)
    (case c25 => k_is)
    (case k25 => k_is)
    (case a26 => k_is)
    (case l26 => k_is)
    (case c26 => k_is)
    (case k26 => k_is)
    (case a27 => k_is)
    (case l27 => k_is)
    (case c27 => k_is)
    (case k27 => k_is)
    (case a28 => k_is)
    (case l28 => k_is)
    (case c28 => k_is)
    (case k28 => k_is)
    (case a29 => k_is)
    (case l29 => k_is)
    (case c29 => k_is)
    (case k29 => k_is)
    (case a30 => k_is)
    (case l30 => k_is)
    (case c30 => k_is)
    (case k30 => k_is)
    (case a31 => k_is)
    (case l31 => k_is)
    (case c31 => k_is)
    (case k31 => k_is)
    (case a32 => k_is)
    (case l32 => k_is)
    (case c32 => k_is)
    (case k32 => k_is)
    (case a33 => k_is)
    (case l33 => k_is)
    (case c33 => k_is)
    (case k33 => k_is)
    (case a34 => k_is)
    (case l34 => k_is)
    (case c34 => k_is)
    (case k34 => k_is)
    (case a35 => k_is)
    (case l35 => k_is)
    (case c35 => k_is)
    (case k35 => k_is)
    (case a36 => k_is)
    (case l36 => k_is)
    (case c36 => k_is)
    (case k36 => k_is)
    (case a37 => k_is)
    (case l37 => k_is)
    (case c37 => k_is)
    (case k37 => k_is)
    (case a38 => k_is)
    (case l38 => k_is)
    (case c38 => k_is)
    (case k38 => k_is)
    (case a39 => k_is)
    (case l39 => k_is)
    (case c39 => k_is)
    (case k39 => k_is)
    (case a40 => k_is)
    (case l40 => k_is)
    (case c40 => k_is)
    (case k40 => k_is)
    (case a41 => k_is)
    (case l41 => k_is)
    (case c41 => k_is)
    (case k41 => k_is)
    (case a42 => k_is)
    (case l42 => k_is)
    (case c42 => k_is)
    (case k42 => k_is)
    (case a43 => k_is)
    (case l43 => k_is)
    (case c43 => k_is)
    (case k43 => k_is)
    (case z_abs => k_is)
    (case z_bool => k_is)
    (case z_int => k_is)
    (case z_isinstance => k_is)
    (case z_len => k_is)
    (case z_max => k_is)
    (case z_min => k_is)
    (case z_range => k_is)
    (case z_sorted => k_is)
    (case z_str => k_is)
    (case z_tuple => k_is)
    (case z_zip => k_is)
    (case ac_BodyError => k_is)
    (case ac_NoShare => k_is)
    (case ac_Body => k_is)
    (case ac_Wall => k_is)
    (case ac_Free => k_is)
    (case ac_Railed => k_is)
    (case am0 => k_is)
    (case im0 => k_is)
    (case lm0 => k_is)
    (case cm0 => k_is)
    (case km0 => k_is)
    (case am1 => k_is)
    (case im1 => k_is)
    (case lm1 => k_is)
    (case cm1 => k_is)
    (case km1 => k_is)
    (case am2 => k_is)
    (case im2 => k_is)
    (case lm2 => k_is)
    (case cm2 => k_is)
    (case km2 => k_is)
    (case am3 => k_is)
    (case im3 => k_is)
    (case lm3 => k_is)
    (case cm3 => k_is)
    (case km3 => k_is)
    (case am4 => k_is)
    (case im4 => k_is)
    (case lm4 => k_is)
    (case cm4 => k_is)
    (case km4 => k_is)
    (case am5 => k_is)
    (case im5 => k_is)
    (case lm5 => k_is)
    (case cm5 => k_is)
    (case km5 => k_is)
    (case am6 => k_is)
    (case im6 => k_is)
    (case lm6 => k_is)
    (case cm6 => k_is)
    (case km6 => k_is)
    (case am7 => k_is)
    (case im7 => k_is)
    (case lm7 => k_is)
    (case cm7 => k_is)
    (case km7 => k_is)
    (case am8 => k_is)
    (case im8 => k_is)
    (case lm8 => k_is)
    (case cm8 => k_is)
    (case km8 => k_is)
    (case am9 => k_is)
    (case im9 => k_is)
    (case lm9 => k_is)
    (case cm9 => k_is)
    (case km9 => k_is)
    (case pg_Wall => k_is)
    (case bhd_Wall => k_is)
    (case po_Wall => k_is)
    (case sa_Wall => k_is)
    (case mki_Wall => k_is)
    (case ini_Wall => k_is)
    (case kpc_Wall => k_is)
    (case na_Wall_row => k_is)
    (case na_Wall_name => k_is)
    (case na_Wall_mass => k_is)
    (case pg_Free => k_is)
    (case bhd_Free => k_is)
    (case po_Free => k_is)
    (case sa_Free => k_is)
    (case mki_Free => k_is)
    (case ini_Free => k_is)
    (case kpc_Free => k_is)
    (case na_Free_row => k_is)
    (case na_Free_name => k_is)
    (case na_Free_mass => k_is)
    (case pg_Railed => k_is)
    (case bhd_Railed => k_is)
    (case po_Railed => k_is)
    (case sa_Railed => k_is)
    (case mki_Railed => k_is)
    (case ini_Railed => k_is)
    (case kpc_Railed => k_is)
    (case na_Railed_row => k_is)
    (case na_Railed_name => k_is)
    (case na_Railed_mass => k_is)
    (case in1_Wall => k_is)
    (case in2_Wall => k_is)
    (case in3_Wall => k_is)
    (case in4_Wall => k_is)
    (case in1_Free => k_is)
    (case in2_Free => k_is)
    (case in3_Free => k_is)
    (case in4_Free => k_is)
    (case in1_Railed => k_is)
    (case in2_Railed => k_is)
    (case in3_Railed => k_is)
    (case in4_Railed => k_is)
    (case sc_Wall => k_is)
    (case ic_Wall => k_is)
    (case it_Wall => k_is)
    (case is_Wall_Wall => k_is)
    (case ic_Free => k_is)
    (case it_Free => k_is)
    (case is_Wall_Free => k_is)
    (case ic_Railed => k_is)
    (case it_Railed => k_is)
    (case is_Wall_Railed => k_is)
    (case ic_Body => k_is)
    (case it_Body => k_is)
    (case is_Wall_Body => k_is)
    (case sc_Free => k_is)
    (case is_Free_Wall => k_is)
    (case is_Free_Free => k_is)
    (case is_Free_Railed => k_is)
    (case is_Free_Body => k_is)
    (case sc_Railed => k_is)
    (case is_Railed_Wall => k_is)
    (case is_Railed_Free => k_is)
    (case is_Railed_Railed => k_is)
    (case is_Railed_Body => k_is)
    (case an_LENGTHY => k_is)
    (case an_NOUGHT => k_is)
    (case ln_NOUGHT => k_is)
    (case aSt => k_is)
    (case lSt => k_is)
    (case l1S => k_is)
    (case l2S => k_is)
